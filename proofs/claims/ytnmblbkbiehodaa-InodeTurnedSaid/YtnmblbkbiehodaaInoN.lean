import Derived.Test.YtnmblbkbiehodaaInoM
namespace Go.Proofs.Ytnmblbkbiehodaa
open Go.RowKit Go.WideShapes
set_option linter.unusedSimpArgs false
set_option linter.unusedVariables false

set_option maxHeartbeats 16000000 in
set_option maxRecDepth 100000 in
theorem mayInoRef_any (i : InoT) (w : World) : Calls Try.prog 12 #[inoV i] w fun e w' => e = .returned (.bool (mayI i)) ∧ Below w.heap.size w w' := by
  have hG := @mayI_good i
  have hF := @mayI_file i
  have hD := @mayI_dir i
  have hE := @mayI_else i
  obtain ⟨k, l, s, b0, b1, b2, b3, o0, o1, o2, o3, o4, o5, o6, o7⟩ := i
  have HB : Hid (Below w.heap.size w (w.alloc (.cells #[.int .i64 k, .int .i64 l, .int .i64 s, .int .i64 b0, .int .i64 b1, .int .i64 b2, .int .i64 b3, .int .i64 o0, .int .i64 o1, .int .i64 o2, .int .i64 o3, .int .i64 o4, .int .i64 o5, .int .i64 o6, .int .i64 o7] 25))) := (Below.refl w.heap.size w).alloc (Nat.le_refl _) _
  have K0 : Hid (Blk (w.alloc (.cells #[.int .i64 k, .int .i64 l, .int .i64 s, .int .i64 b0, .int .i64 b1, .int .i64 b2, .int .i64 b3, .int .i64 o0, .int .i64 o1, .int .i64 o2, .int .i64 o3, .int .i64 o4, .int .i64 o5, .int .i64 o6, .int .i64 o7] 25)) w.heap.size 25 [.int .i64 k, .int .i64 l, .int .i64 s, .int .i64 b0, .int .i64 b1, .int .i64 b2, .int .i64 b3, .int .i64 o0, .int .i64 o1, .int .i64 o2, .int .i64 o3, .int .i64 o4, .int .i64 o5, .int .i64 o6, .int .i64 o7]) := heap_alloc_new w _
  unfold inoV inoC
  generalize mayI ⟨k, l, s, b0, b1, b2, b3, o0, o1, o2, o3, o4, o5, o6, o7⟩ = M at *
  simp only [goodB, goodD, goodO, goodO1, goodF, goodF1, inoL] at hG hF hD hE
  have HG := hid hG; have HF := hid hF; have HD := hid hD; have HE := hid hE
  clear hG hF hD hE
  have E := eqIno k l s b0 b1 b2 b3 o0 o1 o2 o3 o4 o5 o6 o7 0 0 0 0 0 0 0 0 0 0 0 0 0 0 0
  obtain ⟨z, hz⟩ : ∃ z, decide ([k, l, s, b0, b1, b2, b3, o0, o1, o2, o3, o4, o5, o6, o7] = [0, 0, 0, 0, 0, 0, 0, 0, 0, 0, 0, 0, 0, 0, 0]) = z := ⟨_, rfl⟩
  rw [hz] at E
  have HZ := hid hz
  clear hz
  by_cases hk1 : k = 1
  · have e1 : (k != 1) = false := by simpa using hk1
    have e2 : (k == 1) = true := by simpa using hk1
    have HK1 := hid hk1
    clear hk1
    go_enter Try.func12, Try.ntmps12
    go_wp2_with fail
    go_loopw [3] (fun i wr => ∃ K : Nat, K ≤ 4 ∧ i = .int .i64 K ∧ ((1 ≤ K → 0 ≤ b0 ∧ b0 ≤ 128) ∧ (2 ≤ K → 0 ≤ b1 ∧ b1 ≤ 128) ∧ (3 ≤ K → 0 ≤ b2 ∧ b2 ≤ 128) ∧ (4 ≤ K → 0 ≤ b3 ∧ b3 ≤ 128) ∧ (2 ≤ K → ¬ (b0 ≠ 0 ∧ b0 = b1)) ∧ (3 ≤ K → ¬ (b0 ≠ 0 ∧ b0 = b2) ∧ ¬ (b1 ≠ 0 ∧ b1 = b2)) ∧ (4 ≤ K → ¬ (b0 ≠ 0 ∧ b0 = b3) ∧ ¬ (b1 ≠ 0 ∧ b1 = b3) ∧ ¬ (b2 ≠ 0 ∧ b2 = b3))) ∧ Blk wr w.heap.size 25 [.int .i64 k, .int .i64 l, .int .i64 s, .int .i64 b0, .int .i64 b1, .int .i64 b2, .int .i64 b3, .int .i64 o0, .int .i64 o1, .int .i64 o2, .int .i64 o3, .int .i64 o4, .int .i64 o5, .int .i64 o6, .int .i64 o7] ∧ Below w.heap.size w wr) (fun i _ => 4 - (intOf i).toNat)
    case atStart => exact ⟨0, by omega, rfl, ⟨fun h => absurd h (by omega), fun h => absurd h (by omega), fun h => absurd h (by omega), fun h => absurd h (by omega), fun h => absurd h (by omega), fun h => absurd h (by omega), fun h => absurd h (by omega)⟩, K0.out, HB.out⟩
    case round =>
    obtain ⟨K, hK, rfl, hp, kb, bb⟩ := hrel
    have HP := hid hp
    clear hp
    have z0 : wr.cell? ⟨w.heap.size, 0, none⟩ = some (.int .i64 k) := Blk.cell kb (i := 0) (by simp)
    have z1 : wr.cell? ⟨w.heap.size, 1, none⟩ = some (.int .i64 l) := Blk.cell kb (i := 1) (by simp)
    have z2 : wr.cell? ⟨w.heap.size, 2, none⟩ = some (.int .i64 s) := Blk.cell kb (i := 2) (by simp)
    have z3 : wr.cell? ⟨w.heap.size, 3, none⟩ = some (.int .i64 b0) := Blk.cell kb (i := 3) (by simp)
    have z4 : wr.cell? ⟨w.heap.size, 4, none⟩ = some (.int .i64 b1) := Blk.cell kb (i := 4) (by simp)
    have z5 : wr.cell? ⟨w.heap.size, 5, none⟩ = some (.int .i64 b2) := Blk.cell kb (i := 5) (by simp)
    have z6 : wr.cell? ⟨w.heap.size, 6, none⟩ = some (.int .i64 b3) := Blk.cell kb (i := 6) (by simp)
    have z7 : wr.cell? ⟨w.heap.size, 7, none⟩ = some (.int .i64 o0) := Blk.cell kb (i := 7) (by simp)
    have z8 : wr.cell? ⟨w.heap.size, 8, none⟩ = some (.int .i64 o1) := Blk.cell kb (i := 8) (by simp)
    have z9 : wr.cell? ⟨w.heap.size, 9, none⟩ = some (.int .i64 o2) := Blk.cell kb (i := 9) (by simp)
    have z10 : wr.cell? ⟨w.heap.size, 10, none⟩ = some (.int .i64 o3) := Blk.cell kb (i := 10) (by simp)
    have z11 : wr.cell? ⟨w.heap.size, 11, none⟩ = some (.int .i64 o4) := Blk.cell kb (i := 11) (by simp)
    have z12 : wr.cell? ⟨w.heap.size, 12, none⟩ = some (.int .i64 o5) := Blk.cell kb (i := 12) (by simp)
    have z13 : wr.cell? ⟨w.heap.size, 13, none⟩ = some (.int .i64 o6) := Blk.cell kb (i := 13) (by simp)
    have z14 : wr.cell? ⟨w.heap.size, 14, none⟩ = some (.int .i64 o7) := Blk.cell kb (i := 14) (by simp)
    have KB := hid kb; have BB := hid bb
    clear kb bb
    rcases (by omega : K = 0 ∨ K = 1 ∨ K = 2 ∨ K = 3 ∨ K = 4) with rfl | rfl | rfl | rfl | rfl
    · skip
      rw [show ((0 : Nat) : Int) = 0 from rfl]
      rcases (by omega : b0 < 0 ∨ (¬ b0 < 0 ∧ 128 < b0) ∨ (0 ≤ b0 ∧ b0 ≤ 128)) with h | ⟨h, h'⟩ | h
      · have HOK : Hid (M = false) := by
          cases hMM : M
          · rfl
          · exfalso
            have hh := (HG.out hMM).1
            omega
        have d5 : decide (b0 < 0) = true := decide_eq_true h
        clear h
        go_wp2_with fail
        go_ret
        exact ⟨by rw [HOK.out]; rfl, BB.out⟩
      · have HOK : Hid (M = false) := by
          cases hMM : M
          · rfl
          · exfalso
            have hh := (HG.out hMM).1
            omega
        have d5 : decide (b0 < 0) = false := decide_eq_false h
        have d6 : decide (128 < b0) = true := decide_eq_true h'
        clear h h'
        go_wp2_with fail
        go_ret
        exact ⟨by rw [HOK.out]; rfl, BB.out⟩
      · have HH := hid h
        have d5 : decide (b0 < 0) = false := decide_eq_false (by omega)
        have d6 : decide (128 < b0) = false := decide_eq_false (by omega)
        clear h
        obtain ⟨wo, hwo⟩ : ∃ x, x = wr := ⟨_, rfl⟩
        subst hwo
        go_wp2_with fail
        go_loopw [4] (fun i wr => ∃ J : Nat, J ≤ 0 ∧ i = .int .i64 J ∧ (True) ∧ Blk wr w.heap.size 25 [.int .i64 k, .int .i64 l, .int .i64 s, .int .i64 b0, .int .i64 b1, .int .i64 b2, .int .i64 b3, .int .i64 o0, .int .i64 o1, .int .i64 o2, .int .i64 o3, .int .i64 o4, .int .i64 o5, .int .i64 o6, .int .i64 o7] ∧ Below w.heap.size w wr) (fun i _ => 0 - (intOf i).toNat)
        case atStart => exact ⟨0, by omega, rfl, trivial, KB.out, BB.out⟩
        case round =>
        obtain ⟨J, hJ, rfl, hp2, kb, bb⟩ := hrel
        have HP2 := hid hp2
        clear hp2
        have y0 : wr.cell? ⟨w.heap.size, 0, none⟩ = some (.int .i64 k) := Blk.cell kb (i := 0) (by simp)
        have y1 : wr.cell? ⟨w.heap.size, 1, none⟩ = some (.int .i64 l) := Blk.cell kb (i := 1) (by simp)
        have y2 : wr.cell? ⟨w.heap.size, 2, none⟩ = some (.int .i64 s) := Blk.cell kb (i := 2) (by simp)
        have y3 : wr.cell? ⟨w.heap.size, 3, none⟩ = some (.int .i64 b0) := Blk.cell kb (i := 3) (by simp)
        have y4 : wr.cell? ⟨w.heap.size, 4, none⟩ = some (.int .i64 b1) := Blk.cell kb (i := 4) (by simp)
        have y5 : wr.cell? ⟨w.heap.size, 5, none⟩ = some (.int .i64 b2) := Blk.cell kb (i := 5) (by simp)
        have y6 : wr.cell? ⟨w.heap.size, 6, none⟩ = some (.int .i64 b3) := Blk.cell kb (i := 6) (by simp)
        have y7 : wr.cell? ⟨w.heap.size, 7, none⟩ = some (.int .i64 o0) := Blk.cell kb (i := 7) (by simp)
        have y8 : wr.cell? ⟨w.heap.size, 8, none⟩ = some (.int .i64 o1) := Blk.cell kb (i := 8) (by simp)
        have y9 : wr.cell? ⟨w.heap.size, 9, none⟩ = some (.int .i64 o2) := Blk.cell kb (i := 9) (by simp)
        have y10 : wr.cell? ⟨w.heap.size, 10, none⟩ = some (.int .i64 o3) := Blk.cell kb (i := 10) (by simp)
        have y11 : wr.cell? ⟨w.heap.size, 11, none⟩ = some (.int .i64 o4) := Blk.cell kb (i := 11) (by simp)
        have y12 : wr.cell? ⟨w.heap.size, 12, none⟩ = some (.int .i64 o5) := Blk.cell kb (i := 12) (by simp)
        have y13 : wr.cell? ⟨w.heap.size, 13, none⟩ = some (.int .i64 o6) := Blk.cell kb (i := 13) (by simp)
        have y14 : wr.cell? ⟨w.heap.size, 14, none⟩ = some (.int .i64 o7) := Blk.cell kb (i := 14) (by simp)
        have KB2 := hid kb; have BB2 := hid bb
        clear kb bb
        rcases (by omega : J = 0) with rfl
        · try rw [show ((0 : Nat) : Int) = 0 from rfl]
          go_wp2_with fail
          go_roundw
          case rel => exact ⟨1, by omega, rfl, ⟨fun _ => HH.out, fun h => absurd h (by omega), fun h => absurd h (by omega), fun h => absurd h (by omega), fun h => absurd h (by omega), fun h => absurd h (by omega), fun h => absurd h (by omega)⟩, KB2.out, BB2.out⟩
          case measure => simp [intOf]
    · skip
      rw [show ((1 : Nat) : Int) = 1 from rfl]
      rcases (by omega : b1 < 0 ∨ (¬ b1 < 0 ∧ 128 < b1) ∨ (0 ≤ b1 ∧ b1 ≤ 128)) with h | ⟨h, h'⟩ | h
      · have HOK : Hid (M = false) := by
          cases hMM : M
          · rfl
          · exfalso
            have hh := (HG.out hMM).1
            omega
        have d5 : decide (b1 < 0) = true := decide_eq_true h
        clear h
        go_wp2_with fail
        go_ret
        exact ⟨by rw [HOK.out]; rfl, BB.out⟩
      · have HOK : Hid (M = false) := by
          cases hMM : M
          · rfl
          · exfalso
            have hh := (HG.out hMM).1
            omega
        have d5 : decide (b1 < 0) = false := decide_eq_false h
        have d6 : decide (128 < b1) = true := decide_eq_true h'
        clear h h'
        go_wp2_with fail
        go_ret
        exact ⟨by rw [HOK.out]; rfl, BB.out⟩
      · have HH := hid h
        have d5 : decide (b1 < 0) = false := decide_eq_false (by omega)
        have d6 : decide (128 < b1) = false := decide_eq_false (by omega)
        clear h
        obtain ⟨wo, hwo⟩ : ∃ x, x = wr := ⟨_, rfl⟩
        subst hwo
        go_wp2_with fail
        go_loopw [4] (fun i wr => ∃ J : Nat, J ≤ 1 ∧ i = .int .i64 J ∧ ((1 ≤ J → ¬ (b0 ≠ 0 ∧ b0 = b1))) ∧ Blk wr w.heap.size 25 [.int .i64 k, .int .i64 l, .int .i64 s, .int .i64 b0, .int .i64 b1, .int .i64 b2, .int .i64 b3, .int .i64 o0, .int .i64 o1, .int .i64 o2, .int .i64 o3, .int .i64 o4, .int .i64 o5, .int .i64 o6, .int .i64 o7] ∧ Below w.heap.size w wr) (fun i _ => 1 - (intOf i).toNat)
        case atStart => exact ⟨0, by omega, rfl, (fun h => absurd h (by omega)), KB.out, BB.out⟩
        case round =>
        obtain ⟨J, hJ, rfl, hp2, kb, bb⟩ := hrel
        have HP2 := hid hp2
        clear hp2
        have y0 : wr.cell? ⟨w.heap.size, 0, none⟩ = some (.int .i64 k) := Blk.cell kb (i := 0) (by simp)
        have y1 : wr.cell? ⟨w.heap.size, 1, none⟩ = some (.int .i64 l) := Blk.cell kb (i := 1) (by simp)
        have y2 : wr.cell? ⟨w.heap.size, 2, none⟩ = some (.int .i64 s) := Blk.cell kb (i := 2) (by simp)
        have y3 : wr.cell? ⟨w.heap.size, 3, none⟩ = some (.int .i64 b0) := Blk.cell kb (i := 3) (by simp)
        have y4 : wr.cell? ⟨w.heap.size, 4, none⟩ = some (.int .i64 b1) := Blk.cell kb (i := 4) (by simp)
        have y5 : wr.cell? ⟨w.heap.size, 5, none⟩ = some (.int .i64 b2) := Blk.cell kb (i := 5) (by simp)
        have y6 : wr.cell? ⟨w.heap.size, 6, none⟩ = some (.int .i64 b3) := Blk.cell kb (i := 6) (by simp)
        have y7 : wr.cell? ⟨w.heap.size, 7, none⟩ = some (.int .i64 o0) := Blk.cell kb (i := 7) (by simp)
        have y8 : wr.cell? ⟨w.heap.size, 8, none⟩ = some (.int .i64 o1) := Blk.cell kb (i := 8) (by simp)
        have y9 : wr.cell? ⟨w.heap.size, 9, none⟩ = some (.int .i64 o2) := Blk.cell kb (i := 9) (by simp)
        have y10 : wr.cell? ⟨w.heap.size, 10, none⟩ = some (.int .i64 o3) := Blk.cell kb (i := 10) (by simp)
        have y11 : wr.cell? ⟨w.heap.size, 11, none⟩ = some (.int .i64 o4) := Blk.cell kb (i := 11) (by simp)
        have y12 : wr.cell? ⟨w.heap.size, 12, none⟩ = some (.int .i64 o5) := Blk.cell kb (i := 12) (by simp)
        have y13 : wr.cell? ⟨w.heap.size, 13, none⟩ = some (.int .i64 o6) := Blk.cell kb (i := 13) (by simp)
        have y14 : wr.cell? ⟨w.heap.size, 14, none⟩ = some (.int .i64 o7) := Blk.cell kb (i := 14) (by simp)
        have KB2 := hid kb; have BB2 := hid bb
        clear kb bb
        rcases (by omega : J = 0 ∨ J = 1) with rfl | rfl
        · skip
          rw [show ((0 : Nat) : Int) = 0 from rfl]
          by_cases hn : b0 = 0
          · have d7 : (b0 != 0) = false := by simpa using hn
            have HN : Hid (¬ (b0 ≠ 0 ∧ b0 = b1)) := fun hh => hh.1 hn
            clear hn
            go_wp2_with fail
            go_quiet (fail)
            go_wp2_with fail
            go_roundw
            case rel => exact ⟨1, by omega, rfl, (fun _ => HN.out), KB2.out, bel_drewN BB2.out _⟩
            case measure => simp [intOf]
          · have d7 : (b0 != 0) = true := by simpa using hn
            by_cases he : b0 = b1
            · have HOK : Hid (M = false) := by
                cases hMM : M
                · rfl
                · exact absurd ⟨hn, he⟩ ((HG.out hMM).2.1.1)
              have d8 : (b0 == b1) = true := by simpa using he
              clear he hn
              go_wp2_with fail
              go_quiet (fail)
              go_wp2_with fail
              go_ret
              exact ⟨by rw [HOK.out]; rfl, bel_drewN BB2.out _⟩
            · have d8 : (b0 == b1) = false := by simpa using he
              have HN : Hid (¬ (b0 ≠ 0 ∧ b0 = b1)) := fun hh => he hh.2
              clear he hn
              go_wp2_with fail
              go_quiet (fail)
              go_wp2_with fail
              go_roundw
              case rel => exact ⟨1, by omega, rfl, (fun _ => HN.out), KB2.out, bel_drewN BB2.out _⟩
              case measure => simp [intOf]
        · try rw [show ((1 : Nat) : Int) = 1 from rfl]
          go_wp2_with fail
          go_roundw
          case rel => exact ⟨2, by omega, rfl, ⟨fun _ => HP.out.1 (by omega), fun _ => HH.out, fun h => absurd h (by omega), fun h => absurd h (by omega), fun _ => HP2.out (by omega), fun h => absurd h (by omega), fun h => absurd h (by omega)⟩, KB2.out, BB2.out⟩
          case measure => simp [intOf]
    · skip
      rw [show ((2 : Nat) : Int) = 2 from rfl]
      rcases (by omega : b2 < 0 ∨ (¬ b2 < 0 ∧ 128 < b2) ∨ (0 ≤ b2 ∧ b2 ≤ 128)) with h | ⟨h, h'⟩ | h
      · have HOK : Hid (M = false) := by
          cases hMM : M
          · rfl
          · exfalso
            have hh := (HG.out hMM).1
            omega
        have d5 : decide (b2 < 0) = true := decide_eq_true h
        clear h
        go_wp2_with fail
        go_ret
        exact ⟨by rw [HOK.out]; rfl, BB.out⟩
      · have HOK : Hid (M = false) := by
          cases hMM : M
          · rfl
          · exfalso
            have hh := (HG.out hMM).1
            omega
        have d5 : decide (b2 < 0) = false := decide_eq_false h
        have d6 : decide (128 < b2) = true := decide_eq_true h'
        clear h h'
        go_wp2_with fail
        go_ret
        exact ⟨by rw [HOK.out]; rfl, BB.out⟩
      · have HH := hid h
        have d5 : decide (b2 < 0) = false := decide_eq_false (by omega)
        have d6 : decide (128 < b2) = false := decide_eq_false (by omega)
        clear h
        obtain ⟨wo, hwo⟩ : ∃ x, x = wr := ⟨_, rfl⟩
        subst hwo
        go_wp2_with fail
        go_loopw [4] (fun i wr => ∃ J : Nat, J ≤ 2 ∧ i = .int .i64 J ∧ ((1 ≤ J → ¬ (b0 ≠ 0 ∧ b0 = b2)) ∧ (2 ≤ J → ¬ (b1 ≠ 0 ∧ b1 = b2))) ∧ Blk wr w.heap.size 25 [.int .i64 k, .int .i64 l, .int .i64 s, .int .i64 b0, .int .i64 b1, .int .i64 b2, .int .i64 b3, .int .i64 o0, .int .i64 o1, .int .i64 o2, .int .i64 o3, .int .i64 o4, .int .i64 o5, .int .i64 o6, .int .i64 o7] ∧ Below w.heap.size w wr) (fun i _ => 2 - (intOf i).toNat)
        case atStart => exact ⟨0, by omega, rfl, ⟨fun h => absurd h (by omega), fun h => absurd h (by omega)⟩, KB.out, BB.out⟩
        case round =>
        obtain ⟨J, hJ, rfl, hp2, kb, bb⟩ := hrel
        have HP2 := hid hp2
        clear hp2
        have y0 : wr.cell? ⟨w.heap.size, 0, none⟩ = some (.int .i64 k) := Blk.cell kb (i := 0) (by simp)
        have y1 : wr.cell? ⟨w.heap.size, 1, none⟩ = some (.int .i64 l) := Blk.cell kb (i := 1) (by simp)
        have y2 : wr.cell? ⟨w.heap.size, 2, none⟩ = some (.int .i64 s) := Blk.cell kb (i := 2) (by simp)
        have y3 : wr.cell? ⟨w.heap.size, 3, none⟩ = some (.int .i64 b0) := Blk.cell kb (i := 3) (by simp)
        have y4 : wr.cell? ⟨w.heap.size, 4, none⟩ = some (.int .i64 b1) := Blk.cell kb (i := 4) (by simp)
        have y5 : wr.cell? ⟨w.heap.size, 5, none⟩ = some (.int .i64 b2) := Blk.cell kb (i := 5) (by simp)
        have y6 : wr.cell? ⟨w.heap.size, 6, none⟩ = some (.int .i64 b3) := Blk.cell kb (i := 6) (by simp)
        have y7 : wr.cell? ⟨w.heap.size, 7, none⟩ = some (.int .i64 o0) := Blk.cell kb (i := 7) (by simp)
        have y8 : wr.cell? ⟨w.heap.size, 8, none⟩ = some (.int .i64 o1) := Blk.cell kb (i := 8) (by simp)
        have y9 : wr.cell? ⟨w.heap.size, 9, none⟩ = some (.int .i64 o2) := Blk.cell kb (i := 9) (by simp)
        have y10 : wr.cell? ⟨w.heap.size, 10, none⟩ = some (.int .i64 o3) := Blk.cell kb (i := 10) (by simp)
        have y11 : wr.cell? ⟨w.heap.size, 11, none⟩ = some (.int .i64 o4) := Blk.cell kb (i := 11) (by simp)
        have y12 : wr.cell? ⟨w.heap.size, 12, none⟩ = some (.int .i64 o5) := Blk.cell kb (i := 12) (by simp)
        have y13 : wr.cell? ⟨w.heap.size, 13, none⟩ = some (.int .i64 o6) := Blk.cell kb (i := 13) (by simp)
        have y14 : wr.cell? ⟨w.heap.size, 14, none⟩ = some (.int .i64 o7) := Blk.cell kb (i := 14) (by simp)
        have KB2 := hid kb; have BB2 := hid bb
        clear kb bb
        rcases (by omega : J = 0 ∨ J = 1 ∨ J = 2) with rfl | rfl | rfl
        · skip
          rw [show ((0 : Nat) : Int) = 0 from rfl]
          by_cases hn : b0 = 0
          · have d7 : (b0 != 0) = false := by simpa using hn
            have HN : Hid (¬ (b0 ≠ 0 ∧ b0 = b2)) := fun hh => hh.1 hn
            clear hn
            go_wp2_with fail
            go_quiet (fail)
            go_wp2_with fail
            go_roundw
            case rel => exact ⟨1, by omega, rfl, ⟨fun _ => HN.out, fun h => absurd h (by omega)⟩, KB2.out, bel_drewN BB2.out _⟩
            case measure => simp [intOf]
          · have d7 : (b0 != 0) = true := by simpa using hn
            by_cases he : b0 = b2
            · have HOK : Hid (M = false) := by
                cases hMM : M
                · rfl
                · exact absurd ⟨hn, he⟩ ((HG.out hMM).2.1.2.1)
              have d8 : (b0 == b2) = true := by simpa using he
              clear he hn
              go_wp2_with fail
              go_quiet (fail)
              go_wp2_with fail
              go_ret
              exact ⟨by rw [HOK.out]; rfl, bel_drewN BB2.out _⟩
            · have d8 : (b0 == b2) = false := by simpa using he
              have HN : Hid (¬ (b0 ≠ 0 ∧ b0 = b2)) := fun hh => he hh.2
              clear he hn
              go_wp2_with fail
              go_quiet (fail)
              go_wp2_with fail
              go_roundw
              case rel => exact ⟨1, by omega, rfl, ⟨fun _ => HN.out, fun h => absurd h (by omega)⟩, KB2.out, bel_drewN BB2.out _⟩
              case measure => simp [intOf]
        · skip
          rw [show ((1 : Nat) : Int) = 1 from rfl]
          by_cases hn : b1 = 0
          · have d7 : (b1 != 0) = false := by simpa using hn
            have HN : Hid (¬ (b1 ≠ 0 ∧ b1 = b2)) := fun hh => hh.1 hn
            clear hn
            go_wp2_with fail
            go_quiet (fail)
            go_wp2_with fail
            go_roundw
            case rel => exact ⟨2, by omega, rfl, ⟨fun _ => HP2.out.1 (by omega), fun _ => HN.out⟩, KB2.out, bel_drewN BB2.out _⟩
            case measure => simp [intOf]
          · have d7 : (b1 != 0) = true := by simpa using hn
            by_cases he : b1 = b2
            · have HOK : Hid (M = false) := by
                cases hMM : M
                · rfl
                · exact absurd ⟨hn, he⟩ ((HG.out hMM).2.1.2.2.1)
              have d8 : (b1 == b2) = true := by simpa using he
              clear he hn
              go_wp2_with fail
              go_quiet (fail)
              go_wp2_with fail
              go_ret
              exact ⟨by rw [HOK.out]; rfl, bel_drewN BB2.out _⟩
            · have d8 : (b1 == b2) = false := by simpa using he
              have HN : Hid (¬ (b1 ≠ 0 ∧ b1 = b2)) := fun hh => he hh.2
              clear he hn
              go_wp2_with fail
              go_quiet (fail)
              go_wp2_with fail
              go_roundw
              case rel => exact ⟨2, by omega, rfl, ⟨fun _ => HP2.out.1 (by omega), fun _ => HN.out⟩, KB2.out, bel_drewN BB2.out _⟩
              case measure => simp [intOf]
        · try rw [show ((2 : Nat) : Int) = 2 from rfl]
          go_wp2_with fail
          go_roundw
          case rel => exact ⟨3, by omega, rfl, ⟨fun _ => HP.out.1 (by omega), fun _ => HP.out.2.1 (by omega), fun _ => HH.out, fun h => absurd h (by omega), fun _ => HP.out.2.2.2.2.1 (by omega), fun _ => ⟨HP2.out.1 (by omega), HP2.out.2 (by omega)⟩, fun h => absurd h (by omega)⟩, KB2.out, BB2.out⟩
          case measure => simp [intOf]
    · skip
      rw [show ((3 : Nat) : Int) = 3 from rfl]
      rcases (by omega : b3 < 0 ∨ (¬ b3 < 0 ∧ 128 < b3) ∨ (0 ≤ b3 ∧ b3 ≤ 128)) with h | ⟨h, h'⟩ | h
      · have HOK : Hid (M = false) := by
          cases hMM : M
          · rfl
          · exfalso
            have hh := (HG.out hMM).1
            omega
        have d5 : decide (b3 < 0) = true := decide_eq_true h
        clear h
        go_wp2_with fail
        go_ret
        exact ⟨by rw [HOK.out]; rfl, BB.out⟩
      · have HOK : Hid (M = false) := by
          cases hMM : M
          · rfl
          · exfalso
            have hh := (HG.out hMM).1
            omega
        have d5 : decide (b3 < 0) = false := decide_eq_false h
        have d6 : decide (128 < b3) = true := decide_eq_true h'
        clear h h'
        go_wp2_with fail
        go_ret
        exact ⟨by rw [HOK.out]; rfl, BB.out⟩
      · have HH := hid h
        have d5 : decide (b3 < 0) = false := decide_eq_false (by omega)
        have d6 : decide (128 < b3) = false := decide_eq_false (by omega)
        clear h
        obtain ⟨wo, hwo⟩ : ∃ x, x = wr := ⟨_, rfl⟩
        subst hwo
        go_wp2_with fail
        go_loopw [4] (fun i wr => ∃ J : Nat, J ≤ 3 ∧ i = .int .i64 J ∧ ((1 ≤ J → ¬ (b0 ≠ 0 ∧ b0 = b3)) ∧ (2 ≤ J → ¬ (b1 ≠ 0 ∧ b1 = b3)) ∧ (3 ≤ J → ¬ (b2 ≠ 0 ∧ b2 = b3))) ∧ Blk wr w.heap.size 25 [.int .i64 k, .int .i64 l, .int .i64 s, .int .i64 b0, .int .i64 b1, .int .i64 b2, .int .i64 b3, .int .i64 o0, .int .i64 o1, .int .i64 o2, .int .i64 o3, .int .i64 o4, .int .i64 o5, .int .i64 o6, .int .i64 o7] ∧ Below w.heap.size w wr) (fun i _ => 3 - (intOf i).toNat)
        case atStart => exact ⟨0, by omega, rfl, ⟨fun h => absurd h (by omega), fun h => absurd h (by omega), fun h => absurd h (by omega)⟩, KB.out, BB.out⟩
        case round =>
        obtain ⟨J, hJ, rfl, hp2, kb, bb⟩ := hrel
        have HP2 := hid hp2
        clear hp2
        have y0 : wr.cell? ⟨w.heap.size, 0, none⟩ = some (.int .i64 k) := Blk.cell kb (i := 0) (by simp)
        have y1 : wr.cell? ⟨w.heap.size, 1, none⟩ = some (.int .i64 l) := Blk.cell kb (i := 1) (by simp)
        have y2 : wr.cell? ⟨w.heap.size, 2, none⟩ = some (.int .i64 s) := Blk.cell kb (i := 2) (by simp)
        have y3 : wr.cell? ⟨w.heap.size, 3, none⟩ = some (.int .i64 b0) := Blk.cell kb (i := 3) (by simp)
        have y4 : wr.cell? ⟨w.heap.size, 4, none⟩ = some (.int .i64 b1) := Blk.cell kb (i := 4) (by simp)
        have y5 : wr.cell? ⟨w.heap.size, 5, none⟩ = some (.int .i64 b2) := Blk.cell kb (i := 5) (by simp)
        have y6 : wr.cell? ⟨w.heap.size, 6, none⟩ = some (.int .i64 b3) := Blk.cell kb (i := 6) (by simp)
        have y7 : wr.cell? ⟨w.heap.size, 7, none⟩ = some (.int .i64 o0) := Blk.cell kb (i := 7) (by simp)
        have y8 : wr.cell? ⟨w.heap.size, 8, none⟩ = some (.int .i64 o1) := Blk.cell kb (i := 8) (by simp)
        have y9 : wr.cell? ⟨w.heap.size, 9, none⟩ = some (.int .i64 o2) := Blk.cell kb (i := 9) (by simp)
        have y10 : wr.cell? ⟨w.heap.size, 10, none⟩ = some (.int .i64 o3) := Blk.cell kb (i := 10) (by simp)
        have y11 : wr.cell? ⟨w.heap.size, 11, none⟩ = some (.int .i64 o4) := Blk.cell kb (i := 11) (by simp)
        have y12 : wr.cell? ⟨w.heap.size, 12, none⟩ = some (.int .i64 o5) := Blk.cell kb (i := 12) (by simp)
        have y13 : wr.cell? ⟨w.heap.size, 13, none⟩ = some (.int .i64 o6) := Blk.cell kb (i := 13) (by simp)
        have y14 : wr.cell? ⟨w.heap.size, 14, none⟩ = some (.int .i64 o7) := Blk.cell kb (i := 14) (by simp)
        have KB2 := hid kb; have BB2 := hid bb
        clear kb bb
        rcases (by omega : J = 0 ∨ J = 1 ∨ J = 2 ∨ J = 3) with rfl | rfl | rfl | rfl
        · skip
          rw [show ((0 : Nat) : Int) = 0 from rfl]
          by_cases hn : b0 = 0
          · have d7 : (b0 != 0) = false := by simpa using hn
            have HN : Hid (¬ (b0 ≠ 0 ∧ b0 = b3)) := fun hh => hh.1 hn
            clear hn
            go_wp2_with fail
            go_quiet (fail)
            go_wp2_with fail
            go_roundw
            case rel => exact ⟨1, by omega, rfl, ⟨fun _ => HN.out, fun h => absurd h (by omega), fun h => absurd h (by omega)⟩, KB2.out, bel_drewN BB2.out _⟩
            case measure => simp [intOf]
          · have d7 : (b0 != 0) = true := by simpa using hn
            by_cases he : b0 = b3
            · have HOK : Hid (M = false) := by
                cases hMM : M
                · rfl
                · exact absurd ⟨hn, he⟩ ((HG.out hMM).2.1.2.2.2.1)
              have d8 : (b0 == b3) = true := by simpa using he
              clear he hn
              go_wp2_with fail
              go_quiet (fail)
              go_wp2_with fail
              go_ret
              exact ⟨by rw [HOK.out]; rfl, bel_drewN BB2.out _⟩
            · have d8 : (b0 == b3) = false := by simpa using he
              have HN : Hid (¬ (b0 ≠ 0 ∧ b0 = b3)) := fun hh => he hh.2
              clear he hn
              go_wp2_with fail
              go_quiet (fail)
              go_wp2_with fail
              go_roundw
              case rel => exact ⟨1, by omega, rfl, ⟨fun _ => HN.out, fun h => absurd h (by omega), fun h => absurd h (by omega)⟩, KB2.out, bel_drewN BB2.out _⟩
              case measure => simp [intOf]
        · skip
          rw [show ((1 : Nat) : Int) = 1 from rfl]
          by_cases hn : b1 = 0
          · have d7 : (b1 != 0) = false := by simpa using hn
            have HN : Hid (¬ (b1 ≠ 0 ∧ b1 = b3)) := fun hh => hh.1 hn
            clear hn
            go_wp2_with fail
            go_quiet (fail)
            go_wp2_with fail
            go_roundw
            case rel => exact ⟨2, by omega, rfl, ⟨fun _ => HP2.out.1 (by omega), fun _ => HN.out, fun h => absurd h (by omega)⟩, KB2.out, bel_drewN BB2.out _⟩
            case measure => simp [intOf]
          · have d7 : (b1 != 0) = true := by simpa using hn
            by_cases he : b1 = b3
            · have HOK : Hid (M = false) := by
                cases hMM : M
                · rfl
                · exact absurd ⟨hn, he⟩ ((HG.out hMM).2.1.2.2.2.2.1)
              have d8 : (b1 == b3) = true := by simpa using he
              clear he hn
              go_wp2_with fail
              go_quiet (fail)
              go_wp2_with fail
              go_ret
              exact ⟨by rw [HOK.out]; rfl, bel_drewN BB2.out _⟩
            · have d8 : (b1 == b3) = false := by simpa using he
              have HN : Hid (¬ (b1 ≠ 0 ∧ b1 = b3)) := fun hh => he hh.2
              clear he hn
              go_wp2_with fail
              go_quiet (fail)
              go_wp2_with fail
              go_roundw
              case rel => exact ⟨2, by omega, rfl, ⟨fun _ => HP2.out.1 (by omega), fun _ => HN.out, fun h => absurd h (by omega)⟩, KB2.out, bel_drewN BB2.out _⟩
              case measure => simp [intOf]
        · skip
          rw [show ((2 : Nat) : Int) = 2 from rfl]
          by_cases hn : b2 = 0
          · have d7 : (b2 != 0) = false := by simpa using hn
            have HN : Hid (¬ (b2 ≠ 0 ∧ b2 = b3)) := fun hh => hh.1 hn
            clear hn
            go_wp2_with fail
            go_quiet (fail)
            go_wp2_with fail
            go_roundw
            case rel => exact ⟨3, by omega, rfl, ⟨fun _ => HP2.out.1 (by omega), fun _ => HP2.out.2.1 (by omega), fun _ => HN.out⟩, KB2.out, bel_drewN BB2.out _⟩
            case measure => simp [intOf]
          · have d7 : (b2 != 0) = true := by simpa using hn
            by_cases he : b2 = b3
            · have HOK : Hid (M = false) := by
                cases hMM : M
                · rfl
                · exact absurd ⟨hn, he⟩ ((HG.out hMM).2.1.2.2.2.2.2)
              have d8 : (b2 == b3) = true := by simpa using he
              clear he hn
              go_wp2_with fail
              go_quiet (fail)
              go_wp2_with fail
              go_ret
              exact ⟨by rw [HOK.out]; rfl, bel_drewN BB2.out _⟩
            · have d8 : (b2 == b3) = false := by simpa using he
              have HN : Hid (¬ (b2 ≠ 0 ∧ b2 = b3)) := fun hh => he hh.2
              clear he hn
              go_wp2_with fail
              go_quiet (fail)
              go_wp2_with fail
              go_roundw
              case rel => exact ⟨3, by omega, rfl, ⟨fun _ => HP2.out.1 (by omega), fun _ => HP2.out.2.1 (by omega), fun _ => HN.out⟩, KB2.out, bel_drewN BB2.out _⟩
              case measure => simp [intOf]
        · try rw [show ((3 : Nat) : Int) = 3 from rfl]
          go_wp2_with fail
          go_roundw
          case rel => exact ⟨4, by omega, rfl, ⟨fun _ => HP.out.1 (by omega), fun _ => HP.out.2.1 (by omega), fun _ => HP.out.2.2.1 (by omega), fun _ => HH.out, fun _ => HP.out.2.2.2.2.1 (by omega), fun _ => HP.out.2.2.2.2.2.1 (by omega), fun _ => ⟨HP2.out.1 (by omega), HP2.out.2.1 (by omega), HP2.out.2.2 (by omega)⟩⟩, KB2.out, BB2.out⟩
          case measure => simp [intOf]
    · rw [show ((4 : Nat) : Int) = 4 from rfl]
      have HPB := hid (show ((0 ≤ b0 ∧ b0 ≤ 128) ∧ (0 ≤ b1 ∧ b1 ≤ 128) ∧ (0 ≤ b2 ∧ b2 ≤ 128) ∧ (0 ≤ b3 ∧ b3 ≤ 128)) ∧ (¬ (b0 ≠ 0 ∧ b0 = b1) ∧ ¬ (b0 ≠ 0 ∧ b0 = b2) ∧ ¬ (b1 ≠ 0 ∧ b1 = b2) ∧ ¬ (b0 ≠ 0 ∧ b0 = b3) ∧ ¬ (b1 ≠ 0 ∧ b1 = b3) ∧ ¬ (b2 ≠ 0 ∧ b2 = b3)) from ⟨⟨HP.out.1 (by omega), HP.out.2.1 (by omega), HP.out.2.2.1 (by omega), HP.out.2.2.2.1 (by omega)⟩, HP.out.2.2.2.2.1 (by omega), (HP.out.2.2.2.2.2.1 (by omega)).1, (HP.out.2.2.2.2.2.1 (by omega)).2, (HP.out.2.2.2.2.2.2 (by omega)).1, (HP.out.2.2.2.2.2.2 (by omega)).2.1, (HP.out.2.2.2.2.2.2 (by omega)).2.2⟩)
      clear HP
      obtain ⟨wo, hwo⟩ : ∃ x, x = wr := ⟨_, rfl⟩
      subst hwo
      go_wp2_with fail
      go_loopw [5] (fun i wr => ∃ K : Nat, K ≤ 8 ∧ i = .int .i64 K ∧ ((1 ≤ K → 0 ≤ o0 ∧ o0 ≤ 8) ∧ (2 ≤ K → 0 ≤ o1 ∧ o1 ≤ 8) ∧ (3 ≤ K → 0 ≤ o2 ∧ o2 ≤ 8) ∧ (4 ≤ K → 0 ≤ o3 ∧ o3 ≤ 8) ∧ (5 ≤ K → 0 ≤ o4 ∧ o4 ≤ 8) ∧ (6 ≤ K → 0 ≤ o5 ∧ o5 ≤ 8) ∧ (7 ≤ K → 0 ≤ o6 ∧ o6 ≤ 8) ∧ (8 ≤ K → 0 ≤ o7 ∧ o7 ≤ 8)) ∧ Blk wr w.heap.size 25 [.int .i64 k, .int .i64 l, .int .i64 s, .int .i64 b0, .int .i64 b1, .int .i64 b2, .int .i64 b3, .int .i64 o0, .int .i64 o1, .int .i64 o2, .int .i64 o3, .int .i64 o4, .int .i64 o5, .int .i64 o6, .int .i64 o7] ∧ Below w.heap.size w wr) (fun i _ => 8 - (intOf i).toNat)
      case atStart => exact ⟨0, by omega, rfl, ⟨fun h => absurd h (by omega), fun h => absurd h (by omega), fun h => absurd h (by omega), fun h => absurd h (by omega), fun h => absurd h (by omega), fun h => absurd h (by omega), fun h => absurd h (by omega), fun h => absurd h (by omega)⟩, KB.out, BB.out⟩
      case round =>
      obtain ⟨K, hK, rfl, hp, kb, bb⟩ := hrel
      have HP := hid hp
      clear hp
      have x0 : wr.cell? ⟨w.heap.size, 0, none⟩ = some (.int .i64 k) := Blk.cell kb (i := 0) (by simp)
      have x1 : wr.cell? ⟨w.heap.size, 1, none⟩ = some (.int .i64 l) := Blk.cell kb (i := 1) (by simp)
      have x2 : wr.cell? ⟨w.heap.size, 2, none⟩ = some (.int .i64 s) := Blk.cell kb (i := 2) (by simp)
      have x3 : wr.cell? ⟨w.heap.size, 3, none⟩ = some (.int .i64 b0) := Blk.cell kb (i := 3) (by simp)
      have x4 : wr.cell? ⟨w.heap.size, 4, none⟩ = some (.int .i64 b1) := Blk.cell kb (i := 4) (by simp)
      have x5 : wr.cell? ⟨w.heap.size, 5, none⟩ = some (.int .i64 b2) := Blk.cell kb (i := 5) (by simp)
      have x6 : wr.cell? ⟨w.heap.size, 6, none⟩ = some (.int .i64 b3) := Blk.cell kb (i := 6) (by simp)
      have x7 : wr.cell? ⟨w.heap.size, 7, none⟩ = some (.int .i64 o0) := Blk.cell kb (i := 7) (by simp)
      have x8 : wr.cell? ⟨w.heap.size, 8, none⟩ = some (.int .i64 o1) := Blk.cell kb (i := 8) (by simp)
      have x9 : wr.cell? ⟨w.heap.size, 9, none⟩ = some (.int .i64 o2) := Blk.cell kb (i := 9) (by simp)
      have x10 : wr.cell? ⟨w.heap.size, 10, none⟩ = some (.int .i64 o3) := Blk.cell kb (i := 10) (by simp)
      have x11 : wr.cell? ⟨w.heap.size, 11, none⟩ = some (.int .i64 o4) := Blk.cell kb (i := 11) (by simp)
      have x12 : wr.cell? ⟨w.heap.size, 12, none⟩ = some (.int .i64 o5) := Blk.cell kb (i := 12) (by simp)
      have x13 : wr.cell? ⟨w.heap.size, 13, none⟩ = some (.int .i64 o6) := Blk.cell kb (i := 13) (by simp)
      have x14 : wr.cell? ⟨w.heap.size, 14, none⟩ = some (.int .i64 o7) := Blk.cell kb (i := 14) (by simp)
      have KB3 := hid kb; have BB3 := hid bb
      clear kb bb
      rcases (by omega : K = 0 ∨ K = 1 ∨ K = 2 ∨ K = 3 ∨ K = 4 ∨ K = 5 ∨ K = 6 ∨ K = 7 ∨ K = 8) with rfl | rfl | rfl | rfl | rfl | rfl | rfl | rfl | rfl
      · skip
        rw [show ((0 : Nat) : Int) = 0 from rfl]
        rcases (by omega : o0 < 0 ∨ (¬ o0 < 0 ∧ 8 < o0) ∨ (0 ≤ o0 ∧ o0 ≤ 8)) with h | ⟨h, h'⟩ | h
        · skip
          have HOK : Hid (M = false) := by
            cases hMM : M
            · rfl
            · exfalso
              have hh := (HG.out hMM).2.2.1.1
              have h1 := hh.1
              have h2 := hh.2.1
              omega
          have d5 : decide (o0 < 0) = true := decide_eq_true h
          clear h
          go_wp2_with fail
          go_ret
          exact ⟨by rw [HOK.out]; rfl, BB3.out⟩
        · skip
          have HOK : Hid (M = false) := by
            cases hMM : M
            · rfl
            · exfalso
              have hh := (HG.out hMM).2.2.1.1
              have h1 := hh.1
              have h2 := hh.2.1
              omega
          have d5 : decide (o0 < 0) = false := decide_eq_false h
          have d6 : decide (8 < o0) = true := decide_eq_true h'
          clear h h'
          go_wp2_with fail
          go_ret
          exact ⟨by rw [HOK.out]; rfl, BB3.out⟩
        · have HH := hid h
          have d5 : decide (o0 < 0) = false := decide_eq_false (by omega)
          have d6 : decide (8 < o0) = false := decide_eq_false (by omega)
          clear h
          go_wp2_with fail
          go_roundw
          case rel => exact ⟨1, by omega, rfl, ⟨fun _ => HH.out, fun h => absurd h (by omega), fun h => absurd h (by omega), fun h => absurd h (by omega), fun h => absurd h (by omega), fun h => absurd h (by omega), fun h => absurd h (by omega), fun h => absurd h (by omega)⟩, KB3.out, BB3.out⟩
          case measure => simp [intOf]
      · skip
        rw [show ((1 : Nat) : Int) = 1 from rfl]
        rcases (by omega : o1 < 0 ∨ (¬ o1 < 0 ∧ 8 < o1) ∨ (0 ≤ o1 ∧ o1 ≤ 8)) with h | ⟨h, h'⟩ | h
        · skip
          have HOK : Hid (M = false) := by
            cases hMM : M
            · rfl
            · exfalso
              have hh := (HG.out hMM).2.2.1.2.1
              have h1 := hh.1
              have h2 := hh.2.1
              omega
          have d5 : decide (o1 < 0) = true := decide_eq_true h
          clear h
          go_wp2_with fail
          go_ret
          exact ⟨by rw [HOK.out]; rfl, BB3.out⟩
        · skip
          have HOK : Hid (M = false) := by
            cases hMM : M
            · rfl
            · exfalso
              have hh := (HG.out hMM).2.2.1.2.1
              have h1 := hh.1
              have h2 := hh.2.1
              omega
          have d5 : decide (o1 < 0) = false := decide_eq_false h
          have d6 : decide (8 < o1) = true := decide_eq_true h'
          clear h h'
          go_wp2_with fail
          go_ret
          exact ⟨by rw [HOK.out]; rfl, BB3.out⟩
        · have HH := hid h
          have d5 : decide (o1 < 0) = false := decide_eq_false (by omega)
          have d6 : decide (8 < o1) = false := decide_eq_false (by omega)
          clear h
          go_wp2_with fail
          go_roundw
          case rel => exact ⟨2, by omega, rfl, ⟨fun _ => HP.out.1 (by omega), fun _ => HH.out, fun h => absurd h (by omega), fun h => absurd h (by omega), fun h => absurd h (by omega), fun h => absurd h (by omega), fun h => absurd h (by omega), fun h => absurd h (by omega)⟩, KB3.out, BB3.out⟩
          case measure => simp [intOf]
      · skip
        rw [show ((2 : Nat) : Int) = 2 from rfl]
        rcases (by omega : o2 < 0 ∨ (¬ o2 < 0 ∧ 8 < o2) ∨ (0 ≤ o2 ∧ o2 ≤ 8)) with h | ⟨h, h'⟩ | h
        · skip
          have HOK : Hid (M = false) := by
            cases hMM : M
            · rfl
            · exfalso
              have hh := (HG.out hMM).2.2.1.2.2.1
              have h1 := hh.1
              have h2 := hh.2.1
              omega
          have d5 : decide (o2 < 0) = true := decide_eq_true h
          clear h
          go_wp2_with fail
          go_ret
          exact ⟨by rw [HOK.out]; rfl, BB3.out⟩
        · skip
          have HOK : Hid (M = false) := by
            cases hMM : M
            · rfl
            · exfalso
              have hh := (HG.out hMM).2.2.1.2.2.1
              have h1 := hh.1
              have h2 := hh.2.1
              omega
          have d5 : decide (o2 < 0) = false := decide_eq_false h
          have d6 : decide (8 < o2) = true := decide_eq_true h'
          clear h h'
          go_wp2_with fail
          go_ret
          exact ⟨by rw [HOK.out]; rfl, BB3.out⟩
        · have HH := hid h
          have d5 : decide (o2 < 0) = false := decide_eq_false (by omega)
          have d6 : decide (8 < o2) = false := decide_eq_false (by omega)
          clear h
          go_wp2_with fail
          go_roundw
          case rel => exact ⟨3, by omega, rfl, ⟨fun _ => HP.out.1 (by omega), fun _ => HP.out.2.1 (by omega), fun _ => HH.out, fun h => absurd h (by omega), fun h => absurd h (by omega), fun h => absurd h (by omega), fun h => absurd h (by omega), fun h => absurd h (by omega)⟩, KB3.out, BB3.out⟩
          case measure => simp [intOf]
      · skip
        rw [show ((3 : Nat) : Int) = 3 from rfl]
        rcases (by omega : o3 < 0 ∨ (¬ o3 < 0 ∧ 8 < o3) ∨ (0 ≤ o3 ∧ o3 ≤ 8)) with h | ⟨h, h'⟩ | h
        · skip
          have HOK : Hid (M = false) := by
            cases hMM : M
            · rfl
            · exfalso
              have hh := (HG.out hMM).2.2.1.2.2.2.1
              have h1 := hh.1
              have h2 := hh.2.1
              omega
          have d5 : decide (o3 < 0) = true := decide_eq_true h
          clear h
          go_wp2_with fail
          go_ret
          exact ⟨by rw [HOK.out]; rfl, BB3.out⟩
        · skip
          have HOK : Hid (M = false) := by
            cases hMM : M
            · rfl
            · exfalso
              have hh := (HG.out hMM).2.2.1.2.2.2.1
              have h1 := hh.1
              have h2 := hh.2.1
              omega
          have d5 : decide (o3 < 0) = false := decide_eq_false h
          have d6 : decide (8 < o3) = true := decide_eq_true h'
          clear h h'
          go_wp2_with fail
          go_ret
          exact ⟨by rw [HOK.out]; rfl, BB3.out⟩
        · have HH := hid h
          have d5 : decide (o3 < 0) = false := decide_eq_false (by omega)
          have d6 : decide (8 < o3) = false := decide_eq_false (by omega)
          clear h
          go_wp2_with fail
          go_roundw
          case rel => exact ⟨4, by omega, rfl, ⟨fun _ => HP.out.1 (by omega), fun _ => HP.out.2.1 (by omega), fun _ => HP.out.2.2.1 (by omega), fun _ => HH.out, fun h => absurd h (by omega), fun h => absurd h (by omega), fun h => absurd h (by omega), fun h => absurd h (by omega)⟩, KB3.out, BB3.out⟩
          case measure => simp [intOf]
      · skip
        rw [show ((4 : Nat) : Int) = 4 from rfl]
        rcases (by omega : o4 < 0 ∨ (¬ o4 < 0 ∧ 8 < o4) ∨ (0 ≤ o4 ∧ o4 ≤ 8)) with h | ⟨h, h'⟩ | h
        · skip
          have HOK : Hid (M = false) := by
            cases hMM : M
            · rfl
            · exfalso
              have hh := (HG.out hMM).2.2.1.2.2.2.2.1
              have h1 := hh.1
              have h2 := hh.2.1
              omega
          have d5 : decide (o4 < 0) = true := decide_eq_true h
          clear h
          go_wp2_with fail
          go_ret
          exact ⟨by rw [HOK.out]; rfl, BB3.out⟩
        · skip
          have HOK : Hid (M = false) := by
            cases hMM : M
            · rfl
            · exfalso
              have hh := (HG.out hMM).2.2.1.2.2.2.2.1
              have h1 := hh.1
              have h2 := hh.2.1
              omega
          have d5 : decide (o4 < 0) = false := decide_eq_false h
          have d6 : decide (8 < o4) = true := decide_eq_true h'
          clear h h'
          go_wp2_with fail
          go_ret
          exact ⟨by rw [HOK.out]; rfl, BB3.out⟩
        · have HH := hid h
          have d5 : decide (o4 < 0) = false := decide_eq_false (by omega)
          have d6 : decide (8 < o4) = false := decide_eq_false (by omega)
          clear h
          go_wp2_with fail
          go_roundw
          case rel => exact ⟨5, by omega, rfl, ⟨fun _ => HP.out.1 (by omega), fun _ => HP.out.2.1 (by omega), fun _ => HP.out.2.2.1 (by omega), fun _ => HP.out.2.2.2.1 (by omega), fun _ => HH.out, fun h => absurd h (by omega), fun h => absurd h (by omega), fun h => absurd h (by omega)⟩, KB3.out, BB3.out⟩
          case measure => simp [intOf]
      · skip
        rw [show ((5 : Nat) : Int) = 5 from rfl]
        rcases (by omega : o5 < 0 ∨ (¬ o5 < 0 ∧ 8 < o5) ∨ (0 ≤ o5 ∧ o5 ≤ 8)) with h | ⟨h, h'⟩ | h
        · skip
          have HOK : Hid (M = false) := by
            cases hMM : M
            · rfl
            · exfalso
              have hh := (HG.out hMM).2.2.1.2.2.2.2.2.1
              have h1 := hh.1
              have h2 := hh.2.1
              omega
          have d5 : decide (o5 < 0) = true := decide_eq_true h
          clear h
          go_wp2_with fail
          go_ret
          exact ⟨by rw [HOK.out]; rfl, BB3.out⟩
        · skip
          have HOK : Hid (M = false) := by
            cases hMM : M
            · rfl
            · exfalso
              have hh := (HG.out hMM).2.2.1.2.2.2.2.2.1
              have h1 := hh.1
              have h2 := hh.2.1
              omega
          have d5 : decide (o5 < 0) = false := decide_eq_false h
          have d6 : decide (8 < o5) = true := decide_eq_true h'
          clear h h'
          go_wp2_with fail
          go_ret
          exact ⟨by rw [HOK.out]; rfl, BB3.out⟩
        · have HH := hid h
          have d5 : decide (o5 < 0) = false := decide_eq_false (by omega)
          have d6 : decide (8 < o5) = false := decide_eq_false (by omega)
          clear h
          go_wp2_with fail
          go_roundw
          case rel => exact ⟨6, by omega, rfl, ⟨fun _ => HP.out.1 (by omega), fun _ => HP.out.2.1 (by omega), fun _ => HP.out.2.2.1 (by omega), fun _ => HP.out.2.2.2.1 (by omega), fun _ => HP.out.2.2.2.2.1 (by omega), fun _ => HH.out, fun h => absurd h (by omega), fun h => absurd h (by omega)⟩, KB3.out, BB3.out⟩
          case measure => simp [intOf]
      · skip
        rw [show ((6 : Nat) : Int) = 6 from rfl]
        rcases (by omega : o6 < 0 ∨ (¬ o6 < 0 ∧ 8 < o6) ∨ (0 ≤ o6 ∧ o6 ≤ 8)) with h | ⟨h, h'⟩ | h
        · skip
          have HOK : Hid (M = false) := by
            cases hMM : M
            · rfl
            · exfalso
              have hh := (HG.out hMM).2.2.1.2.2.2.2.2.2.1
              have h1 := hh.1
              have h2 := hh.2.1
              omega
          have d5 : decide (o6 < 0) = true := decide_eq_true h
          clear h
          go_wp2_with fail
          go_ret
          exact ⟨by rw [HOK.out]; rfl, BB3.out⟩
        · skip
          have HOK : Hid (M = false) := by
            cases hMM : M
            · rfl
            · exfalso
              have hh := (HG.out hMM).2.2.1.2.2.2.2.2.2.1
              have h1 := hh.1
              have h2 := hh.2.1
              omega
          have d5 : decide (o6 < 0) = false := decide_eq_false h
          have d6 : decide (8 < o6) = true := decide_eq_true h'
          clear h h'
          go_wp2_with fail
          go_ret
          exact ⟨by rw [HOK.out]; rfl, BB3.out⟩
        · have HH := hid h
          have d5 : decide (o6 < 0) = false := decide_eq_false (by omega)
          have d6 : decide (8 < o6) = false := decide_eq_false (by omega)
          clear h
          go_wp2_with fail
          go_roundw
          case rel => exact ⟨7, by omega, rfl, ⟨fun _ => HP.out.1 (by omega), fun _ => HP.out.2.1 (by omega), fun _ => HP.out.2.2.1 (by omega), fun _ => HP.out.2.2.2.1 (by omega), fun _ => HP.out.2.2.2.2.1 (by omega), fun _ => HP.out.2.2.2.2.2.1 (by omega), fun _ => HH.out, fun h => absurd h (by omega)⟩, KB3.out, BB3.out⟩
          case measure => simp [intOf]
      · skip
        rw [show ((7 : Nat) : Int) = 7 from rfl]
        rcases (by omega : o7 < 0 ∨ (¬ o7 < 0 ∧ 8 < o7) ∨ (0 ≤ o7 ∧ o7 ≤ 8)) with h | ⟨h, h'⟩ | h
        · skip
          have HOK : Hid (M = false) := by
            cases hMM : M
            · rfl
            · exfalso
              have hh := (HG.out hMM).2.2.1.2.2.2.2.2.2.2
              have h1 := hh.1
              have h2 := hh.2.1
              omega
          have d5 : decide (o7 < 0) = true := decide_eq_true h
          clear h
          go_wp2_with fail
          go_ret
          exact ⟨by rw [HOK.out]; rfl, BB3.out⟩
        · skip
          have HOK : Hid (M = false) := by
            cases hMM : M
            · rfl
            · exfalso
              have hh := (HG.out hMM).2.2.1.2.2.2.2.2.2.2
              have h1 := hh.1
              have h2 := hh.2.1
              omega
          have d5 : decide (o7 < 0) = false := decide_eq_false h
          have d6 : decide (8 < o7) = true := decide_eq_true h'
          clear h h'
          go_wp2_with fail
          go_ret
          exact ⟨by rw [HOK.out]; rfl, BB3.out⟩
        · have HH := hid h
          have d5 : decide (o7 < 0) = false := decide_eq_false (by omega)
          have d6 : decide (8 < o7) = false := decide_eq_false (by omega)
          clear h
          go_wp2_with fail
          go_roundw
          case rel => exact ⟨8, by omega, rfl, ⟨fun _ => HP.out.1 (by omega), fun _ => HP.out.2.1 (by omega), fun _ => HP.out.2.2.1 (by omega), fun _ => HP.out.2.2.2.1 (by omega), fun _ => HP.out.2.2.2.2.1 (by omega), fun _ => HP.out.2.2.2.2.2.1 (by omega), fun _ => HP.out.2.2.2.2.2.2.1 (by omega), fun _ => HH.out⟩, KB3.out, BB3.out⟩
          case measure => simp [intOf]
      · rw [show ((8 : Nat) : Int) = 8 from rfl]
        have HPO := hid (show (0 ≤ o0 ∧ o0 ≤ 8) ∧ (0 ≤ o1 ∧ o1 ≤ 8) ∧ (0 ≤ o2 ∧ o2 ≤ 8) ∧ (0 ≤ o3 ∧ o3 ≤ 8) ∧ (0 ≤ o4 ∧ o4 ≤ 8) ∧ (0 ≤ o5 ∧ o5 ≤ 8) ∧ (0 ≤ o6 ∧ o6 ≤ 8) ∧ (0 ≤ o7 ∧ o7 ≤ 8) from ⟨HP.out.1 (by omega), HP.out.2.1 (by omega), HP.out.2.2.1 (by omega), HP.out.2.2.2.1 (by omega), HP.out.2.2.2.2.1 (by omega), HP.out.2.2.2.2.2.1 (by omega), HP.out.2.2.2.2.2.2.1 (by omega), HP.out.2.2.2.2.2.2.2 (by omega)⟩)
        clear HP
        obtain ⟨wo, hwo⟩ : ∃ x, x = wr := ⟨_, rfl⟩
        subst hwo
        go_wp2_with fail
        go_loopw [6] (fun i wr => ∃ K : Nat, K ≤ 4 ∧ i = .int .i64 K ∧ ((1 ≤ K → (b0 ≠ 0 ↔ 0 < s)) ∧ (2 ≤ K → (b1 ≠ 0 ↔ 64 < s)) ∧ (3 ≤ K → (b2 ≠ 0 ↔ 128 < s)) ∧ (4 ≤ K → (b3 ≠ 0 ↔ 192 < s))) ∧ Blk wr w.heap.size 25 [.int .i64 k, .int .i64 l, .int .i64 s, .int .i64 b0, .int .i64 b1, .int .i64 b2, .int .i64 b3, .int .i64 o0, .int .i64 o1, .int .i64 o2, .int .i64 o3, .int .i64 o4, .int .i64 o5, .int .i64 o6, .int .i64 o7] ∧ Below w.heap.size w wr) (fun i _ => 4 - (intOf i).toNat)
        case atStart => exact ⟨0, by omega, rfl, ⟨fun h => absurd h (by omega), fun h => absurd h (by omega), fun h => absurd h (by omega), fun h => absurd h (by omega)⟩, KB3.out, BB3.out⟩
        case round =>
        obtain ⟨K, hK, rfl, hp, kb, bb⟩ := hrel
        have HP := hid hp
        clear hp
        have v0 : wr.cell? ⟨w.heap.size, 0, none⟩ = some (.int .i64 k) := Blk.cell kb (i := 0) (by simp)
        have v1 : wr.cell? ⟨w.heap.size, 1, none⟩ = some (.int .i64 l) := Blk.cell kb (i := 1) (by simp)
        have v2 : wr.cell? ⟨w.heap.size, 2, none⟩ = some (.int .i64 s) := Blk.cell kb (i := 2) (by simp)
        have v3 : wr.cell? ⟨w.heap.size, 3, none⟩ = some (.int .i64 b0) := Blk.cell kb (i := 3) (by simp)
        have v4 : wr.cell? ⟨w.heap.size, 4, none⟩ = some (.int .i64 b1) := Blk.cell kb (i := 4) (by simp)
        have v5 : wr.cell? ⟨w.heap.size, 5, none⟩ = some (.int .i64 b2) := Blk.cell kb (i := 5) (by simp)
        have v6 : wr.cell? ⟨w.heap.size, 6, none⟩ = some (.int .i64 b3) := Blk.cell kb (i := 6) (by simp)
        have v7 : wr.cell? ⟨w.heap.size, 7, none⟩ = some (.int .i64 o0) := Blk.cell kb (i := 7) (by simp)
        have v8 : wr.cell? ⟨w.heap.size, 8, none⟩ = some (.int .i64 o1) := Blk.cell kb (i := 8) (by simp)
        have v9 : wr.cell? ⟨w.heap.size, 9, none⟩ = some (.int .i64 o2) := Blk.cell kb (i := 9) (by simp)
        have v10 : wr.cell? ⟨w.heap.size, 10, none⟩ = some (.int .i64 o3) := Blk.cell kb (i := 10) (by simp)
        have v11 : wr.cell? ⟨w.heap.size, 11, none⟩ = some (.int .i64 o4) := Blk.cell kb (i := 11) (by simp)
        have v12 : wr.cell? ⟨w.heap.size, 12, none⟩ = some (.int .i64 o5) := Blk.cell kb (i := 12) (by simp)
        have v13 : wr.cell? ⟨w.heap.size, 13, none⟩ = some (.int .i64 o6) := Blk.cell kb (i := 13) (by simp)
        have v14 : wr.cell? ⟨w.heap.size, 14, none⟩ = some (.int .i64 o7) := Blk.cell kb (i := 14) (by simp)
        have KB4 := hid kb; have BB4 := hid bb
        clear kb bb
        rcases (by omega : K = 0 ∨ K = 1 ∨ K = 2 ∨ K = 3 ∨ K = 4) with rfl | rfl | rfl | rfl | rfl
        · skip
          rw [show ((0 : Nat) : Int) = 0 from rfl]
          by_cases hq : (0 : Int) < s
          · have dq : decide ((0 : Int) < s) = true := decide_eq_true hq
            by_cases hn : b0 = 0
            · skip
              have dn : (b0 != 0) = false := by simpa using hn
              have HOK : Hid (M = false) := by
                cases hMM : M
                · rfl
                · have hh := (HG.out hMM).2.2.2 HK1.out
                  have h2 := hh.1
                  exact absurd (hn) (h2.2 hq)
              clear hq hn
              go_wp2_with fail
              go_quiet (fail)
              go_wp2_with fail
              go_ret
              exact ⟨by rw [HOK.out]; rfl, bel_drewN BB4.out _⟩
            · skip
              have dn : (b0 != 0) = true := by simpa using hn
              have HN : Hid (b0 ≠ 0 ↔ (0 : Int) < s) := ⟨fun _ => hq, fun _ => hn⟩
              clear hq hn
              go_wp2_with fail
              go_quiet (fail)
              go_wp2_with fail
              go_roundw
              case rel => exact ⟨1, by omega, rfl, ⟨fun _ => HN.out, fun h => absurd h (by omega), fun h => absurd h (by omega), fun h => absurd h (by omega)⟩, KB4.out, bel_drewN BB4.out _⟩
              case measure => simp [intOf]
          · have dq : decide ((0 : Int) < s) = false := decide_eq_false hq
            by_cases hn : b0 = 0
            · skip
              have dn : (b0 != 0) = false := by simpa using hn
              have HN : Hid (b0 ≠ 0 ↔ (0 : Int) < s) := ⟨fun h => absurd hn h, fun h => absurd h hq⟩
              clear hq hn
              go_wp2_with fail
              go_quiet (fail)
              go_wp2_with fail
              go_roundw
              case rel => exact ⟨1, by omega, rfl, ⟨fun _ => HN.out, fun h => absurd h (by omega), fun h => absurd h (by omega), fun h => absurd h (by omega)⟩, KB4.out, bel_drewN BB4.out _⟩
              case measure => simp [intOf]
            · skip
              have dn : (b0 != 0) = true := by simpa using hn
              have HOK : Hid (M = false) := by
                cases hMM : M
                · rfl
                · have hh := (HG.out hMM).2.2.2 HK1.out
                  have h2 := hh.1
                  exact absurd (h2.1 hn) (hq)
              clear hq hn
              go_wp2_with fail
              go_quiet (fail)
              go_wp2_with fail
              go_ret
              exact ⟨by rw [HOK.out]; rfl, bel_drewN BB4.out _⟩
        · skip
          rw [show ((1 : Nat) : Int) = 1 from rfl]
          by_cases hq : (64 : Int) < s
          · have dq : decide ((64 : Int) < s) = true := decide_eq_true hq
            by_cases hn : b1 = 0
            · skip
              have dn : (b1 != 0) = false := by simpa using hn
              have HOK : Hid (M = false) := by
                cases hMM : M
                · rfl
                · have hh := (HG.out hMM).2.2.2 HK1.out
                  have h2 := hh.2.1
                  exact absurd (hn) (h2.2 hq)
              clear hq hn
              go_wp2_with fail
              go_quiet (fail)
              go_wp2_with fail
              go_ret
              exact ⟨by rw [HOK.out]; rfl, bel_drewN BB4.out _⟩
            · skip
              have dn : (b1 != 0) = true := by simpa using hn
              have HN : Hid (b1 ≠ 0 ↔ (64 : Int) < s) := ⟨fun _ => hq, fun _ => hn⟩
              clear hq hn
              go_wp2_with fail
              go_quiet (fail)
              go_wp2_with fail
              go_roundw
              case rel => exact ⟨2, by omega, rfl, ⟨fun _ => HP.out.1 (by omega), fun _ => HN.out, fun h => absurd h (by omega), fun h => absurd h (by omega)⟩, KB4.out, bel_drewN BB4.out _⟩
              case measure => simp [intOf]
          · have dq : decide ((64 : Int) < s) = false := decide_eq_false hq
            by_cases hn : b1 = 0
            · skip
              have dn : (b1 != 0) = false := by simpa using hn
              have HN : Hid (b1 ≠ 0 ↔ (64 : Int) < s) := ⟨fun h => absurd hn h, fun h => absurd h hq⟩
              clear hq hn
              go_wp2_with fail
              go_quiet (fail)
              go_wp2_with fail
              go_roundw
              case rel => exact ⟨2, by omega, rfl, ⟨fun _ => HP.out.1 (by omega), fun _ => HN.out, fun h => absurd h (by omega), fun h => absurd h (by omega)⟩, KB4.out, bel_drewN BB4.out _⟩
              case measure => simp [intOf]
            · skip
              have dn : (b1 != 0) = true := by simpa using hn
              have HOK : Hid (M = false) := by
                cases hMM : M
                · rfl
                · have hh := (HG.out hMM).2.2.2 HK1.out
                  have h2 := hh.2.1
                  exact absurd (h2.1 hn) (hq)
              clear hq hn
              go_wp2_with fail
              go_quiet (fail)
              go_wp2_with fail
              go_ret
              exact ⟨by rw [HOK.out]; rfl, bel_drewN BB4.out _⟩
        · skip
          rw [show ((2 : Nat) : Int) = 2 from rfl]
          by_cases hq : (128 : Int) < s
          · have dq : decide ((128 : Int) < s) = true := decide_eq_true hq
            by_cases hn : b2 = 0
            · skip
              have dn : (b2 != 0) = false := by simpa using hn
              have HOK : Hid (M = false) := by
                cases hMM : M
                · rfl
                · have hh := (HG.out hMM).2.2.2 HK1.out
                  have h2 := hh.2.2.1
                  exact absurd (hn) (h2.2 hq)
              clear hq hn
              go_wp2_with fail
              go_quiet (fail)
              go_wp2_with fail
              go_ret
              exact ⟨by rw [HOK.out]; rfl, bel_drewN BB4.out _⟩
            · skip
              have dn : (b2 != 0) = true := by simpa using hn
              have HN : Hid (b2 ≠ 0 ↔ (128 : Int) < s) := ⟨fun _ => hq, fun _ => hn⟩
              clear hq hn
              go_wp2_with fail
              go_quiet (fail)
              go_wp2_with fail
              go_roundw
              case rel => exact ⟨3, by omega, rfl, ⟨fun _ => HP.out.1 (by omega), fun _ => HP.out.2.1 (by omega), fun _ => HN.out, fun h => absurd h (by omega)⟩, KB4.out, bel_drewN BB4.out _⟩
              case measure => simp [intOf]
          · have dq : decide ((128 : Int) < s) = false := decide_eq_false hq
            by_cases hn : b2 = 0
            · skip
              have dn : (b2 != 0) = false := by simpa using hn
              have HN : Hid (b2 ≠ 0 ↔ (128 : Int) < s) := ⟨fun h => absurd hn h, fun h => absurd h hq⟩
              clear hq hn
              go_wp2_with fail
              go_quiet (fail)
              go_wp2_with fail
              go_roundw
              case rel => exact ⟨3, by omega, rfl, ⟨fun _ => HP.out.1 (by omega), fun _ => HP.out.2.1 (by omega), fun _ => HN.out, fun h => absurd h (by omega)⟩, KB4.out, bel_drewN BB4.out _⟩
              case measure => simp [intOf]
            · skip
              have dn : (b2 != 0) = true := by simpa using hn
              have HOK : Hid (M = false) := by
                cases hMM : M
                · rfl
                · have hh := (HG.out hMM).2.2.2 HK1.out
                  have h2 := hh.2.2.1
                  exact absurd (h2.1 hn) (hq)
              clear hq hn
              go_wp2_with fail
              go_quiet (fail)
              go_wp2_with fail
              go_ret
              exact ⟨by rw [HOK.out]; rfl, bel_drewN BB4.out _⟩
        · skip
          rw [show ((3 : Nat) : Int) = 3 from rfl]
          by_cases hq : (192 : Int) < s
          · have dq : decide ((192 : Int) < s) = true := decide_eq_true hq
            by_cases hn : b3 = 0
            · skip
              have dn : (b3 != 0) = false := by simpa using hn
              have HOK : Hid (M = false) := by
                cases hMM : M
                · rfl
                · have hh := (HG.out hMM).2.2.2 HK1.out
                  have h2 := hh.2.2.2
                  exact absurd (hn) (h2.2 hq)
              clear hq hn
              go_wp2_with fail
              go_quiet (fail)
              go_wp2_with fail
              go_ret
              exact ⟨by rw [HOK.out]; rfl, bel_drewN BB4.out _⟩
            · skip
              have dn : (b3 != 0) = true := by simpa using hn
              have HN : Hid (b3 ≠ 0 ↔ (192 : Int) < s) := ⟨fun _ => hq, fun _ => hn⟩
              clear hq hn
              go_wp2_with fail
              go_quiet (fail)
              go_wp2_with fail
              go_roundw
              case rel => exact ⟨4, by omega, rfl, ⟨fun _ => HP.out.1 (by omega), fun _ => HP.out.2.1 (by omega), fun _ => HP.out.2.2.1 (by omega), fun _ => HN.out⟩, KB4.out, bel_drewN BB4.out _⟩
              case measure => simp [intOf]
          · have dq : decide ((192 : Int) < s) = false := decide_eq_false hq
            by_cases hn : b3 = 0
            · skip
              have dn : (b3 != 0) = false := by simpa using hn
              have HN : Hid (b3 ≠ 0 ↔ (192 : Int) < s) := ⟨fun h => absurd hn h, fun h => absurd h hq⟩
              clear hq hn
              go_wp2_with fail
              go_quiet (fail)
              go_wp2_with fail
              go_roundw
              case rel => exact ⟨4, by omega, rfl, ⟨fun _ => HP.out.1 (by omega), fun _ => HP.out.2.1 (by omega), fun _ => HP.out.2.2.1 (by omega), fun _ => HN.out⟩, KB4.out, bel_drewN BB4.out _⟩
              case measure => simp [intOf]
            · skip
              have dn : (b3 != 0) = true := by simpa using hn
              have HOK : Hid (M = false) := by
                cases hMM : M
                · rfl
                · have hh := (HG.out hMM).2.2.2 HK1.out
                  have h2 := hh.2.2.2
                  exact absurd (h2.1 hn) (hq)
              clear hq hn
              go_wp2_with fail
              go_quiet (fail)
              go_wp2_with fail
              go_ret
              exact ⟨by rw [HOK.out]; rfl, bel_drewN BB4.out _⟩
        · skip
          rw [show ((4 : Nat) : Int) = 4 from rfl]
          rcases (by omega : l < 0 ∨ (¬ l < 0 ∧ 20 < l) ∨ (¬ l < 0 ∧ ¬ 20 < l ∧ s < 0) ∨ (¬ l < 0 ∧ ¬ 20 < l ∧ ¬ s < 0 ∧ 256 < s) ∨ (0 ≤ l ∧ l ≤ 20 ∧ 0 ≤ s ∧ s ≤ 256)) with h1 | ⟨h1, h2⟩ | ⟨h1, h2, h3⟩ | ⟨h1, h2, h3, h4⟩ | hh
          · skip
            have HOK : Hid (M = false) := by
              cases hMM : M
              · rfl
              · exfalso
                have hh := ((HF.out HK1.out).1 hMM).1
                omega
            have d1 : decide (0 ≤ l) = false := decide_eq_false (by omega)
            clear h1
            go_wp2_with fail
            go_ret
            exact ⟨by rw [HOK.out]; rfl, BB4.out⟩
          · skip
            have HOK : Hid (M = false) := by
              cases hMM : M
              · rfl
              · exfalso
                have hh := ((HF.out HK1.out).1 hMM).1
                omega
            have d1 : decide (0 ≤ l) = true := decide_eq_true (by omega)
            have d2 : decide (l ≤ 20) = false := decide_eq_false (by omega)
            clear h1 h2
            go_wp2_with fail
            go_ret
            exact ⟨by rw [HOK.out]; rfl, BB4.out⟩
          · skip
            have HOK : Hid (M = false) := by
              cases hMM : M
              · rfl
              · exfalso
                have hh := ((HF.out HK1.out).1 hMM).1
                omega
            have d1 : decide (0 ≤ l) = true := decide_eq_true (by omega)
            have d2 : decide (l ≤ 20) = true := decide_eq_true (by omega)
            have d3 : decide (0 ≤ s) = false := decide_eq_false (by omega)
            clear h1 h2 h3
            go_wp2_with fail
            go_ret
            exact ⟨by rw [HOK.out]; rfl, BB4.out⟩
          · skip
            have HOK : Hid (M = false) := by
              cases hMM : M
              · rfl
              · exfalso
                have hh := ((HF.out HK1.out).1 hMM).1
                omega
            have d1 : decide (0 ≤ l) = true := decide_eq_true (by omega)
            have d2 : decide (l ≤ 20) = true := decide_eq_true (by omega)
            have d3 : decide (0 ≤ s) = true := decide_eq_true (by omega)
            have d4 : decide (s ≤ 256) = false := decide_eq_false (by omega)
            clear h1 h2 h3 h4
            go_wp2_with fail
            go_ret
            exact ⟨by rw [HOK.out]; rfl, BB4.out⟩
          · skip
            have HOK : Hid (M = true) := (HF.out HK1.out).2 ⟨hh, HPB.out.1, HPB.out.2, ⟨⟨HPO.out.1.1, HPO.out.1.2, fun h => absurd HK1.out h⟩, ⟨HPO.out.2.1.1, HPO.out.2.1.2, fun h => absurd HK1.out h⟩, ⟨HPO.out.2.2.1.1, HPO.out.2.2.1.2, fun h => absurd HK1.out h⟩, ⟨HPO.out.2.2.2.1.1, HPO.out.2.2.2.1.2, fun h => absurd HK1.out h⟩, ⟨HPO.out.2.2.2.2.1.1, HPO.out.2.2.2.2.1.2, fun h => absurd HK1.out h⟩, ⟨HPO.out.2.2.2.2.2.1.1, HPO.out.2.2.2.2.2.1.2, fun h => absurd HK1.out h⟩, ⟨HPO.out.2.2.2.2.2.2.1.1, HPO.out.2.2.2.2.2.2.1.2, fun h => absurd HK1.out h⟩, ⟨HPO.out.2.2.2.2.2.2.2.1, HPO.out.2.2.2.2.2.2.2.2, fun h => absurd HK1.out h⟩⟩, ⟨HP.out.1 (by omega), HP.out.2.1 (by omega), HP.out.2.2.1 (by omega), HP.out.2.2.2 (by omega)⟩⟩
            have d1 : decide (0 ≤ l) = true := decide_eq_true (by omega)
            have d2 : decide (l ≤ 20) = true := decide_eq_true (by omega)
            have d3 : decide (0 ≤ s) = true := decide_eq_true (by omega)
            have d4 : decide (s ≤ 256) = true := decide_eq_true (by omega)
            clear hh
            go_wp2_with fail
            go_ret
            exact ⟨by rw [HOK.out]; rfl, BB4.out⟩
  · have e1 : (k != 1) = true := by simpa using hk1
    have e2 : (k == 1) = false := by simpa using hk1
    have HK1 := hid hk1
    clear hk1
    go_enter Try.func12, Try.ntmps12
    go_wp2_with fail
    go_loopw [3] (fun i wr => ∃ K : Nat, K ≤ 4 ∧ i = .int .i64 K ∧ ((1 ≤ K → 0 ≤ b0 ∧ b0 ≤ 128) ∧ (2 ≤ K → 0 ≤ b1 ∧ b1 ≤ 128) ∧ (3 ≤ K → 0 ≤ b2 ∧ b2 ≤ 128) ∧ (4 ≤ K → 0 ≤ b3 ∧ b3 ≤ 128) ∧ (2 ≤ K → ¬ (b0 ≠ 0 ∧ b0 = b1)) ∧ (3 ≤ K → ¬ (b0 ≠ 0 ∧ b0 = b2) ∧ ¬ (b1 ≠ 0 ∧ b1 = b2)) ∧ (4 ≤ K → ¬ (b0 ≠ 0 ∧ b0 = b3) ∧ ¬ (b1 ≠ 0 ∧ b1 = b3) ∧ ¬ (b2 ≠ 0 ∧ b2 = b3))) ∧ Blk wr w.heap.size 25 [.int .i64 k, .int .i64 l, .int .i64 s, .int .i64 b0, .int .i64 b1, .int .i64 b2, .int .i64 b3, .int .i64 o0, .int .i64 o1, .int .i64 o2, .int .i64 o3, .int .i64 o4, .int .i64 o5, .int .i64 o6, .int .i64 o7] ∧ Below w.heap.size w wr) (fun i _ => 4 - (intOf i).toNat)
    case atStart => exact ⟨0, by omega, rfl, ⟨fun h => absurd h (by omega), fun h => absurd h (by omega), fun h => absurd h (by omega), fun h => absurd h (by omega), fun h => absurd h (by omega), fun h => absurd h (by omega), fun h => absurd h (by omega)⟩, K0.out, HB.out⟩
    case round =>
    obtain ⟨K, hK, rfl, hp, kb, bb⟩ := hrel
    have HP := hid hp
    clear hp
    have z0 : wr.cell? ⟨w.heap.size, 0, none⟩ = some (.int .i64 k) := Blk.cell kb (i := 0) (by simp)
    have z1 : wr.cell? ⟨w.heap.size, 1, none⟩ = some (.int .i64 l) := Blk.cell kb (i := 1) (by simp)
    have z2 : wr.cell? ⟨w.heap.size, 2, none⟩ = some (.int .i64 s) := Blk.cell kb (i := 2) (by simp)
    have z3 : wr.cell? ⟨w.heap.size, 3, none⟩ = some (.int .i64 b0) := Blk.cell kb (i := 3) (by simp)
    have z4 : wr.cell? ⟨w.heap.size, 4, none⟩ = some (.int .i64 b1) := Blk.cell kb (i := 4) (by simp)
    have z5 : wr.cell? ⟨w.heap.size, 5, none⟩ = some (.int .i64 b2) := Blk.cell kb (i := 5) (by simp)
    have z6 : wr.cell? ⟨w.heap.size, 6, none⟩ = some (.int .i64 b3) := Blk.cell kb (i := 6) (by simp)
    have z7 : wr.cell? ⟨w.heap.size, 7, none⟩ = some (.int .i64 o0) := Blk.cell kb (i := 7) (by simp)
    have z8 : wr.cell? ⟨w.heap.size, 8, none⟩ = some (.int .i64 o1) := Blk.cell kb (i := 8) (by simp)
    have z9 : wr.cell? ⟨w.heap.size, 9, none⟩ = some (.int .i64 o2) := Blk.cell kb (i := 9) (by simp)
    have z10 : wr.cell? ⟨w.heap.size, 10, none⟩ = some (.int .i64 o3) := Blk.cell kb (i := 10) (by simp)
    have z11 : wr.cell? ⟨w.heap.size, 11, none⟩ = some (.int .i64 o4) := Blk.cell kb (i := 11) (by simp)
    have z12 : wr.cell? ⟨w.heap.size, 12, none⟩ = some (.int .i64 o5) := Blk.cell kb (i := 12) (by simp)
    have z13 : wr.cell? ⟨w.heap.size, 13, none⟩ = some (.int .i64 o6) := Blk.cell kb (i := 13) (by simp)
    have z14 : wr.cell? ⟨w.heap.size, 14, none⟩ = some (.int .i64 o7) := Blk.cell kb (i := 14) (by simp)
    have KB := hid kb; have BB := hid bb
    clear kb bb
    rcases (by omega : K = 0 ∨ K = 1 ∨ K = 2 ∨ K = 3 ∨ K = 4) with rfl | rfl | rfl | rfl | rfl
    · skip
      rw [show ((0 : Nat) : Int) = 0 from rfl]
      rcases (by omega : b0 < 0 ∨ (¬ b0 < 0 ∧ 128 < b0) ∨ (0 ≤ b0 ∧ b0 ≤ 128)) with h | ⟨h, h'⟩ | h
      · have HOK : Hid (M = false) := by
          cases hMM : M
          · rfl
          · exfalso
            have hh := (HG.out hMM).1
            omega
        have d5 : decide (b0 < 0) = true := decide_eq_true h
        clear h
        go_wp2_with fail
        go_ret
        exact ⟨by rw [HOK.out]; rfl, BB.out⟩
      · have HOK : Hid (M = false) := by
          cases hMM : M
          · rfl
          · exfalso
            have hh := (HG.out hMM).1
            omega
        have d5 : decide (b0 < 0) = false := decide_eq_false h
        have d6 : decide (128 < b0) = true := decide_eq_true h'
        clear h h'
        go_wp2_with fail
        go_ret
        exact ⟨by rw [HOK.out]; rfl, BB.out⟩
      · have HH := hid h
        have d5 : decide (b0 < 0) = false := decide_eq_false (by omega)
        have d6 : decide (128 < b0) = false := decide_eq_false (by omega)
        clear h
        obtain ⟨wo, hwo⟩ : ∃ x, x = wr := ⟨_, rfl⟩
        subst hwo
        go_wp2_with fail
        go_loopw [4] (fun i wr => ∃ J : Nat, J ≤ 0 ∧ i = .int .i64 J ∧ (True) ∧ Blk wr w.heap.size 25 [.int .i64 k, .int .i64 l, .int .i64 s, .int .i64 b0, .int .i64 b1, .int .i64 b2, .int .i64 b3, .int .i64 o0, .int .i64 o1, .int .i64 o2, .int .i64 o3, .int .i64 o4, .int .i64 o5, .int .i64 o6, .int .i64 o7] ∧ Below w.heap.size w wr) (fun i _ => 0 - (intOf i).toNat)
        case atStart => exact ⟨0, by omega, rfl, trivial, KB.out, BB.out⟩
        case round =>
        obtain ⟨J, hJ, rfl, hp2, kb, bb⟩ := hrel
        have HP2 := hid hp2
        clear hp2
        have y0 : wr.cell? ⟨w.heap.size, 0, none⟩ = some (.int .i64 k) := Blk.cell kb (i := 0) (by simp)
        have y1 : wr.cell? ⟨w.heap.size, 1, none⟩ = some (.int .i64 l) := Blk.cell kb (i := 1) (by simp)
        have y2 : wr.cell? ⟨w.heap.size, 2, none⟩ = some (.int .i64 s) := Blk.cell kb (i := 2) (by simp)
        have y3 : wr.cell? ⟨w.heap.size, 3, none⟩ = some (.int .i64 b0) := Blk.cell kb (i := 3) (by simp)
        have y4 : wr.cell? ⟨w.heap.size, 4, none⟩ = some (.int .i64 b1) := Blk.cell kb (i := 4) (by simp)
        have y5 : wr.cell? ⟨w.heap.size, 5, none⟩ = some (.int .i64 b2) := Blk.cell kb (i := 5) (by simp)
        have y6 : wr.cell? ⟨w.heap.size, 6, none⟩ = some (.int .i64 b3) := Blk.cell kb (i := 6) (by simp)
        have y7 : wr.cell? ⟨w.heap.size, 7, none⟩ = some (.int .i64 o0) := Blk.cell kb (i := 7) (by simp)
        have y8 : wr.cell? ⟨w.heap.size, 8, none⟩ = some (.int .i64 o1) := Blk.cell kb (i := 8) (by simp)
        have y9 : wr.cell? ⟨w.heap.size, 9, none⟩ = some (.int .i64 o2) := Blk.cell kb (i := 9) (by simp)
        have y10 : wr.cell? ⟨w.heap.size, 10, none⟩ = some (.int .i64 o3) := Blk.cell kb (i := 10) (by simp)
        have y11 : wr.cell? ⟨w.heap.size, 11, none⟩ = some (.int .i64 o4) := Blk.cell kb (i := 11) (by simp)
        have y12 : wr.cell? ⟨w.heap.size, 12, none⟩ = some (.int .i64 o5) := Blk.cell kb (i := 12) (by simp)
        have y13 : wr.cell? ⟨w.heap.size, 13, none⟩ = some (.int .i64 o6) := Blk.cell kb (i := 13) (by simp)
        have y14 : wr.cell? ⟨w.heap.size, 14, none⟩ = some (.int .i64 o7) := Blk.cell kb (i := 14) (by simp)
        have KB2 := hid kb; have BB2 := hid bb
        clear kb bb
        rcases (by omega : J = 0) with rfl
        · try rw [show ((0 : Nat) : Int) = 0 from rfl]
          go_wp2_with fail
          go_roundw
          case rel => exact ⟨1, by omega, rfl, ⟨fun _ => HH.out, fun h => absurd h (by omega), fun h => absurd h (by omega), fun h => absurd h (by omega), fun h => absurd h (by omega), fun h => absurd h (by omega), fun h => absurd h (by omega)⟩, KB2.out, BB2.out⟩
          case measure => simp [intOf]
    · skip
      rw [show ((1 : Nat) : Int) = 1 from rfl]
      rcases (by omega : b1 < 0 ∨ (¬ b1 < 0 ∧ 128 < b1) ∨ (0 ≤ b1 ∧ b1 ≤ 128)) with h | ⟨h, h'⟩ | h
      · have HOK : Hid (M = false) := by
          cases hMM : M
          · rfl
          · exfalso
            have hh := (HG.out hMM).1
            omega
        have d5 : decide (b1 < 0) = true := decide_eq_true h
        clear h
        go_wp2_with fail
        go_ret
        exact ⟨by rw [HOK.out]; rfl, BB.out⟩
      · have HOK : Hid (M = false) := by
          cases hMM : M
          · rfl
          · exfalso
            have hh := (HG.out hMM).1
            omega
        have d5 : decide (b1 < 0) = false := decide_eq_false h
        have d6 : decide (128 < b1) = true := decide_eq_true h'
        clear h h'
        go_wp2_with fail
        go_ret
        exact ⟨by rw [HOK.out]; rfl, BB.out⟩
      · have HH := hid h
        have d5 : decide (b1 < 0) = false := decide_eq_false (by omega)
        have d6 : decide (128 < b1) = false := decide_eq_false (by omega)
        clear h
        obtain ⟨wo, hwo⟩ : ∃ x, x = wr := ⟨_, rfl⟩
        subst hwo
        go_wp2_with fail
        go_loopw [4] (fun i wr => ∃ J : Nat, J ≤ 1 ∧ i = .int .i64 J ∧ ((1 ≤ J → ¬ (b0 ≠ 0 ∧ b0 = b1))) ∧ Blk wr w.heap.size 25 [.int .i64 k, .int .i64 l, .int .i64 s, .int .i64 b0, .int .i64 b1, .int .i64 b2, .int .i64 b3, .int .i64 o0, .int .i64 o1, .int .i64 o2, .int .i64 o3, .int .i64 o4, .int .i64 o5, .int .i64 o6, .int .i64 o7] ∧ Below w.heap.size w wr) (fun i _ => 1 - (intOf i).toNat)
        case atStart => exact ⟨0, by omega, rfl, (fun h => absurd h (by omega)), KB.out, BB.out⟩
        case round =>
        obtain ⟨J, hJ, rfl, hp2, kb, bb⟩ := hrel
        have HP2 := hid hp2
        clear hp2
        have y0 : wr.cell? ⟨w.heap.size, 0, none⟩ = some (.int .i64 k) := Blk.cell kb (i := 0) (by simp)
        have y1 : wr.cell? ⟨w.heap.size, 1, none⟩ = some (.int .i64 l) := Blk.cell kb (i := 1) (by simp)
        have y2 : wr.cell? ⟨w.heap.size, 2, none⟩ = some (.int .i64 s) := Blk.cell kb (i := 2) (by simp)
        have y3 : wr.cell? ⟨w.heap.size, 3, none⟩ = some (.int .i64 b0) := Blk.cell kb (i := 3) (by simp)
        have y4 : wr.cell? ⟨w.heap.size, 4, none⟩ = some (.int .i64 b1) := Blk.cell kb (i := 4) (by simp)
        have y5 : wr.cell? ⟨w.heap.size, 5, none⟩ = some (.int .i64 b2) := Blk.cell kb (i := 5) (by simp)
        have y6 : wr.cell? ⟨w.heap.size, 6, none⟩ = some (.int .i64 b3) := Blk.cell kb (i := 6) (by simp)
        have y7 : wr.cell? ⟨w.heap.size, 7, none⟩ = some (.int .i64 o0) := Blk.cell kb (i := 7) (by simp)
        have y8 : wr.cell? ⟨w.heap.size, 8, none⟩ = some (.int .i64 o1) := Blk.cell kb (i := 8) (by simp)
        have y9 : wr.cell? ⟨w.heap.size, 9, none⟩ = some (.int .i64 o2) := Blk.cell kb (i := 9) (by simp)
        have y10 : wr.cell? ⟨w.heap.size, 10, none⟩ = some (.int .i64 o3) := Blk.cell kb (i := 10) (by simp)
        have y11 : wr.cell? ⟨w.heap.size, 11, none⟩ = some (.int .i64 o4) := Blk.cell kb (i := 11) (by simp)
        have y12 : wr.cell? ⟨w.heap.size, 12, none⟩ = some (.int .i64 o5) := Blk.cell kb (i := 12) (by simp)
        have y13 : wr.cell? ⟨w.heap.size, 13, none⟩ = some (.int .i64 o6) := Blk.cell kb (i := 13) (by simp)
        have y14 : wr.cell? ⟨w.heap.size, 14, none⟩ = some (.int .i64 o7) := Blk.cell kb (i := 14) (by simp)
        have KB2 := hid kb; have BB2 := hid bb
        clear kb bb
        rcases (by omega : J = 0 ∨ J = 1) with rfl | rfl
        · skip
          rw [show ((0 : Nat) : Int) = 0 from rfl]
          by_cases hn : b0 = 0
          · have d7 : (b0 != 0) = false := by simpa using hn
            have HN : Hid (¬ (b0 ≠ 0 ∧ b0 = b1)) := fun hh => hh.1 hn
            clear hn
            go_wp2_with fail
            go_quiet (fail)
            go_wp2_with fail
            go_roundw
            case rel => exact ⟨1, by omega, rfl, (fun _ => HN.out), KB2.out, bel_drewN BB2.out _⟩
            case measure => simp [intOf]
          · have d7 : (b0 != 0) = true := by simpa using hn
            by_cases he : b0 = b1
            · have HOK : Hid (M = false) := by
                cases hMM : M
                · rfl
                · exact absurd ⟨hn, he⟩ ((HG.out hMM).2.1.1)
              have d8 : (b0 == b1) = true := by simpa using he
              clear he hn
              go_wp2_with fail
              go_quiet (fail)
              go_wp2_with fail
              go_ret
              exact ⟨by rw [HOK.out]; rfl, bel_drewN BB2.out _⟩
            · have d8 : (b0 == b1) = false := by simpa using he
              have HN : Hid (¬ (b0 ≠ 0 ∧ b0 = b1)) := fun hh => he hh.2
              clear he hn
              go_wp2_with fail
              go_quiet (fail)
              go_wp2_with fail
              go_roundw
              case rel => exact ⟨1, by omega, rfl, (fun _ => HN.out), KB2.out, bel_drewN BB2.out _⟩
              case measure => simp [intOf]
        · try rw [show ((1 : Nat) : Int) = 1 from rfl]
          go_wp2_with fail
          go_roundw
          case rel => exact ⟨2, by omega, rfl, ⟨fun _ => HP.out.1 (by omega), fun _ => HH.out, fun h => absurd h (by omega), fun h => absurd h (by omega), fun _ => HP2.out (by omega), fun h => absurd h (by omega), fun h => absurd h (by omega)⟩, KB2.out, BB2.out⟩
          case measure => simp [intOf]
    · skip
      rw [show ((2 : Nat) : Int) = 2 from rfl]
      rcases (by omega : b2 < 0 ∨ (¬ b2 < 0 ∧ 128 < b2) ∨ (0 ≤ b2 ∧ b2 ≤ 128)) with h | ⟨h, h'⟩ | h
      · have HOK : Hid (M = false) := by
          cases hMM : M
          · rfl
          · exfalso
            have hh := (HG.out hMM).1
            omega
        have d5 : decide (b2 < 0) = true := decide_eq_true h
        clear h
        go_wp2_with fail
        go_ret
        exact ⟨by rw [HOK.out]; rfl, BB.out⟩
      · have HOK : Hid (M = false) := by
          cases hMM : M
          · rfl
          · exfalso
            have hh := (HG.out hMM).1
            omega
        have d5 : decide (b2 < 0) = false := decide_eq_false h
        have d6 : decide (128 < b2) = true := decide_eq_true h'
        clear h h'
        go_wp2_with fail
        go_ret
        exact ⟨by rw [HOK.out]; rfl, BB.out⟩
      · have HH := hid h
        have d5 : decide (b2 < 0) = false := decide_eq_false (by omega)
        have d6 : decide (128 < b2) = false := decide_eq_false (by omega)
        clear h
        obtain ⟨wo, hwo⟩ : ∃ x, x = wr := ⟨_, rfl⟩
        subst hwo
        go_wp2_with fail
        go_loopw [4] (fun i wr => ∃ J : Nat, J ≤ 2 ∧ i = .int .i64 J ∧ ((1 ≤ J → ¬ (b0 ≠ 0 ∧ b0 = b2)) ∧ (2 ≤ J → ¬ (b1 ≠ 0 ∧ b1 = b2))) ∧ Blk wr w.heap.size 25 [.int .i64 k, .int .i64 l, .int .i64 s, .int .i64 b0, .int .i64 b1, .int .i64 b2, .int .i64 b3, .int .i64 o0, .int .i64 o1, .int .i64 o2, .int .i64 o3, .int .i64 o4, .int .i64 o5, .int .i64 o6, .int .i64 o7] ∧ Below w.heap.size w wr) (fun i _ => 2 - (intOf i).toNat)
        case atStart => exact ⟨0, by omega, rfl, ⟨fun h => absurd h (by omega), fun h => absurd h (by omega)⟩, KB.out, BB.out⟩
        case round =>
        obtain ⟨J, hJ, rfl, hp2, kb, bb⟩ := hrel
        have HP2 := hid hp2
        clear hp2
        have y0 : wr.cell? ⟨w.heap.size, 0, none⟩ = some (.int .i64 k) := Blk.cell kb (i := 0) (by simp)
        have y1 : wr.cell? ⟨w.heap.size, 1, none⟩ = some (.int .i64 l) := Blk.cell kb (i := 1) (by simp)
        have y2 : wr.cell? ⟨w.heap.size, 2, none⟩ = some (.int .i64 s) := Blk.cell kb (i := 2) (by simp)
        have y3 : wr.cell? ⟨w.heap.size, 3, none⟩ = some (.int .i64 b0) := Blk.cell kb (i := 3) (by simp)
        have y4 : wr.cell? ⟨w.heap.size, 4, none⟩ = some (.int .i64 b1) := Blk.cell kb (i := 4) (by simp)
        have y5 : wr.cell? ⟨w.heap.size, 5, none⟩ = some (.int .i64 b2) := Blk.cell kb (i := 5) (by simp)
        have y6 : wr.cell? ⟨w.heap.size, 6, none⟩ = some (.int .i64 b3) := Blk.cell kb (i := 6) (by simp)
        have y7 : wr.cell? ⟨w.heap.size, 7, none⟩ = some (.int .i64 o0) := Blk.cell kb (i := 7) (by simp)
        have y8 : wr.cell? ⟨w.heap.size, 8, none⟩ = some (.int .i64 o1) := Blk.cell kb (i := 8) (by simp)
        have y9 : wr.cell? ⟨w.heap.size, 9, none⟩ = some (.int .i64 o2) := Blk.cell kb (i := 9) (by simp)
        have y10 : wr.cell? ⟨w.heap.size, 10, none⟩ = some (.int .i64 o3) := Blk.cell kb (i := 10) (by simp)
        have y11 : wr.cell? ⟨w.heap.size, 11, none⟩ = some (.int .i64 o4) := Blk.cell kb (i := 11) (by simp)
        have y12 : wr.cell? ⟨w.heap.size, 12, none⟩ = some (.int .i64 o5) := Blk.cell kb (i := 12) (by simp)
        have y13 : wr.cell? ⟨w.heap.size, 13, none⟩ = some (.int .i64 o6) := Blk.cell kb (i := 13) (by simp)
        have y14 : wr.cell? ⟨w.heap.size, 14, none⟩ = some (.int .i64 o7) := Blk.cell kb (i := 14) (by simp)
        have KB2 := hid kb; have BB2 := hid bb
        clear kb bb
        rcases (by omega : J = 0 ∨ J = 1 ∨ J = 2) with rfl | rfl | rfl
        · skip
          rw [show ((0 : Nat) : Int) = 0 from rfl]
          by_cases hn : b0 = 0
          · have d7 : (b0 != 0) = false := by simpa using hn
            have HN : Hid (¬ (b0 ≠ 0 ∧ b0 = b2)) := fun hh => hh.1 hn
            clear hn
            go_wp2_with fail
            go_quiet (fail)
            go_wp2_with fail
            go_roundw
            case rel => exact ⟨1, by omega, rfl, ⟨fun _ => HN.out, fun h => absurd h (by omega)⟩, KB2.out, bel_drewN BB2.out _⟩
            case measure => simp [intOf]
          · have d7 : (b0 != 0) = true := by simpa using hn
            by_cases he : b0 = b2
            · have HOK : Hid (M = false) := by
                cases hMM : M
                · rfl
                · exact absurd ⟨hn, he⟩ ((HG.out hMM).2.1.2.1)
              have d8 : (b0 == b2) = true := by simpa using he
              clear he hn
              go_wp2_with fail
              go_quiet (fail)
              go_wp2_with fail
              go_ret
              exact ⟨by rw [HOK.out]; rfl, bel_drewN BB2.out _⟩
            · have d8 : (b0 == b2) = false := by simpa using he
              have HN : Hid (¬ (b0 ≠ 0 ∧ b0 = b2)) := fun hh => he hh.2
              clear he hn
              go_wp2_with fail
              go_quiet (fail)
              go_wp2_with fail
              go_roundw
              case rel => exact ⟨1, by omega, rfl, ⟨fun _ => HN.out, fun h => absurd h (by omega)⟩, KB2.out, bel_drewN BB2.out _⟩
              case measure => simp [intOf]
        · skip
          rw [show ((1 : Nat) : Int) = 1 from rfl]
          by_cases hn : b1 = 0
          · have d7 : (b1 != 0) = false := by simpa using hn
            have HN : Hid (¬ (b1 ≠ 0 ∧ b1 = b2)) := fun hh => hh.1 hn
            clear hn
            go_wp2_with fail
            go_quiet (fail)
            go_wp2_with fail
            go_roundw
            case rel => exact ⟨2, by omega, rfl, ⟨fun _ => HP2.out.1 (by omega), fun _ => HN.out⟩, KB2.out, bel_drewN BB2.out _⟩
            case measure => simp [intOf]
          · have d7 : (b1 != 0) = true := by simpa using hn
            by_cases he : b1 = b2
            · have HOK : Hid (M = false) := by
                cases hMM : M
                · rfl
                · exact absurd ⟨hn, he⟩ ((HG.out hMM).2.1.2.2.1)
              have d8 : (b1 == b2) = true := by simpa using he
              clear he hn
              go_wp2_with fail
              go_quiet (fail)
              go_wp2_with fail
              go_ret
              exact ⟨by rw [HOK.out]; rfl, bel_drewN BB2.out _⟩
            · have d8 : (b1 == b2) = false := by simpa using he
              have HN : Hid (¬ (b1 ≠ 0 ∧ b1 = b2)) := fun hh => he hh.2
              clear he hn
              go_wp2_with fail
              go_quiet (fail)
              go_wp2_with fail
              go_roundw
              case rel => exact ⟨2, by omega, rfl, ⟨fun _ => HP2.out.1 (by omega), fun _ => HN.out⟩, KB2.out, bel_drewN BB2.out _⟩
              case measure => simp [intOf]
        · try rw [show ((2 : Nat) : Int) = 2 from rfl]
          go_wp2_with fail
          go_roundw
          case rel => exact ⟨3, by omega, rfl, ⟨fun _ => HP.out.1 (by omega), fun _ => HP.out.2.1 (by omega), fun _ => HH.out, fun h => absurd h (by omega), fun _ => HP.out.2.2.2.2.1 (by omega), fun _ => ⟨HP2.out.1 (by omega), HP2.out.2 (by omega)⟩, fun h => absurd h (by omega)⟩, KB2.out, BB2.out⟩
          case measure => simp [intOf]
    · skip
      rw [show ((3 : Nat) : Int) = 3 from rfl]
      rcases (by omega : b3 < 0 ∨ (¬ b3 < 0 ∧ 128 < b3) ∨ (0 ≤ b3 ∧ b3 ≤ 128)) with h | ⟨h, h'⟩ | h
      · have HOK : Hid (M = false) := by
          cases hMM : M
          · rfl
          · exfalso
            have hh := (HG.out hMM).1
            omega
        have d5 : decide (b3 < 0) = true := decide_eq_true h
        clear h
        go_wp2_with fail
        go_ret
        exact ⟨by rw [HOK.out]; rfl, BB.out⟩
      · have HOK : Hid (M = false) := by
          cases hMM : M
          · rfl
          · exfalso
            have hh := (HG.out hMM).1
            omega
        have d5 : decide (b3 < 0) = false := decide_eq_false h
        have d6 : decide (128 < b3) = true := decide_eq_true h'
        clear h h'
        go_wp2_with fail
        go_ret
        exact ⟨by rw [HOK.out]; rfl, BB.out⟩
      · have HH := hid h
        have d5 : decide (b3 < 0) = false := decide_eq_false (by omega)
        have d6 : decide (128 < b3) = false := decide_eq_false (by omega)
        clear h
        obtain ⟨wo, hwo⟩ : ∃ x, x = wr := ⟨_, rfl⟩
        subst hwo
        go_wp2_with fail
        go_loopw [4] (fun i wr => ∃ J : Nat, J ≤ 3 ∧ i = .int .i64 J ∧ ((1 ≤ J → ¬ (b0 ≠ 0 ∧ b0 = b3)) ∧ (2 ≤ J → ¬ (b1 ≠ 0 ∧ b1 = b3)) ∧ (3 ≤ J → ¬ (b2 ≠ 0 ∧ b2 = b3))) ∧ Blk wr w.heap.size 25 [.int .i64 k, .int .i64 l, .int .i64 s, .int .i64 b0, .int .i64 b1, .int .i64 b2, .int .i64 b3, .int .i64 o0, .int .i64 o1, .int .i64 o2, .int .i64 o3, .int .i64 o4, .int .i64 o5, .int .i64 o6, .int .i64 o7] ∧ Below w.heap.size w wr) (fun i _ => 3 - (intOf i).toNat)
        case atStart => exact ⟨0, by omega, rfl, ⟨fun h => absurd h (by omega), fun h => absurd h (by omega), fun h => absurd h (by omega)⟩, KB.out, BB.out⟩
        case round =>
        obtain ⟨J, hJ, rfl, hp2, kb, bb⟩ := hrel
        have HP2 := hid hp2
        clear hp2
        have y0 : wr.cell? ⟨w.heap.size, 0, none⟩ = some (.int .i64 k) := Blk.cell kb (i := 0) (by simp)
        have y1 : wr.cell? ⟨w.heap.size, 1, none⟩ = some (.int .i64 l) := Blk.cell kb (i := 1) (by simp)
        have y2 : wr.cell? ⟨w.heap.size, 2, none⟩ = some (.int .i64 s) := Blk.cell kb (i := 2) (by simp)
        have y3 : wr.cell? ⟨w.heap.size, 3, none⟩ = some (.int .i64 b0) := Blk.cell kb (i := 3) (by simp)
        have y4 : wr.cell? ⟨w.heap.size, 4, none⟩ = some (.int .i64 b1) := Blk.cell kb (i := 4) (by simp)
        have y5 : wr.cell? ⟨w.heap.size, 5, none⟩ = some (.int .i64 b2) := Blk.cell kb (i := 5) (by simp)
        have y6 : wr.cell? ⟨w.heap.size, 6, none⟩ = some (.int .i64 b3) := Blk.cell kb (i := 6) (by simp)
        have y7 : wr.cell? ⟨w.heap.size, 7, none⟩ = some (.int .i64 o0) := Blk.cell kb (i := 7) (by simp)
        have y8 : wr.cell? ⟨w.heap.size, 8, none⟩ = some (.int .i64 o1) := Blk.cell kb (i := 8) (by simp)
        have y9 : wr.cell? ⟨w.heap.size, 9, none⟩ = some (.int .i64 o2) := Blk.cell kb (i := 9) (by simp)
        have y10 : wr.cell? ⟨w.heap.size, 10, none⟩ = some (.int .i64 o3) := Blk.cell kb (i := 10) (by simp)
        have y11 : wr.cell? ⟨w.heap.size, 11, none⟩ = some (.int .i64 o4) := Blk.cell kb (i := 11) (by simp)
        have y12 : wr.cell? ⟨w.heap.size, 12, none⟩ = some (.int .i64 o5) := Blk.cell kb (i := 12) (by simp)
        have y13 : wr.cell? ⟨w.heap.size, 13, none⟩ = some (.int .i64 o6) := Blk.cell kb (i := 13) (by simp)
        have y14 : wr.cell? ⟨w.heap.size, 14, none⟩ = some (.int .i64 o7) := Blk.cell kb (i := 14) (by simp)
        have KB2 := hid kb; have BB2 := hid bb
        clear kb bb
        rcases (by omega : J = 0 ∨ J = 1 ∨ J = 2 ∨ J = 3) with rfl | rfl | rfl | rfl
        · skip
          rw [show ((0 : Nat) : Int) = 0 from rfl]
          by_cases hn : b0 = 0
          · have d7 : (b0 != 0) = false := by simpa using hn
            have HN : Hid (¬ (b0 ≠ 0 ∧ b0 = b3)) := fun hh => hh.1 hn
            clear hn
            go_wp2_with fail
            go_quiet (fail)
            go_wp2_with fail
            go_roundw
            case rel => exact ⟨1, by omega, rfl, ⟨fun _ => HN.out, fun h => absurd h (by omega), fun h => absurd h (by omega)⟩, KB2.out, bel_drewN BB2.out _⟩
            case measure => simp [intOf]
          · have d7 : (b0 != 0) = true := by simpa using hn
            by_cases he : b0 = b3
            · have HOK : Hid (M = false) := by
                cases hMM : M
                · rfl
                · exact absurd ⟨hn, he⟩ ((HG.out hMM).2.1.2.2.2.1)
              have d8 : (b0 == b3) = true := by simpa using he
              clear he hn
              go_wp2_with fail
              go_quiet (fail)
              go_wp2_with fail
              go_ret
              exact ⟨by rw [HOK.out]; rfl, bel_drewN BB2.out _⟩
            · have d8 : (b0 == b3) = false := by simpa using he
              have HN : Hid (¬ (b0 ≠ 0 ∧ b0 = b3)) := fun hh => he hh.2
              clear he hn
              go_wp2_with fail
              go_quiet (fail)
              go_wp2_with fail
              go_roundw
              case rel => exact ⟨1, by omega, rfl, ⟨fun _ => HN.out, fun h => absurd h (by omega), fun h => absurd h (by omega)⟩, KB2.out, bel_drewN BB2.out _⟩
              case measure => simp [intOf]
        · skip
          rw [show ((1 : Nat) : Int) = 1 from rfl]
          by_cases hn : b1 = 0
          · have d7 : (b1 != 0) = false := by simpa using hn
            have HN : Hid (¬ (b1 ≠ 0 ∧ b1 = b3)) := fun hh => hh.1 hn
            clear hn
            go_wp2_with fail
            go_quiet (fail)
            go_wp2_with fail
            go_roundw
            case rel => exact ⟨2, by omega, rfl, ⟨fun _ => HP2.out.1 (by omega), fun _ => HN.out, fun h => absurd h (by omega)⟩, KB2.out, bel_drewN BB2.out _⟩
            case measure => simp [intOf]
          · have d7 : (b1 != 0) = true := by simpa using hn
            by_cases he : b1 = b3
            · have HOK : Hid (M = false) := by
                cases hMM : M
                · rfl
                · exact absurd ⟨hn, he⟩ ((HG.out hMM).2.1.2.2.2.2.1)
              have d8 : (b1 == b3) = true := by simpa using he
              clear he hn
              go_wp2_with fail
              go_quiet (fail)
              go_wp2_with fail
              go_ret
              exact ⟨by rw [HOK.out]; rfl, bel_drewN BB2.out _⟩
            · have d8 : (b1 == b3) = false := by simpa using he
              have HN : Hid (¬ (b1 ≠ 0 ∧ b1 = b3)) := fun hh => he hh.2
              clear he hn
              go_wp2_with fail
              go_quiet (fail)
              go_wp2_with fail
              go_roundw
              case rel => exact ⟨2, by omega, rfl, ⟨fun _ => HP2.out.1 (by omega), fun _ => HN.out, fun h => absurd h (by omega)⟩, KB2.out, bel_drewN BB2.out _⟩
              case measure => simp [intOf]
        · skip
          rw [show ((2 : Nat) : Int) = 2 from rfl]
          by_cases hn : b2 = 0
          · have d7 : (b2 != 0) = false := by simpa using hn
            have HN : Hid (¬ (b2 ≠ 0 ∧ b2 = b3)) := fun hh => hh.1 hn
            clear hn
            go_wp2_with fail
            go_quiet (fail)
            go_wp2_with fail
            go_roundw
            case rel => exact ⟨3, by omega, rfl, ⟨fun _ => HP2.out.1 (by omega), fun _ => HP2.out.2.1 (by omega), fun _ => HN.out⟩, KB2.out, bel_drewN BB2.out _⟩
            case measure => simp [intOf]
          · have d7 : (b2 != 0) = true := by simpa using hn
            by_cases he : b2 = b3
            · have HOK : Hid (M = false) := by
                cases hMM : M
                · rfl
                · exact absurd ⟨hn, he⟩ ((HG.out hMM).2.1.2.2.2.2.2)
              have d8 : (b2 == b3) = true := by simpa using he
              clear he hn
              go_wp2_with fail
              go_quiet (fail)
              go_wp2_with fail
              go_ret
              exact ⟨by rw [HOK.out]; rfl, bel_drewN BB2.out _⟩
            · have d8 : (b2 == b3) = false := by simpa using he
              have HN : Hid (¬ (b2 ≠ 0 ∧ b2 = b3)) := fun hh => he hh.2
              clear he hn
              go_wp2_with fail
              go_quiet (fail)
              go_wp2_with fail
              go_roundw
              case rel => exact ⟨3, by omega, rfl, ⟨fun _ => HP2.out.1 (by omega), fun _ => HP2.out.2.1 (by omega), fun _ => HN.out⟩, KB2.out, bel_drewN BB2.out _⟩
              case measure => simp [intOf]
        · try rw [show ((3 : Nat) : Int) = 3 from rfl]
          go_wp2_with fail
          go_roundw
          case rel => exact ⟨4, by omega, rfl, ⟨fun _ => HP.out.1 (by omega), fun _ => HP.out.2.1 (by omega), fun _ => HP.out.2.2.1 (by omega), fun _ => HH.out, fun _ => HP.out.2.2.2.2.1 (by omega), fun _ => HP.out.2.2.2.2.2.1 (by omega), fun _ => ⟨HP2.out.1 (by omega), HP2.out.2.1 (by omega), HP2.out.2.2 (by omega)⟩⟩, KB2.out, BB2.out⟩
          case measure => simp [intOf]
    · rw [show ((4 : Nat) : Int) = 4 from rfl]
      have HPB := hid (show ((0 ≤ b0 ∧ b0 ≤ 128) ∧ (0 ≤ b1 ∧ b1 ≤ 128) ∧ (0 ≤ b2 ∧ b2 ≤ 128) ∧ (0 ≤ b3 ∧ b3 ≤ 128)) ∧ (¬ (b0 ≠ 0 ∧ b0 = b1) ∧ ¬ (b0 ≠ 0 ∧ b0 = b2) ∧ ¬ (b1 ≠ 0 ∧ b1 = b2) ∧ ¬ (b0 ≠ 0 ∧ b0 = b3) ∧ ¬ (b1 ≠ 0 ∧ b1 = b3) ∧ ¬ (b2 ≠ 0 ∧ b2 = b3)) from ⟨⟨HP.out.1 (by omega), HP.out.2.1 (by omega), HP.out.2.2.1 (by omega), HP.out.2.2.2.1 (by omega)⟩, HP.out.2.2.2.2.1 (by omega), (HP.out.2.2.2.2.2.1 (by omega)).1, (HP.out.2.2.2.2.2.1 (by omega)).2, (HP.out.2.2.2.2.2.2 (by omega)).1, (HP.out.2.2.2.2.2.2 (by omega)).2.1, (HP.out.2.2.2.2.2.2 (by omega)).2.2⟩)
      clear HP
      obtain ⟨wo, hwo⟩ : ∃ x, x = wr := ⟨_, rfl⟩
      subst hwo
      go_wp2_with fail
      go_loopw [5] (fun i wr => ∃ K : Nat, K ≤ 8 ∧ i = .int .i64 K ∧ ((1 ≤ K → o0 = 0) ∧ (2 ≤ K → o1 = 0) ∧ (3 ≤ K → o2 = 0) ∧ (4 ≤ K → o3 = 0) ∧ (5 ≤ K → o4 = 0) ∧ (6 ≤ K → o5 = 0) ∧ (7 ≤ K → o6 = 0) ∧ (8 ≤ K → o7 = 0)) ∧ Blk wr w.heap.size 25 [.int .i64 k, .int .i64 l, .int .i64 s, .int .i64 b0, .int .i64 b1, .int .i64 b2, .int .i64 b3, .int .i64 o0, .int .i64 o1, .int .i64 o2, .int .i64 o3, .int .i64 o4, .int .i64 o5, .int .i64 o6, .int .i64 o7] ∧ Below w.heap.size w wr) (fun i _ => 8 - (intOf i).toNat)
      case atStart => exact ⟨0, by omega, rfl, ⟨fun h => absurd h (by omega), fun h => absurd h (by omega), fun h => absurd h (by omega), fun h => absurd h (by omega), fun h => absurd h (by omega), fun h => absurd h (by omega), fun h => absurd h (by omega), fun h => absurd h (by omega)⟩, KB.out, BB.out⟩
      case round =>
      obtain ⟨K, hK, rfl, hp, kb, bb⟩ := hrel
      have HP := hid hp
      clear hp
      have x0 : wr.cell? ⟨w.heap.size, 0, none⟩ = some (.int .i64 k) := Blk.cell kb (i := 0) (by simp)
      have x1 : wr.cell? ⟨w.heap.size, 1, none⟩ = some (.int .i64 l) := Blk.cell kb (i := 1) (by simp)
      have x2 : wr.cell? ⟨w.heap.size, 2, none⟩ = some (.int .i64 s) := Blk.cell kb (i := 2) (by simp)
      have x3 : wr.cell? ⟨w.heap.size, 3, none⟩ = some (.int .i64 b0) := Blk.cell kb (i := 3) (by simp)
      have x4 : wr.cell? ⟨w.heap.size, 4, none⟩ = some (.int .i64 b1) := Blk.cell kb (i := 4) (by simp)
      have x5 : wr.cell? ⟨w.heap.size, 5, none⟩ = some (.int .i64 b2) := Blk.cell kb (i := 5) (by simp)
      have x6 : wr.cell? ⟨w.heap.size, 6, none⟩ = some (.int .i64 b3) := Blk.cell kb (i := 6) (by simp)
      have x7 : wr.cell? ⟨w.heap.size, 7, none⟩ = some (.int .i64 o0) := Blk.cell kb (i := 7) (by simp)
      have x8 : wr.cell? ⟨w.heap.size, 8, none⟩ = some (.int .i64 o1) := Blk.cell kb (i := 8) (by simp)
      have x9 : wr.cell? ⟨w.heap.size, 9, none⟩ = some (.int .i64 o2) := Blk.cell kb (i := 9) (by simp)
      have x10 : wr.cell? ⟨w.heap.size, 10, none⟩ = some (.int .i64 o3) := Blk.cell kb (i := 10) (by simp)
      have x11 : wr.cell? ⟨w.heap.size, 11, none⟩ = some (.int .i64 o4) := Blk.cell kb (i := 11) (by simp)
      have x12 : wr.cell? ⟨w.heap.size, 12, none⟩ = some (.int .i64 o5) := Blk.cell kb (i := 12) (by simp)
      have x13 : wr.cell? ⟨w.heap.size, 13, none⟩ = some (.int .i64 o6) := Blk.cell kb (i := 13) (by simp)
      have x14 : wr.cell? ⟨w.heap.size, 14, none⟩ = some (.int .i64 o7) := Blk.cell kb (i := 14) (by simp)
      have KB3 := hid kb; have BB3 := hid bb
      clear kb bb
      rcases (by omega : K = 0 ∨ K = 1 ∨ K = 2 ∨ K = 3 ∨ K = 4 ∨ K = 5 ∨ K = 6 ∨ K = 7 ∨ K = 8) with rfl | rfl | rfl | rfl | rfl | rfl | rfl | rfl | rfl
      · skip
        rw [show ((0 : Nat) : Int) = 0 from rfl]
        rcases (by omega : o0 < 0 ∨ (¬ o0 < 0 ∧ 8 < o0) ∨ (0 ≤ o0 ∧ o0 ≤ 8)) with h | ⟨h, h'⟩ | h
        · skip
          have HOK : Hid (M = false) := by
            cases hMM : M
            · rfl
            · exfalso
              have hh := (HG.out hMM).2.2.1.1
              have h1 := hh.1
              have h2 := hh.2.1
              omega
          have d5 : decide (o0 < 0) = true := decide_eq_true h
          clear h
          go_wp2_with fail
          go_ret
          exact ⟨by rw [HOK.out]; rfl, BB3.out⟩
        · skip
          have HOK : Hid (M = false) := by
            cases hMM : M
            · rfl
            · exfalso
              have hh := (HG.out hMM).2.2.1.1
              have h1 := hh.1
              have h2 := hh.2.1
              omega
          have d5 : decide (o0 < 0) = false := decide_eq_false h
          have d6 : decide (8 < o0) = true := decide_eq_true h'
          clear h h'
          go_wp2_with fail
          go_ret
          exact ⟨by rw [HOK.out]; rfl, BB3.out⟩
        · have d5 : decide (o0 < 0) = false := decide_eq_false (by omega)
          have d6 : decide (8 < o0) = false := decide_eq_false (by omega)
          clear h
          by_cases hn : o0 = 0
          · have HH := hid hn
            have d7 : (o0 != 0) = false := by simpa using hn
            clear hn
            go_wp2_with fail
            go_roundw
            case rel => exact ⟨1, by omega, rfl, ⟨fun _ => HH.out, fun h => absurd h (by omega), fun h => absurd h (by omega), fun h => absurd h (by omega), fun h => absurd h (by omega), fun h => absurd h (by omega), fun h => absurd h (by omega), fun h => absurd h (by omega)⟩, KB3.out, BB3.out⟩
            case measure => simp [intOf]
          · have d7 : (o0 != 0) = true := by simpa using hn
            have HOK : Hid (M = false) := by
              cases hMM : M
              · rfl
              · exact absurd ((HG.out hMM).2.2.1.1.2.2 HK1.out) hn
            clear hn
            go_wp2_with fail
            go_ret
            exact ⟨by rw [HOK.out]; rfl, BB3.out⟩
      · skip
        rw [show ((1 : Nat) : Int) = 1 from rfl]
        rcases (by omega : o1 < 0 ∨ (¬ o1 < 0 ∧ 8 < o1) ∨ (0 ≤ o1 ∧ o1 ≤ 8)) with h | ⟨h, h'⟩ | h
        · skip
          have HOK : Hid (M = false) := by
            cases hMM : M
            · rfl
            · exfalso
              have hh := (HG.out hMM).2.2.1.2.1
              have h1 := hh.1
              have h2 := hh.2.1
              omega
          have d5 : decide (o1 < 0) = true := decide_eq_true h
          clear h
          go_wp2_with fail
          go_ret
          exact ⟨by rw [HOK.out]; rfl, BB3.out⟩
        · skip
          have HOK : Hid (M = false) := by
            cases hMM : M
            · rfl
            · exfalso
              have hh := (HG.out hMM).2.2.1.2.1
              have h1 := hh.1
              have h2 := hh.2.1
              omega
          have d5 : decide (o1 < 0) = false := decide_eq_false h
          have d6 : decide (8 < o1) = true := decide_eq_true h'
          clear h h'
          go_wp2_with fail
          go_ret
          exact ⟨by rw [HOK.out]; rfl, BB3.out⟩
        · have d5 : decide (o1 < 0) = false := decide_eq_false (by omega)
          have d6 : decide (8 < o1) = false := decide_eq_false (by omega)
          clear h
          by_cases hn : o1 = 0
          · have HH := hid hn
            have d7 : (o1 != 0) = false := by simpa using hn
            clear hn
            go_wp2_with fail
            go_roundw
            case rel => exact ⟨2, by omega, rfl, ⟨fun _ => HP.out.1 (by omega), fun _ => HH.out, fun h => absurd h (by omega), fun h => absurd h (by omega), fun h => absurd h (by omega), fun h => absurd h (by omega), fun h => absurd h (by omega), fun h => absurd h (by omega)⟩, KB3.out, BB3.out⟩
            case measure => simp [intOf]
          · have d7 : (o1 != 0) = true := by simpa using hn
            have HOK : Hid (M = false) := by
              cases hMM : M
              · rfl
              · exact absurd ((HG.out hMM).2.2.1.2.1.2.2 HK1.out) hn
            clear hn
            go_wp2_with fail
            go_ret
            exact ⟨by rw [HOK.out]; rfl, BB3.out⟩
      · skip
        rw [show ((2 : Nat) : Int) = 2 from rfl]
        rcases (by omega : o2 < 0 ∨ (¬ o2 < 0 ∧ 8 < o2) ∨ (0 ≤ o2 ∧ o2 ≤ 8)) with h | ⟨h, h'⟩ | h
        · skip
          have HOK : Hid (M = false) := by
            cases hMM : M
            · rfl
            · exfalso
              have hh := (HG.out hMM).2.2.1.2.2.1
              have h1 := hh.1
              have h2 := hh.2.1
              omega
          have d5 : decide (o2 < 0) = true := decide_eq_true h
          clear h
          go_wp2_with fail
          go_ret
          exact ⟨by rw [HOK.out]; rfl, BB3.out⟩
        · skip
          have HOK : Hid (M = false) := by
            cases hMM : M
            · rfl
            · exfalso
              have hh := (HG.out hMM).2.2.1.2.2.1
              have h1 := hh.1
              have h2 := hh.2.1
              omega
          have d5 : decide (o2 < 0) = false := decide_eq_false h
          have d6 : decide (8 < o2) = true := decide_eq_true h'
          clear h h'
          go_wp2_with fail
          go_ret
          exact ⟨by rw [HOK.out]; rfl, BB3.out⟩
        · have d5 : decide (o2 < 0) = false := decide_eq_false (by omega)
          have d6 : decide (8 < o2) = false := decide_eq_false (by omega)
          clear h
          by_cases hn : o2 = 0
          · have HH := hid hn
            have d7 : (o2 != 0) = false := by simpa using hn
            clear hn
            go_wp2_with fail
            go_roundw
            case rel => exact ⟨3, by omega, rfl, ⟨fun _ => HP.out.1 (by omega), fun _ => HP.out.2.1 (by omega), fun _ => HH.out, fun h => absurd h (by omega), fun h => absurd h (by omega), fun h => absurd h (by omega), fun h => absurd h (by omega), fun h => absurd h (by omega)⟩, KB3.out, BB3.out⟩
            case measure => simp [intOf]
          · have d7 : (o2 != 0) = true := by simpa using hn
            have HOK : Hid (M = false) := by
              cases hMM : M
              · rfl
              · exact absurd ((HG.out hMM).2.2.1.2.2.1.2.2 HK1.out) hn
            clear hn
            go_wp2_with fail
            go_ret
            exact ⟨by rw [HOK.out]; rfl, BB3.out⟩
      · skip
        rw [show ((3 : Nat) : Int) = 3 from rfl]
        rcases (by omega : o3 < 0 ∨ (¬ o3 < 0 ∧ 8 < o3) ∨ (0 ≤ o3 ∧ o3 ≤ 8)) with h | ⟨h, h'⟩ | h
        · skip
          have HOK : Hid (M = false) := by
            cases hMM : M
            · rfl
            · exfalso
              have hh := (HG.out hMM).2.2.1.2.2.2.1
              have h1 := hh.1
              have h2 := hh.2.1
              omega
          have d5 : decide (o3 < 0) = true := decide_eq_true h
          clear h
          go_wp2_with fail
          go_ret
          exact ⟨by rw [HOK.out]; rfl, BB3.out⟩
        · skip
          have HOK : Hid (M = false) := by
            cases hMM : M
            · rfl
            · exfalso
              have hh := (HG.out hMM).2.2.1.2.2.2.1
              have h1 := hh.1
              have h2 := hh.2.1
              omega
          have d5 : decide (o3 < 0) = false := decide_eq_false h
          have d6 : decide (8 < o3) = true := decide_eq_true h'
          clear h h'
          go_wp2_with fail
          go_ret
          exact ⟨by rw [HOK.out]; rfl, BB3.out⟩
        · have d5 : decide (o3 < 0) = false := decide_eq_false (by omega)
          have d6 : decide (8 < o3) = false := decide_eq_false (by omega)
          clear h
          by_cases hn : o3 = 0
          · have HH := hid hn
            have d7 : (o3 != 0) = false := by simpa using hn
            clear hn
            go_wp2_with fail
            go_roundw
            case rel => exact ⟨4, by omega, rfl, ⟨fun _ => HP.out.1 (by omega), fun _ => HP.out.2.1 (by omega), fun _ => HP.out.2.2.1 (by omega), fun _ => HH.out, fun h => absurd h (by omega), fun h => absurd h (by omega), fun h => absurd h (by omega), fun h => absurd h (by omega)⟩, KB3.out, BB3.out⟩
            case measure => simp [intOf]
          · have d7 : (o3 != 0) = true := by simpa using hn
            have HOK : Hid (M = false) := by
              cases hMM : M
              · rfl
              · exact absurd ((HG.out hMM).2.2.1.2.2.2.1.2.2 HK1.out) hn
            clear hn
            go_wp2_with fail
            go_ret
            exact ⟨by rw [HOK.out]; rfl, BB3.out⟩
      · skip
        rw [show ((4 : Nat) : Int) = 4 from rfl]
        rcases (by omega : o4 < 0 ∨ (¬ o4 < 0 ∧ 8 < o4) ∨ (0 ≤ o4 ∧ o4 ≤ 8)) with h | ⟨h, h'⟩ | h
        · skip
          have HOK : Hid (M = false) := by
            cases hMM : M
            · rfl
            · exfalso
              have hh := (HG.out hMM).2.2.1.2.2.2.2.1
              have h1 := hh.1
              have h2 := hh.2.1
              omega
          have d5 : decide (o4 < 0) = true := decide_eq_true h
          clear h
          go_wp2_with fail
          go_ret
          exact ⟨by rw [HOK.out]; rfl, BB3.out⟩
        · skip
          have HOK : Hid (M = false) := by
            cases hMM : M
            · rfl
            · exfalso
              have hh := (HG.out hMM).2.2.1.2.2.2.2.1
              have h1 := hh.1
              have h2 := hh.2.1
              omega
          have d5 : decide (o4 < 0) = false := decide_eq_false h
          have d6 : decide (8 < o4) = true := decide_eq_true h'
          clear h h'
          go_wp2_with fail
          go_ret
          exact ⟨by rw [HOK.out]; rfl, BB3.out⟩
        · have d5 : decide (o4 < 0) = false := decide_eq_false (by omega)
          have d6 : decide (8 < o4) = false := decide_eq_false (by omega)
          clear h
          by_cases hn : o4 = 0
          · have HH := hid hn
            have d7 : (o4 != 0) = false := by simpa using hn
            clear hn
            go_wp2_with fail
            go_roundw
            case rel => exact ⟨5, by omega, rfl, ⟨fun _ => HP.out.1 (by omega), fun _ => HP.out.2.1 (by omega), fun _ => HP.out.2.2.1 (by omega), fun _ => HP.out.2.2.2.1 (by omega), fun _ => HH.out, fun h => absurd h (by omega), fun h => absurd h (by omega), fun h => absurd h (by omega)⟩, KB3.out, BB3.out⟩
            case measure => simp [intOf]
          · have d7 : (o4 != 0) = true := by simpa using hn
            have HOK : Hid (M = false) := by
              cases hMM : M
              · rfl
              · exact absurd ((HG.out hMM).2.2.1.2.2.2.2.1.2.2 HK1.out) hn
            clear hn
            go_wp2_with fail
            go_ret
            exact ⟨by rw [HOK.out]; rfl, BB3.out⟩
      · skip
        rw [show ((5 : Nat) : Int) = 5 from rfl]
        rcases (by omega : o5 < 0 ∨ (¬ o5 < 0 ∧ 8 < o5) ∨ (0 ≤ o5 ∧ o5 ≤ 8)) with h | ⟨h, h'⟩ | h
        · skip
          have HOK : Hid (M = false) := by
            cases hMM : M
            · rfl
            · exfalso
              have hh := (HG.out hMM).2.2.1.2.2.2.2.2.1
              have h1 := hh.1
              have h2 := hh.2.1
              omega
          have d5 : decide (o5 < 0) = true := decide_eq_true h
          clear h
          go_wp2_with fail
          go_ret
          exact ⟨by rw [HOK.out]; rfl, BB3.out⟩
        · skip
          have HOK : Hid (M = false) := by
            cases hMM : M
            · rfl
            · exfalso
              have hh := (HG.out hMM).2.2.1.2.2.2.2.2.1
              have h1 := hh.1
              have h2 := hh.2.1
              omega
          have d5 : decide (o5 < 0) = false := decide_eq_false h
          have d6 : decide (8 < o5) = true := decide_eq_true h'
          clear h h'
          go_wp2_with fail
          go_ret
          exact ⟨by rw [HOK.out]; rfl, BB3.out⟩
        · have d5 : decide (o5 < 0) = false := decide_eq_false (by omega)
          have d6 : decide (8 < o5) = false := decide_eq_false (by omega)
          clear h
          by_cases hn : o5 = 0
          · have HH := hid hn
            have d7 : (o5 != 0) = false := by simpa using hn
            clear hn
            go_wp2_with fail
            go_roundw
            case rel => exact ⟨6, by omega, rfl, ⟨fun _ => HP.out.1 (by omega), fun _ => HP.out.2.1 (by omega), fun _ => HP.out.2.2.1 (by omega), fun _ => HP.out.2.2.2.1 (by omega), fun _ => HP.out.2.2.2.2.1 (by omega), fun _ => HH.out, fun h => absurd h (by omega), fun h => absurd h (by omega)⟩, KB3.out, BB3.out⟩
            case measure => simp [intOf]
          · have d7 : (o5 != 0) = true := by simpa using hn
            have HOK : Hid (M = false) := by
              cases hMM : M
              · rfl
              · exact absurd ((HG.out hMM).2.2.1.2.2.2.2.2.1.2.2 HK1.out) hn
            clear hn
            go_wp2_with fail
            go_ret
            exact ⟨by rw [HOK.out]; rfl, BB3.out⟩
      · skip
        rw [show ((6 : Nat) : Int) = 6 from rfl]
        rcases (by omega : o6 < 0 ∨ (¬ o6 < 0 ∧ 8 < o6) ∨ (0 ≤ o6 ∧ o6 ≤ 8)) with h | ⟨h, h'⟩ | h
        · skip
          have HOK : Hid (M = false) := by
            cases hMM : M
            · rfl
            · exfalso
              have hh := (HG.out hMM).2.2.1.2.2.2.2.2.2.1
              have h1 := hh.1
              have h2 := hh.2.1
              omega
          have d5 : decide (o6 < 0) = true := decide_eq_true h
          clear h
          go_wp2_with fail
          go_ret
          exact ⟨by rw [HOK.out]; rfl, BB3.out⟩
        · skip
          have HOK : Hid (M = false) := by
            cases hMM : M
            · rfl
            · exfalso
              have hh := (HG.out hMM).2.2.1.2.2.2.2.2.2.1
              have h1 := hh.1
              have h2 := hh.2.1
              omega
          have d5 : decide (o6 < 0) = false := decide_eq_false h
          have d6 : decide (8 < o6) = true := decide_eq_true h'
          clear h h'
          go_wp2_with fail
          go_ret
          exact ⟨by rw [HOK.out]; rfl, BB3.out⟩
        · have d5 : decide (o6 < 0) = false := decide_eq_false (by omega)
          have d6 : decide (8 < o6) = false := decide_eq_false (by omega)
          clear h
          by_cases hn : o6 = 0
          · have HH := hid hn
            have d7 : (o6 != 0) = false := by simpa using hn
            clear hn
            go_wp2_with fail
            go_roundw
            case rel => exact ⟨7, by omega, rfl, ⟨fun _ => HP.out.1 (by omega), fun _ => HP.out.2.1 (by omega), fun _ => HP.out.2.2.1 (by omega), fun _ => HP.out.2.2.2.1 (by omega), fun _ => HP.out.2.2.2.2.1 (by omega), fun _ => HP.out.2.2.2.2.2.1 (by omega), fun _ => HH.out, fun h => absurd h (by omega)⟩, KB3.out, BB3.out⟩
            case measure => simp [intOf]
          · have d7 : (o6 != 0) = true := by simpa using hn
            have HOK : Hid (M = false) := by
              cases hMM : M
              · rfl
              · exact absurd ((HG.out hMM).2.2.1.2.2.2.2.2.2.1.2.2 HK1.out) hn
            clear hn
            go_wp2_with fail
            go_ret
            exact ⟨by rw [HOK.out]; rfl, BB3.out⟩
      · skip
        rw [show ((7 : Nat) : Int) = 7 from rfl]
        rcases (by omega : o7 < 0 ∨ (¬ o7 < 0 ∧ 8 < o7) ∨ (0 ≤ o7 ∧ o7 ≤ 8)) with h | ⟨h, h'⟩ | h
        · skip
          have HOK : Hid (M = false) := by
            cases hMM : M
            · rfl
            · exfalso
              have hh := (HG.out hMM).2.2.1.2.2.2.2.2.2.2
              have h1 := hh.1
              have h2 := hh.2.1
              omega
          have d5 : decide (o7 < 0) = true := decide_eq_true h
          clear h
          go_wp2_with fail
          go_ret
          exact ⟨by rw [HOK.out]; rfl, BB3.out⟩
        · skip
          have HOK : Hid (M = false) := by
            cases hMM : M
            · rfl
            · exfalso
              have hh := (HG.out hMM).2.2.1.2.2.2.2.2.2.2
              have h1 := hh.1
              have h2 := hh.2.1
              omega
          have d5 : decide (o7 < 0) = false := decide_eq_false h
          have d6 : decide (8 < o7) = true := decide_eq_true h'
          clear h h'
          go_wp2_with fail
          go_ret
          exact ⟨by rw [HOK.out]; rfl, BB3.out⟩
        · have d5 : decide (o7 < 0) = false := decide_eq_false (by omega)
          have d6 : decide (8 < o7) = false := decide_eq_false (by omega)
          clear h
          by_cases hn : o7 = 0
          · have HH := hid hn
            have d7 : (o7 != 0) = false := by simpa using hn
            clear hn
            go_wp2_with fail
            go_roundw
            case rel => exact ⟨8, by omega, rfl, ⟨fun _ => HP.out.1 (by omega), fun _ => HP.out.2.1 (by omega), fun _ => HP.out.2.2.1 (by omega), fun _ => HP.out.2.2.2.1 (by omega), fun _ => HP.out.2.2.2.2.1 (by omega), fun _ => HP.out.2.2.2.2.2.1 (by omega), fun _ => HP.out.2.2.2.2.2.2.1 (by omega), fun _ => HH.out⟩, KB3.out, BB3.out⟩
            case measure => simp [intOf]
          · have d7 : (o7 != 0) = true := by simpa using hn
            have HOK : Hid (M = false) := by
              cases hMM : M
              · rfl
              · exact absurd ((HG.out hMM).2.2.1.2.2.2.2.2.2.2.2.2 HK1.out) hn
            clear hn
            go_wp2_with fail
            go_ret
            exact ⟨by rw [HOK.out]; rfl, BB3.out⟩
      · rw [show ((8 : Nat) : Int) = 8 from rfl]
        by_cases hk2 : k = 2
        · have e3 : (k == 2) = true := by simpa using hk2
          have HK2 := hid hk2
          clear hk2
          rcases (by omega : ¬ l = 1 ∨ (l = 1 ∧ s < 0) ∨ (l = 1 ∧ ¬ s < 0 ∧ 16 < s) ∨ (l = 1 ∧ 0 ≤ s ∧ s ≤ 16)) with h1 | ⟨h1, h2⟩ | ⟨h1, h2, h3⟩ | hh
          · skip
            have HOK : Hid (M = false) := by
              cases hMM : M
              · rfl
              · exfalso
                have hh := ((HD.out HK2.out).1 hMM).1
                omega
            have d1 : (l == 1) = false := by simpa using h1
            clear h1
            go_wp2_with fail
            go_ret
            exact ⟨by rw [HOK.out]; rfl, BB3.out⟩
          · skip
            have HOK : Hid (M = false) := by
              cases hMM : M
              · rfl
              · exfalso
                have hh := ((HD.out HK2.out).1 hMM).1
                omega
            have d1 : (l == 1) = true := by simpa using h1
            have d3 : decide (0 ≤ s) = false := decide_eq_false (by omega)
            clear h1 h2
            go_wp2_with fail
            go_ret
            exact ⟨by rw [HOK.out]; rfl, BB3.out⟩
          · skip
            have HOK : Hid (M = false) := by
              cases hMM : M
              · rfl
              · exfalso
                have hh := ((HD.out HK2.out).1 hMM).1
                omega
            have d1 : (l == 1) = true := by simpa using h1
            have d3 : decide (0 ≤ s) = true := decide_eq_true (by omega)
            have d4 : decide (s ≤ 16) = false := decide_eq_false (by omega)
            clear h1 h2 h3
            go_wp2_with fail
            go_ret
            exact ⟨by rw [HOK.out]; rfl, BB3.out⟩
          · skip
            have HOK : Hid (M = true) := (HD.out HK2.out).2 ⟨hh, HPB.out.1, HPB.out.2, ⟨(by have q := HP.out.1 (by omega); exact ⟨by omega, by omega, fun _ => q⟩), (by have q := HP.out.2.1 (by omega); exact ⟨by omega, by omega, fun _ => q⟩), (by have q := HP.out.2.2.1 (by omega); exact ⟨by omega, by omega, fun _ => q⟩), (by have q := HP.out.2.2.2.1 (by omega); exact ⟨by omega, by omega, fun _ => q⟩), (by have q := HP.out.2.2.2.2.1 (by omega); exact ⟨by omega, by omega, fun _ => q⟩), (by have q := HP.out.2.2.2.2.2.1 (by omega); exact ⟨by omega, by omega, fun _ => q⟩), (by have q := HP.out.2.2.2.2.2.2.1 (by omega); exact ⟨by omega, by omega, fun _ => q⟩), (by have q := HP.out.2.2.2.2.2.2.2 (by omega); exact ⟨by omega, by omega, fun _ => q⟩)⟩⟩
            have d1 : (l == 1) = true := by simpa using hh.1
            have d3 : decide (0 ≤ s) = true := decide_eq_true (by omega)
            have d4 : decide (s ≤ 16) = true := decide_eq_true (by omega)
            clear hh
            go_wp2_with fail
            go_ret
            exact ⟨by rw [HOK.out]; rfl, BB3.out⟩
        · have e3 : (k == 2) = false := by simpa using hk2
          have HOK : Hid (M = z) := (HE.out HK1.out hk2).trans HZ.out
          clear hk2
          go_wp2_with fail
          go_ret
          exact ⟨by rw [HOK.out]; rfl, BB3.out⟩

end Go.Proofs.Ytnmblbkbiehodaa
