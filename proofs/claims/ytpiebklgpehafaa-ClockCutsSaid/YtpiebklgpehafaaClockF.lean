import Derived.Test.YtpiebklgpehafaaClockE
namespace Go.Proofs.Ytpiebklgpehafaa
open Go.RowKit Go.WideShapes
set_option linter.unusedSimpArgs false
set_option linter.unusedVariables false

theorem passE_cut (a b : Int) (S : List Int) (i : Nat) : passE (passE (fun _ => 0) a S) b S i = passE (fun _ => 0) (a + b) S i := by
  unfold passE; rw [Int.add_mul]; omega

set_option maxHeartbeats 4000000 in
theorem ClockCuts_walk (w : World) (n : Int) (wn : (Lit.int .i64 n).wf = true) (a : Int) (wa : (Lit.int .i64 a).wf = true) (b : Int) (wb : (Lit.int .i64 b).wf = true) (sa : Option Addr) (sc : Nat) (xs : List Int) (ha : RowI w sa sc xs) :
    Calls Try.prog 6 #[.int .i64 n, .int .i64 a, .int .i64 b, .slice sa xs.length sc] w fun e w' => e = .returned (.bool true) ∧ Below w.heap.size w w' := by
  have hn := i64_bd wn
  have hab := i64_bd wa
  have hbb := i64_bd wb
  clear wn wa wb
  go_enter Try.func6, Try.ntmps6
  go_wp2_with fail
  refine (new_any n w).mono ?_
  rintro e w1 (⟨hx, rfl, rfl⟩ | ⟨hr, h1, g1, rfl, k1, p1, q1, s1, t1, b1⟩)
  · go_wp2_with fail
    refine (new_any n w).mono ?_
    rintro e w2 (⟨_, rfl, rfl⟩ | ⟨hr, _⟩)
    case inr => exact absurd hr hx
    by_cases hlt : n < 1
    · have d1 : decide (n < 1) = true := decide_eq_true hlt
      go_wp2_with (go_at_call 9; refine (lives18_any _).mono ?_; rintro e w4 ⟨rfl, b4⟩)
      go_ret
      exact ⟨rfl, b4⟩
    · have d1 : decide (n < 1) = false := decide_eq_false hlt
      have d2 : decide (9 < n) = true := decide_eq_true (by omega)
      go_wp2_with (go_at_call 9; refine (lives18_any _).mono ?_; rintro e w4 ⟨rfl, b4⟩)
      go_ret
      exact ⟨rfl, b4⟩
  · go_wp2_with fail
    refine (new_any n w1).mono ?_
    rintro e w2 (⟨hx, _⟩ | ⟨_, h2, g2, rfl, k2, p2, q2, s2, t2, b2⟩)
    · exact absurd hr hx
    have hrow := ha.mono (kept_trans b1 b2)
    have k1' := k1.below b2
    rcases (by omega : a < 1 ∨ (1 ≤ a ∧ b < 1) ∨ (1 ≤ a ∧ 1 ≤ b ∧ 64 < a) ∨ (1 ≤ a ∧ 1 ≤ b ∧ a ≤ 64 ∧ 64 < b) ∨ (1 ≤ a ∧ 1 ≤ b ∧ a ≤ 64 ∧ b ≤ 64 ∧ 64 < a + b) ∨ (1 ≤ a ∧ 1 ≤ b ∧ a + b ≤ 64)) with c1 | ⟨c1, c2⟩ | ⟨c1, c2, c3⟩ | ⟨c1, c2, c3, c4⟩ | ⟨c1, c2, c3, c4, c5⟩ | ⟨c1, c2, c3⟩
    · skip
      have d1 : decide (a < 1) = true := decide_eq_true (by omega)
      go_wp2_with (first
        | (go_at_call 11; refine (few_any sa sc xs _ hrow).mono ?_; rintro e w3 ⟨rfl, rfl⟩)
        | (go_at_call 9; refine (lives18_any _).mono ?_; rintro e w4 ⟨rfl, b4⟩))
      go_ret
      exact ⟨rfl, kept_trans (kept_trans b1 b2) b4⟩
    · skip
      have d1 : decide (a < 1) = false := decide_eq_false (by omega)
      have d2 : decide (b < 1) = true := decide_eq_true (by omega)
      go_wp2_with (first
        | (go_at_call 11; refine (few_any sa sc xs _ hrow).mono ?_; rintro e w3 ⟨rfl, rfl⟩)
        | (go_at_call 9; refine (lives18_any _).mono ?_; rintro e w4 ⟨rfl, b4⟩))
      go_ret
      exact ⟨rfl, kept_trans (kept_trans b1 b2) b4⟩
    · skip
      have d1 : decide (a < 1) = false := decide_eq_false (by omega)
      have d2 : decide (b < 1) = false := decide_eq_false (by omega)
      have d3 : decide (64 < a) = true := decide_eq_true (by omega)
      go_wp2_with (first
        | (go_at_call 11; refine (few_any sa sc xs _ hrow).mono ?_; rintro e w3 ⟨rfl, rfl⟩)
        | (go_at_call 9; refine (lives18_any _).mono ?_; rintro e w4 ⟨rfl, b4⟩))
      go_ret
      exact ⟨rfl, kept_trans (kept_trans b1 b2) b4⟩
    · skip
      have d1 : decide (a < 1) = false := decide_eq_false (by omega)
      have d2 : decide (b < 1) = false := decide_eq_false (by omega)
      have d3 : decide (64 < a) = false := decide_eq_false (by omega)
      have d4 : decide (64 < b) = true := decide_eq_true (by omega)
      go_wp2_with (first
        | (go_at_call 11; refine (few_any sa sc xs _ hrow).mono ?_; rintro e w3 ⟨rfl, rfl⟩)
        | (go_at_call 9; refine (lives18_any _).mono ?_; rintro e w4 ⟨rfl, b4⟩))
      go_ret
      exact ⟨rfl, kept_trans (kept_trans b1 b2) b4⟩
    · skip
      have ew : IntKind.i64.wrap (a + b) = a + b := IntWalk.i64_in _ (by omega)
      have d1 : decide (a < 1) = false := decide_eq_false (by omega)
      have d2 : decide (b < 1) = false := decide_eq_false (by omega)
      have d3 : decide (64 < a) = false := decide_eq_false (by omega)
      have d4 : decide (64 < b) = false := decide_eq_false (by omega)
      have d5 : decide (64 < a + b) = true := decide_eq_true (by omega)
      go_wp2_with (first
        | (go_at_call 11; refine (few_any sa sc xs _ hrow).mono ?_; rintro e w3 ⟨rfl, rfl⟩)
        | (go_at_call 9; refine (lives18_any _).mono ?_; rintro e w4 ⟨rfl, b4⟩))
      go_ret
      exact ⟨rfl, kept_trans (kept_trans b1 b2) b4⟩
    · have ew : IntKind.i64.wrap (a + b) = a + b := IntWalk.i64_in _ (by omega)
      have d1 : decide (a < 1) = false := decide_eq_false (by omega)
      have d2 : decide (b < 1) = false := decide_eq_false (by omega)
      have d3 : decide (64 < a) = false := decide_eq_false (by omega)
      have d4 : decide (64 < b) = false := decide_eq_false (by omega)
      have d5 : decide (64 < a + b) = false := decide_eq_false (by omega)
      have hS := rowI_take hrow 12
      have ha12 := rowI_take ha 12
      have HFew := hid (few_any sa sc xs w2 hrow)
      have hd : ∀ t, 1 ≤ t → t ≤ 64 → ∀ T, 0 ≤ T → T ≤ 64 → okP T t n.toNat (xs.take 12) = (decide ((xs.take 12).length ≤ n.toNat) && !(xs.take 12).any (byB 8)) := by
        intro t h1 h2 T h3 h4
        unfold okP
        rw [decide_eq_true (show T + t ≤ 1099511627776 by omega), Bool.and_true]
        congr 1
        apply decide_eq_decide.2; omega
      have o1 := hd (a + b) (by omega) c3 0 (by omega) (by omega)
      have o2 := hd a c1 (by omega) 0 (by omega) (by omega)
      have o3 := hd b c2 (by omega) a (by omega) (by omega)
      have o4 := hd b c2 (by omega) 0 (by omega) (by omega)
      clear hd
      generalize (decide ((xs.take 12).length ≤ n.toNat) && !(xs.take 12).any (byB 8)) = O at *
      generalize xs.take 12 = S at *
      have hap1 : Apart sa S.length h1 g1 := apart_of (w := w) (by exact ha12) p1 q1
      have hap2 : Apart sa S.length h2 g2 := apart_of (w := w) (by exact ha12) (by have := b1.size; omega) (by have := b1.size; omega)
      have hlc := rowI_len hS
      have B2 := kept_trans b1 b2
      have hw1 := b1.size
      have hw2 := b2.size
      obtain ⟨m, rfl⟩ := Int.eq_ofNat_of_zero_le (by omega : 0 ≤ n)
      rw [Int.toNat_natCast] at *
      cases O
      · go_wp2_with (first
          | (go_at_call 11; refine HFew.out.mono ?_; rintro e w3 ⟨rfl, rfl⟩)
          | (go_at_call_of 10 (Value.int IntKind.i64 (a + b)); refine (pass_no h1 g1 _ _ _ _ (a + b) sa sc S _ k1' hS (by omega) o1).mono ?_; rintro e w5 ⟨rfl, b5⟩; have k15 := k1'.below b5; have k25 := k2.below b5; have hS5 := hS.mono b5)
          | (go_at_call_of 10 (Value.int IntKind.i64 a); refine (pass_no h2 g2 _ _ _ _ a sa sc S _ k25 hS5 (by omega) o2).mono ?_; rintro e w6 ⟨rfl, b6⟩; have k16 := k15.below b6; have k26 := k25.below b6; have hS6 := hS5.mono b6)
          | (go_at_call_of 10 (Value.int IntKind.i64 b); refine (pass_no h2 g2 _ _ _ _ b sa sc S _ k26 hS6 (by omega) o4).mono ?_; rintro e w7 ⟨rfl, b7⟩; have k17 := k16.below b7; have k27 := k26.below b7))
        have hbw := kept_trans (kept_trans (kept_trans B2 b5) b6) b7
        clear b5 b6 b7 k15 k25 k16 k26 hS5 hS6 o1 o2 o3 o4
        go_loopw [14] (fun i wr => ∃ j : Nat, j ≤ m ∧ i = .int .i64 j ∧ wr = w7) (fun i _ => m - (intOf i).toNat)
        case atStart => exact ⟨0, by omega, rfl, rfl⟩
        case round =>
          obtain ⟨j, hj, rfl, rfl⟩ := hrel
          by_cases hlt : j < m
          · have hltd : decide (j < m) = true := decide_eq_true hlt
            have C1 := hid (show_any h1 g1 _ _ _ _ j wr k17)
            have C2 := show_any h2 g2 _ _ _ _ j wr k27
            skip
            have C2 := hid C2
            generalize shown m (fun _ => 0) (j : Int) = v at *
            go_wp2_with (first
              | (go_at_call_of 15 (Value.pointer (some ⟨h1, 0, none⟩)); refine C1.out.mono ?_; rintro e w8 ⟨rfl, rfl⟩)
              | (go_at_call_of 15 (Value.pointer (some ⟨h2, 0, none⟩)); refine C2.out.mono ?_; rintro e w8 ⟨rfl, rfl⟩))
            go_roundw
            case rel => exact ⟨j + 1, by omega, by go_num, by first | rfl | trivial⟩
            case measure => simp [intOf]; omega
          · obtain rfl : j = m := by omega
            have C1 := hid (true_any h1 g1 _ _ _ _ wr k17)
            have C2 := hid (true_any h2 g2 _ _ _ _ wr k27)
            have C3 := hid (kept_any h1 g1 _ _ _ _ wr k17)
            have C4 := kept_any h2 g2 _ _ _ _ wr k27
            skip
            have C4 := hid C4
            go_wp2_with (first
              | (go_at_call_of 13 (Value.pointer (some ⟨h1, 0, none⟩)); refine C1.out.mono ?_; rintro e w8 ⟨rfl, rfl⟩)
              | (go_at_call_of 13 (Value.pointer (some ⟨h2, 0, none⟩)); refine C2.out.mono ?_; rintro e w8 ⟨rfl, rfl⟩)
              | (go_at_call_of 14 (Value.pointer (some ⟨h1, 0, none⟩)); refine C3.out.mono ?_; rintro e w8 ⟨rfl, rfl⟩)
              | (go_at_call_of 14 (Value.pointer (some ⟨h2, 0, none⟩)); refine C4.out.mono ?_; rintro e w8 ⟨rfl, rfl⟩)
              | (go_at_call 9; refine (lives18_any _).mono ?_; rintro e w8 ⟨rfl, b8⟩))
            go_ret
            exact ⟨by first | rfl | simp, kept_trans hbw b8⟩
      · go_wp2_with (first
          | (go_at_call 11; refine HFew.out.mono ?_; rintro e w3 ⟨rfl, rfl⟩)
          | (go_at_call_of 10 (Value.int IntKind.i64 (a + b)); refine (pass_ok h1 g1 _ _ _ _ (a + b) sa sc S _ k1' hS hap1 o1).mono ?_; rintro e w5 ⟨rfl, k15, b5⟩; have k25 := k2.keep b5 (by omega) (by omega) (by omega) (by omega); have hS5 := b5.row hS hap1)
          | (go_at_call_of 10 (Value.int IntKind.i64 a); refine (pass_ok h2 g2 _ _ _ _ a sa sc S _ k25 hS5 hap2 o2).mono ?_; rintro e w6 ⟨rfl, k26, b6⟩; have k16 := k15.keep b6 (by omega) (by omega) (by omega) (by omega); have hS6 := b6.row hS5 hap2)
          | (go_at_call_of 10 (Value.int IntKind.i64 b); refine (pass_ok h2 g2 _ _ _ _ b sa sc S _ k26 hS6 hap2 (by rw [Int.zero_add]; exact o3)).mono ?_; rintro e w7 ⟨rfl, k27, b7⟩; have k17 := k16.keep b7 (by omega) (by omega) (by omega) (by omega)))
        have hbw : Below w.heap.size w w7 := b7.below (b6.below (b5.below B2 p1 q1 (by omega)) (by omega) (by omega) (by have := b5.size; omega)) (by omega) (by omega) (by have := b5.size; have := b6.size; omega)
        clear b5 b6 b7 k15 k25 k16 k26 hS5 hS6 o1 o2 o3 o4
        have hE : (passE (passE (fun _ => 0) a S) b S) = passE (fun _ => 0) (a + b) S := funext (fun i => passE_cut a b S i)
        rw [hE, show (0 : Int) + a + b = 0 + (a + b) by omega, show ((false || S.any (byB 1)) || S.any (byB 1)) = (false || S.any (byB 1)) by simp] at k27
        clear hE
        generalize passE (fun _ => 0) (a + b) S = EE at *
        generalize (false || S.any (byB 1)) = ll at *
        generalize (0 : Int) + (a + b) = TT at *
        go_loopw [14] (fun i wr => ∃ j : Nat, j ≤ m ∧ i = .int .i64 j ∧ wr = w7) (fun i _ => m - (intOf i).toNat)
        case atStart => exact ⟨0, by omega, rfl, rfl⟩
        case round =>
          obtain ⟨j, hj, rfl, rfl⟩ := hrel
          by_cases hlt : j < m
          · have hltd : decide (j < m) = true := decide_eq_true hlt
            have C1 := hid (show_any h1 g1 _ _ _ _ j wr k17)
            have C2 := show_any h2 g2 _ _ _ _ j wr k27
            skip
            have C2 := hid C2
            generalize shown m EE (j : Int) = v at *
            go_wp2_with (first
              | (go_at_call_of 15 (Value.pointer (some ⟨h1, 0, none⟩)); refine C1.out.mono ?_; rintro e w8 ⟨rfl, rfl⟩)
              | (go_at_call_of 15 (Value.pointer (some ⟨h2, 0, none⟩)); refine C2.out.mono ?_; rintro e w8 ⟨rfl, rfl⟩))
            go_roundw
            case rel => exact ⟨j + 1, by omega, by go_num, by first | rfl | trivial⟩
            case measure => simp [intOf]; omega
          · obtain rfl : j = m := by omega
            have C1 := hid (true_any h1 g1 _ _ _ _ wr k17)
            have C2 := hid (true_any h2 g2 _ _ _ _ wr k27)
            have C3 := hid (kept_any h1 g1 _ _ _ _ wr k17)
            have C4 := kept_any h2 g2 _ _ _ _ wr k27
            skip
            have C4 := hid C4
            go_wp2_with (first
              | (go_at_call_of 13 (Value.pointer (some ⟨h1, 0, none⟩)); refine C1.out.mono ?_; rintro e w8 ⟨rfl, rfl⟩)
              | (go_at_call_of 13 (Value.pointer (some ⟨h2, 0, none⟩)); refine C2.out.mono ?_; rintro e w8 ⟨rfl, rfl⟩)
              | (go_at_call_of 14 (Value.pointer (some ⟨h1, 0, none⟩)); refine C3.out.mono ?_; rintro e w8 ⟨rfl, rfl⟩)
              | (go_at_call_of 14 (Value.pointer (some ⟨h2, 0, none⟩)); refine C4.out.mono ?_; rintro e w8 ⟨rfl, rfl⟩)
              | (go_at_call 9; refine (lives18_any _).mono ?_; rintro e w8 ⟨rfl, b8⟩))
            go_ret
            exact ⟨by first | rfl | simp, kept_trans hbw b8⟩

end Go.Proofs.Ytpiebklgpehafaa
