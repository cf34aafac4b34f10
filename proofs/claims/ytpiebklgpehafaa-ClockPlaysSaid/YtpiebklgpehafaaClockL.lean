import Derived.Test.YtpiebklgpehafaaClockK
namespace Go.Proofs.Ytpiebklgpehafaa
open Go.RowKit Go.WideShapes
set_option linter.unusedSimpArgs false
set_option linter.unusedVariables false

set_option maxHeartbeats 8000000 in
set_option maxRecDepth 100000 in
theorem ClockPlays_walk (w : World) (n : Int) (wn : (Lit.int .i64 n).wf = true) (a : Option Addr) (m c : Nat) (f : Nat → PassV) (r : RowP w a c m f) :
    Calls Try.prog 3 #[.int .i64 n, .slice a m c] w fun e w' => e = .returned (.bool true) ∧ Below w.heap.size w w' := by
  have hn := i64_bd wn
  have hmc : m ≤ 9223372036854775807 := by have h1 := r.1; have h2 := r.2.1; unfold maxLen at h2; omega
  clear wn
  go_enter Try.func3, Try.ntmps3
  go_wp2_with fail
  refine (new_any n w).mono ?_
  rintro e w1 (⟨hx, rfl, rfl⟩ | ⟨hr, h, g, rfl, k1, hh, hg, s1, t1, b1⟩)
  · go_wp2_with fail
    refine (rnew_any n w).mono ?_
    rintro e w2 (⟨_, rfl, rfl⟩ | ⟨hr, _⟩)
    case inr => exact absurd hr hx
    go_wp2_with (go_at_call 9; refine (lives18_any _).mono ?_; rintro e w8 ⟨rfl, b8⟩)
    go_ret
    exact ⟨rfl, b8⟩
  · go_wp2_with fail
    refine (rnew_any n w1).mono ?_
    rintro e w2 (⟨hx, _⟩ | ⟨_, h2, g2, rfl, kR, hh2', hg2', s2, t2, b2⟩)
    · exact absurd hr hx
    obtain ⟨N, rfl⟩ := Int.eq_ofNat_of_zero_le (by omega : 0 ≤ n)
    rw [Int.toNat_natCast] at k1 kR
    have n1 : h2 ≠ h := by omega
    have n2 : h2 ≠ g := by omega
    have n3 : g2 ≠ h := by omega
    have n4 : g2 ≠ g := by omega
    have hw1 := b1.size
    have hh2 : w.heap.size ≤ h2 := by omega
    have hg2 : w.heap.size ≤ g2 := by omega
    have k1' := k1.below b2
    have hb12 := kept_trans b1 b2
    go_wp2_with fail
    go_loopw [7] (fun i wr => ∃ (j : Nat) (T : Int) (E : Nat → Int) (l : Bool), j ≤ m ∧ j ≤ 30 ∧ i = .int .i64 j ∧ Clk wr h g N T E l ∧ RClk wr h2 g2 N T E (!l) ∧ Below w.heap.size w wr) (fun i _ => 30 - (intOf i).toNat)
    case atStart => exact ⟨0, _, _, _, by omega, by omega, rfl, k1', kR, hb12⟩
    case round =>
      obtain ⟨j, T, E, l, hj, hj30, rfl, kr, kR2', hbr⟩ := hrel
      by_cases hlt : j < m ∧ j < 30
      case neg =>
        by_cases hjm : j < m
        · have d1 : decide ((j : Int) < (m : Int)) = true := decide_eq_true (by omega)
          have d1' : decide (j < m) = true := decide_eq_true hjm
          have d2 : decide ((j : Int) < 30) = false := decide_eq_false (by omega)
          go_wp2_with (go_at_call 9; refine (lives18_any _).mono ?_; rintro e w8 ⟨rfl, b8⟩)
          go_ret
          exact ⟨rfl, kept_trans hbr b8⟩
        · have d1 : decide ((j : Int) < (m : Int)) = false := decide_eq_false (by omega)
          have d1' : decide (j < m) = false := decide_eq_false hjm
          go_wp2_with (go_at_call 9; refine (lives18_any _).mono ?_; rintro e w8 ⟨rfl, b8⟩)
          go_ret
          exact ⟨rfl, kept_trans hbr b8⟩
      case pos =>
      obtain ⟨hjm, hj30'⟩ := hlt
      have d1 : decide ((j : Int) < (m : Int)) = true := decide_eq_true (by omega)
      have d1' : decide (j < m) = true := decide_eq_true hjm
      have d2 : decide ((j : Int) < 30) = true := decide_eq_true (by omega)
      have hN9 := kr.n9
      have k2 := Clk.drewC kr
      have kR2 := kR2'.below (Below.refl _ _).drew
      have rr := r.mono hbr
      obtain ⟨_, _, hrc, hrs⟩ := rr
      obtain ⟨bb, off, rfl, hbl0, hcc⟩ := hrc (by omega)
      obtain ⟨hcA, hcB⟩ := hcc j hjm
      obtain ⟨hS0r, ht⟩ := hrs j hjm
      obtain ⟨bb2, off2, e2, hblw, _⟩ := r.2.2.1 (by omega)
      cases e2
      have hapS : Apart (f j).sa (f j).S.length h g := apart_of (w := w) (r.2.2.2 j hjm).1 hh hg
      have hapw : Apart (f j).sa ((f j).S.take 12).length h g := by
        have := apart_of (w := w) (rowI_take (r.2.2.2 j hjm).1 12) hh hg
        exact this
      have hapw2 : Apart (f j).sa ((f j).S.take 12).length h2 g2 := by
        have := apart_of (w := w) (rowI_take (r.2.2.2 j hjm).1 12) hh2 hg2
        exact this
      clear hcc hrs hrc kR2' k1' kR k1
      generalize (f j).t = t at *
      generalize (f j).sa = sa at *
      generalize (f j).sc = sc at *
      generalize (f j).S = S at *
      have HFew := hid (fun (w9 : World) (hS : RowI w9 sa sc S) => few_any sa sc S w9 hS)
      have hS0 : wr.drew.cell? ⟨bb, off + j * 2, none⟩ = some (.int .i64 t) ∧ wr.drew.cell? ⟨bb, off + j * 2 + 1, none⟩ = some (.slice sa S.length sc) := ⟨hcA, hcB⟩
      have hS1 : RowI wr.drew sa sc S := Row.drew hS0r
      have hS2 : RowI wr.drew sa sc (S.take 12) := rowI_take hS1 12
      have hap := hapw
      have hap2 := hapw2
      have hbl : bb < wr.drew.heap.size := hbl0
      have hbh : bb ≠ h := by omega
      have hbg : bb ≠ g := by omega
      have hbh2 : bb ≠ h2 := by omega
      have hbg2 : bb ≠ g2 := by omega
      have hmI : (m : Int) ≤ 9223372036854775807 := by omega
      have hjI : (j : Int) < (m : Int) := by omega
      generalize S.take 12 = Z at *
      go_wp2_with fail
      cases hok : okP T t N Z
      · skip
        refine wp_region_held_drew (S := fun w' => w'.cell? ⟨bb, off + j * 2, none⟩ = some (.int .i64 t) ∧ w'.cell? ⟨bb, off + j * 2 + 1, none⟩ = some (.slice sa S.length sc)) (by kernel_rfl) hS0 (fun hS_0 => ?_)
        refine takeR (i := 0) (v := .pointer (some ⟨h, 0, none⟩)) rfl rfl (by kernel_rfl) (by kernel_rfl) (by kernel_rfl) (fun _ _ _ h => h) (Or.inl ⟨Eq.refl true, fun w1 hSw => ?_⟩) hS_0 ?_
        · first | rfl | (clear hSw; go_simp; done) | (clear hSw; go_simp; rfl)
        (try simp only [Act.put, List.setIfInBounds_toArray, List.set_cons_zero, List.set_cons_succ])
        refine takeR (i := 1) (v := .slice (some ⟨bb, off, none⟩) m c) rfl rfl (by kernel_rfl) (by kernel_rfl) (by kernel_rfl) (fun _ _ _ h => h) (Or.inl ⟨Eq.refl true, fun w1 hSw => ?_⟩) hS_0 ?_
        · first | rfl | (clear hSw; go_simp; done) | (clear hSw; go_simp; rfl)
        (try simp only [Act.put, List.setIfInBounds_toArray, List.set_cons_zero, List.set_cons_succ])
        refine takeR (i := 2) (v := .int .i64 j) rfl rfl (by kernel_rfl) (by kernel_rfl) (by kernel_rfl) (fun _ _ _ h => h) (Or.inl ⟨Eq.refl true, fun w1 hSw => ?_⟩) hS_0 ?_
        · first | rfl | (clear hSw; go_simp; done) | (clear hSw; go_simp; rfl)
        (try simp only [Act.put, List.setIfInBounds_toArray, List.set_cons_zero, List.set_cons_succ])
        refine takeR (i := 3) (v := .pointer (some ⟨bb, off + j * 2, none⟩)) rfl rfl (by kernel_rfl) (by kernel_rfl) (by kernel_rfl) (fun _ _ _ h => h) (Or.inl ⟨Eq.refl true, fun w1 hSw => ?_⟩) hS_0 ?_
        · first | rfl | (clear hSw; go_simp; done) | (clear hSw; go_simp; rfl)
        (try simp only [Act.put, List.setIfInBounds_toArray, List.set_cons_zero, List.set_cons_succ])
        refine takeR (i := 4) (v := .pointer (some ⟨bb, off + j * 2, none⟩)) rfl rfl (by kernel_rfl) (by kernel_rfl) (by kernel_rfl) (fun _ _ _ h => h) (Or.inl ⟨Eq.refl true, fun w1 hSw => ?_⟩) hS_0 ?_
        · first | rfl | (clear hSw; go_simp; done) | (clear hSw; go_simp; rfl)
        (try simp only [Act.put, List.setIfInBounds_toArray, List.set_cons_zero, List.set_cons_succ])
        refine takeR (i := 5) (v := .int .i64 t) rfl rfl (by kernel_rfl) (by kernel_rfl) (by kernel_rfl) (fun _ _ _ h => h) (Or.inl ⟨Eq.refl true, fun w1 hSw => ?_⟩) hS_0 ?_
        · (obtain ⟨q1, q2⟩ := hSw; go_simp; try rfl)
        (try simp only [Act.put, List.setIfInBounds_toArray, List.set_cons_zero, List.set_cons_succ])
        refine takeR (i := 6) (v := .slice (some ⟨bb, off, none⟩) m c) rfl rfl (by kernel_rfl) (by kernel_rfl) (by kernel_rfl) (fun _ _ _ h => h) (Or.inl ⟨Eq.refl true, fun w1 hSw => ?_⟩) hS_0 ?_
        · first | rfl | (clear hSw; go_simp; done) | (clear hSw; go_simp; rfl)
        (try simp only [Act.put, List.setIfInBounds_toArray, List.set_cons_zero, List.set_cons_succ])
        refine takeR (i := 7) (v := .int .i64 j) rfl rfl (by kernel_rfl) (by kernel_rfl) (by kernel_rfl) (fun _ _ _ h => h) (Or.inl ⟨Eq.refl true, fun w1 hSw => ?_⟩) hS_0 ?_
        · first | rfl | (clear hSw; go_simp; done) | (clear hSw; go_simp; rfl)
        (try simp only [Act.put, List.setIfInBounds_toArray, List.set_cons_zero, List.set_cons_succ])
        refine takeR (i := 8) (v := .pointer (some ⟨bb, off + j * 2, none⟩)) rfl rfl (by kernel_rfl) (by kernel_rfl) (by kernel_rfl) (fun _ _ _ h => h) (Or.inl ⟨Eq.refl true, fun w1 hSw => ?_⟩) hS_0 ?_
        · first | rfl | (clear hSw; go_simp; done) | (clear hSw; go_simp; rfl)
        (try simp only [Act.put, List.setIfInBounds_toArray, List.set_cons_zero, List.set_cons_succ])
        refine takeR (i := 9) (v := .pointer (some ⟨bb, off + j * 2 + 1, none⟩)) rfl rfl (by kernel_rfl) (by kernel_rfl) (by kernel_rfl) (fun _ _ _ h => h) (Or.inl ⟨Eq.refl true, fun w1 hSw => ?_⟩) hS_0 ?_
        · first | rfl | (clear hSw; go_simp; done) | (clear hSw; go_simp; rfl)
        (try simp only [Act.put, List.setIfInBounds_toArray, List.set_cons_zero, List.set_cons_succ])
        refine takeR (i := 10) (v := .slice sa S.length sc) rfl rfl (by kernel_rfl) (by kernel_rfl) (by kernel_rfl) (fun _ _ _ h => h) (Or.inl ⟨Eq.refl true, fun w1 hSw => ?_⟩) hS_0 ?_
        · (obtain ⟨q1, q2⟩ := hSw; go_simp; try rfl)
        (try simp only [Act.put, List.setIfInBounds_toArray, List.set_cons_zero, List.set_cons_succ])
        refine wpAnyH_ready (rs := [11]) (by kernel_rfl) (by simp) (AllReadyH.cons rfl (fun K hK => ?_) AllReadyH.nil)
        go_simp
        go_wp2_with (go_at_call 11; refine (HFew.out _ hS1).mono ?_; rintro e w4 ⟨rfl, rfl⟩)
        refine hK.out _ _ ?_ (fun hS_1 => ?_)
        · exact hS_0
        clear hK K
        refine wpAnyH_ready (rs := [12]) (by kernel_rfl) (by simp) (AllReadyH.cons rfl (fun K hK => ?_) AllReadyH.nil)
        go_simp
        go_wp2_with (go_at_call 10; refine (pass_no h g N T E l t sa sc Z _ k2 hS2 ht hok).mono ?_; rintro e w5 ⟨rfl, b5⟩)
        refine hK.out _ _ ?_ (fun hS_2 => ?_)
        · exact ⟨(b5.cell (p := ⟨bb, off + j * 2, none⟩) hbl).trans hS_1.1, (b5.cell (p := ⟨bb, off + j * 2 + 1, none⟩) hbl).trans hS_1.2⟩
        clear hK K
        refine takeR (i := 13) (v := .int .i64 1) rfl rfl (by kernel_rfl) (by kernel_rfl) (by kernel_rfl) (fun _ _ _ h => h) (Or.inl ⟨Eq.refl true, fun w1 hSw => ?_⟩) hS_2 ?_
        · first | rfl | (clear hSw; go_simp; done) | (clear hSw; go_simp; rfl)
        (try simp only [Act.put, List.setIfInBounds_toArray, List.set_cons_zero, List.set_cons_succ])
        refine wpAnyH_done (by kernel_rfl) ?_ _
        have k5 := k2.below b5
        have hS05 : w5.drew.cell? ⟨bb, off + j * 2, none⟩ = some (.int .i64 t) ∧ w5.drew.cell? ⟨bb, off + j * 2 + 1, none⟩ = some (.slice sa S.length sc) := hS_2
        have hS15 : RowI w5.drew sa sc S := Row.drew (hS1.mono b5)
        have hS25 : RowI w5.drew sa sc Z := Row.drew (hS2.mono b5)
        have r5 : RClk w5.drew h2 g2 N T E (!l) := (kR2.below b5).below (Below.refl _ _).drew
        have hbl5 : bb < w5.drew.heap.size := Nat.lt_of_lt_of_le hbl b5.size
        have hbw5 : Below w.heap.size w w5 := kept_trans hbr.drew b5
        clear hS0 hS_0 hS_1 hS_2
        go_wp2_with fail
        refine wp_region_held_drew (S := fun w' => w'.cell? ⟨bb, off + j * 2, none⟩ = some (.int .i64 t) ∧ w'.cell? ⟨bb, off + j * 2 + 1, none⟩ = some (.slice sa S.length sc)) (by kernel_rfl) hS05 (fun hS_0 => ?_)
        refine takeR (i := 0) (v := .pointer (some ⟨h2, 0, none⟩)) rfl rfl (by kernel_rfl) (by kernel_rfl) (by kernel_rfl) (fun _ _ _ h => h) (Or.inl ⟨Eq.refl true, fun w1 hSw => ?_⟩) hS_0 ?_
        · first | rfl | (clear hSw; go_simp; done) | (clear hSw; go_simp; rfl)
        (try simp only [Act.put, List.setIfInBounds_toArray, List.set_cons_zero, List.set_cons_succ])
        refine takeR (i := 1) (v := .slice (some ⟨bb, off, none⟩) m c) rfl rfl (by kernel_rfl) (by kernel_rfl) (by kernel_rfl) (fun _ _ _ h => h) (Or.inl ⟨Eq.refl true, fun w1 hSw => ?_⟩) hS_0 ?_
        · first | rfl | (clear hSw; go_simp; done) | (clear hSw; go_simp; rfl)
        (try simp only [Act.put, List.setIfInBounds_toArray, List.set_cons_zero, List.set_cons_succ])
        refine takeR (i := 2) (v := .int .i64 j) rfl rfl (by kernel_rfl) (by kernel_rfl) (by kernel_rfl) (fun _ _ _ h => h) (Or.inl ⟨Eq.refl true, fun w1 hSw => ?_⟩) hS_0 ?_
        · first | rfl | (clear hSw; go_simp; done) | (clear hSw; go_simp; rfl)
        (try simp only [Act.put, List.setIfInBounds_toArray, List.set_cons_zero, List.set_cons_succ])
        refine takeR (i := 3) (v := .pointer (some ⟨bb, off + j * 2, none⟩)) rfl rfl (by kernel_rfl) (by kernel_rfl) (by kernel_rfl) (fun _ _ _ h => h) (Or.inl ⟨Eq.refl true, fun w1 hSw => ?_⟩) hS_0 ?_
        · first | rfl | (clear hSw; go_simp; done) | (clear hSw; go_simp; rfl)
        (try simp only [Act.put, List.setIfInBounds_toArray, List.set_cons_zero, List.set_cons_succ])
        refine takeR (i := 4) (v := .pointer (some ⟨bb, off + j * 2, none⟩)) rfl rfl (by kernel_rfl) (by kernel_rfl) (by kernel_rfl) (fun _ _ _ h => h) (Or.inl ⟨Eq.refl true, fun w1 hSw => ?_⟩) hS_0 ?_
        · first | rfl | (clear hSw; go_simp; done) | (clear hSw; go_simp; rfl)
        (try simp only [Act.put, List.setIfInBounds_toArray, List.set_cons_zero, List.set_cons_succ])
        refine takeR (i := 5) (v := .int .i64 t) rfl rfl (by kernel_rfl) (by kernel_rfl) (by kernel_rfl) (fun _ _ _ h => h) (Or.inl ⟨Eq.refl true, fun w1 hSw => ?_⟩) hS_0 ?_
        · (obtain ⟨q1, q2⟩ := hSw; go_simp; try rfl)
        (try simp only [Act.put, List.setIfInBounds_toArray, List.set_cons_zero, List.set_cons_succ])
        refine takeR (i := 6) (v := .slice (some ⟨bb, off, none⟩) m c) rfl rfl (by kernel_rfl) (by kernel_rfl) (by kernel_rfl) (fun _ _ _ h => h) (Or.inl ⟨Eq.refl true, fun w1 hSw => ?_⟩) hS_0 ?_
        · first | rfl | (clear hSw; go_simp; done) | (clear hSw; go_simp; rfl)
        (try simp only [Act.put, List.setIfInBounds_toArray, List.set_cons_zero, List.set_cons_succ])
        refine takeR (i := 7) (v := .int .i64 j) rfl rfl (by kernel_rfl) (by kernel_rfl) (by kernel_rfl) (fun _ _ _ h => h) (Or.inl ⟨Eq.refl true, fun w1 hSw => ?_⟩) hS_0 ?_
        · first | rfl | (clear hSw; go_simp; done) | (clear hSw; go_simp; rfl)
        (try simp only [Act.put, List.setIfInBounds_toArray, List.set_cons_zero, List.set_cons_succ])
        refine takeR (i := 8) (v := .pointer (some ⟨bb, off + j * 2, none⟩)) rfl rfl (by kernel_rfl) (by kernel_rfl) (by kernel_rfl) (fun _ _ _ h => h) (Or.inl ⟨Eq.refl true, fun w1 hSw => ?_⟩) hS_0 ?_
        · first | rfl | (clear hSw; go_simp; done) | (clear hSw; go_simp; rfl)
        (try simp only [Act.put, List.setIfInBounds_toArray, List.set_cons_zero, List.set_cons_succ])
        refine takeR (i := 9) (v := .pointer (some ⟨bb, off + j * 2 + 1, none⟩)) rfl rfl (by kernel_rfl) (by kernel_rfl) (by kernel_rfl) (fun _ _ _ h => h) (Or.inl ⟨Eq.refl true, fun w1 hSw => ?_⟩) hS_0 ?_
        · first | rfl | (clear hSw; go_simp; done) | (clear hSw; go_simp; rfl)
        (try simp only [Act.put, List.setIfInBounds_toArray, List.set_cons_zero, List.set_cons_succ])
        refine takeR (i := 10) (v := .slice sa S.length sc) rfl rfl (by kernel_rfl) (by kernel_rfl) (by kernel_rfl) (fun _ _ _ h => h) (Or.inl ⟨Eq.refl true, fun w1 hSw => ?_⟩) hS_0 ?_
        · (obtain ⟨q1, q2⟩ := hSw; go_simp; try rfl)
        (try simp only [Act.put, List.setIfInBounds_toArray, List.set_cons_zero, List.set_cons_succ])
        refine wpAnyH_ready (rs := [11]) (by kernel_rfl) (by simp) (AllReadyH.cons rfl (fun K hK => ?_) AllReadyH.nil)
        go_simp
        go_wp2_with (go_at_call 11; refine (HFew.out _ hS15).mono ?_; rintro e w4 ⟨rfl, rfl⟩)
        refine hK.out _ _ ?_ (fun hS_1 => ?_)
        · exact hS_0
        clear hK K
        refine wpAnyH_ready (rs := [12]) (by kernel_rfl) (by simp) (AllReadyH.cons rfl (fun K hK => ?_) AllReadyH.nil)
        go_simp
        go_wp2_with (go_at_call 12; refine (rpass_no h2 g2 N T E (!l) t sa sc Z _ r5 hS25 ht hok).mono ?_; rintro e w6 ⟨rfl, hw6⟩; subst hw6)
        refine hK.out _ _ ?_ (fun hS_2 => ?_)
        · exact hS_1
        clear hK K
        refine takeR (i := 13) (v := .int .i64 1) rfl rfl (by kernel_rfl) (by kernel_rfl) (by kernel_rfl) (fun _ _ _ h => h) (Or.inl ⟨Eq.refl true, fun w1 hSw => ?_⟩) hS_2 ?_
        · first | rfl | (clear hSw; go_simp; done) | (clear hSw; go_simp; rfl)
        (try simp only [Act.put, List.setIfInBounds_toArray, List.set_cons_zero, List.set_cons_succ])
        refine wpAnyH_done (by kernel_rfl) ?_ _
        have k6 := Clk.drewC k5
        have r6 := r5
        have hbw6 : Below w.heap.size w w5.drew := hbw5.drew
        clear k5 r5 b5 hS05 hS15 hS25 hS_0 hS_1 hS_2
        generalize w5.drew = w6 at *
        obtain ⟨l', hl'⟩ : ∃ x, x = l := ⟨_, rfl⟩
        rw [← hl'] at k6 r6
        obtain ⟨E', hE'⟩ : ∃ x, x = E := ⟨_, rfl⟩
        rw [← hE'] at k6 r6
        obtain ⟨T', hT'⟩ : ∃ x, x = T := ⟨_, rfl⟩
        rw [← hT'] at k6 r6
        clear hl' hE' hT'
        have cn := r6.c1
        have ck := r6.c2
        have HTr := hid (fun w1 (k1 : Clk w1 h g N T' E' l') => true_any h g N T' E' l' w1 k1)
        have HKp := hid (fun w1 (k1 : Clk w1 h g N T' E' l') => kept_any h g N T' E' l' w1 k1)
        have kqN := hid (fun nn => k6.below (bel_drewN (Below.refl _ _) nn))
        have rqN := hid (fun nn => r6.below (bel_drewN (Below.refl _ _) nn))
        have hwN := hid (fun nn => bel_drewN hbw6 nn)
        generalize hkb : (!l') = kb at *
        have HKB := hid hkb
        clear hkb
        go_wp2_with fail
        go_quiet (first
          | (go_at_call 13; exact Calls.quiet_of_same (v := .int .i64 T') ((HTr.out _ (kqN.out _)).mono (fun e w6 hh => ⟨hh.1, hh.2.symm⟩)))
          | (go_at_call 14; exact Calls.quiet_of_same (v := .bool kb) ((HKp.out _ (kqN.out _)).mono (fun e w6 hh => ⟨hh.1, hh.2.symm⟩))))
        go_wp2_with fail
        have k7 := kqN.out nq
        have r7 := rqN.out nq
        have hw7 := hwN.out nq
        clear kqN rqN hwN cn ck k6 r6 hbw6
        generalize w6.drewN nq = w7 at *
        go_loopw [10] (fun i w2 => ∃ q : Nat, q ≤ N + 2 ∧ i = .int .i64 ((q : Int) - 1) ∧ w2 = w7) (fun i _ => (N + 1 - intOf i).toNat)
        case atStart => exact ⟨0, by omega, rfl, rfl⟩
        case round =>
        obtain ⟨q, hq, rfl, rfl⟩ := hrel
        by_cases hlq : q ≤ N + 1
        · have g1 : decide ((q : Int) - 1 ≤ (N : Int)) = true := decide_eq_true (by omega)
          have HS1 := hid (show_any h g N T' E' l' ((q : Int) - 1) _ k7)
          have HS2 := hid (rshow_any h2 g2 N T' E' kb ((q : Int) - 1) _ r7)
          have ew : IntKind.i64.wrap ((q : Int) - 1 + 1) = (q : Int) - 1 + 1 := IntWalk.i64_in _ (by omega)
          generalize shown N E' ((q : Int) - 1) = v at *
          generalize hqq : (q : Int) - 1 = z at *
          have HQ := hid hqq
          clear hqq
          go_wp2_with (first
            | (go_at_call 15; refine HS1.out.mono ?_; rintro e w9 ⟨rfl, rfl⟩)
            | (go_at_call 16; refine HS2.out.mono ?_; rintro e w9 ⟨rfl, rfl⟩))
          go_roundw
          case rel => exact ⟨q + 1, by omega, by rw [← HQ.out]; congr 1; omega, by first | rfl | trivial⟩
          case measure => have := HQ.out; simp [intOf]; omega
        · have g1 : decide ((q : Int) - 1 ≤ (N : Int)) = false := decide_eq_false (by omega)
          generalize (q : Int) - 1 = z at *
          go_wp2_with fail
          go_roundw
          case rel => exact ⟨j + 1, T', E', l', by omega, by omega, by go_num, k7, by rw [HKB.out]; exact r7, hw7⟩
          case measure => simp [intOf]; omega

      · skip
        refine wp_region_held_drew (S := fun w' => w'.cell? ⟨bb, off + j * 2, none⟩ = some (.int .i64 t) ∧ w'.cell? ⟨bb, off + j * 2 + 1, none⟩ = some (.slice sa S.length sc)) (by kernel_rfl) hS0 (fun hS_0 => ?_)
        refine takeR (i := 0) (v := .pointer (some ⟨h, 0, none⟩)) rfl rfl (by kernel_rfl) (by kernel_rfl) (by kernel_rfl) (fun _ _ _ h => h) (Or.inl ⟨Eq.refl true, fun w1 hSw => ?_⟩) hS_0 ?_
        · first | rfl | (clear hSw; go_simp; done) | (clear hSw; go_simp; rfl)
        (try simp only [Act.put, List.setIfInBounds_toArray, List.set_cons_zero, List.set_cons_succ])
        refine takeR (i := 1) (v := .slice (some ⟨bb, off, none⟩) m c) rfl rfl (by kernel_rfl) (by kernel_rfl) (by kernel_rfl) (fun _ _ _ h => h) (Or.inl ⟨Eq.refl true, fun w1 hSw => ?_⟩) hS_0 ?_
        · first | rfl | (clear hSw; go_simp; done) | (clear hSw; go_simp; rfl)
        (try simp only [Act.put, List.setIfInBounds_toArray, List.set_cons_zero, List.set_cons_succ])
        refine takeR (i := 2) (v := .int .i64 j) rfl rfl (by kernel_rfl) (by kernel_rfl) (by kernel_rfl) (fun _ _ _ h => h) (Or.inl ⟨Eq.refl true, fun w1 hSw => ?_⟩) hS_0 ?_
        · first | rfl | (clear hSw; go_simp; done) | (clear hSw; go_simp; rfl)
        (try simp only [Act.put, List.setIfInBounds_toArray, List.set_cons_zero, List.set_cons_succ])
        refine takeR (i := 3) (v := .pointer (some ⟨bb, off + j * 2, none⟩)) rfl rfl (by kernel_rfl) (by kernel_rfl) (by kernel_rfl) (fun _ _ _ h => h) (Or.inl ⟨Eq.refl true, fun w1 hSw => ?_⟩) hS_0 ?_
        · first | rfl | (clear hSw; go_simp; done) | (clear hSw; go_simp; rfl)
        (try simp only [Act.put, List.setIfInBounds_toArray, List.set_cons_zero, List.set_cons_succ])
        refine takeR (i := 4) (v := .pointer (some ⟨bb, off + j * 2, none⟩)) rfl rfl (by kernel_rfl) (by kernel_rfl) (by kernel_rfl) (fun _ _ _ h => h) (Or.inl ⟨Eq.refl true, fun w1 hSw => ?_⟩) hS_0 ?_
        · first | rfl | (clear hSw; go_simp; done) | (clear hSw; go_simp; rfl)
        (try simp only [Act.put, List.setIfInBounds_toArray, List.set_cons_zero, List.set_cons_succ])
        refine takeR (i := 5) (v := .int .i64 t) rfl rfl (by kernel_rfl) (by kernel_rfl) (by kernel_rfl) (fun _ _ _ h => h) (Or.inl ⟨Eq.refl true, fun w1 hSw => ?_⟩) hS_0 ?_
        · (obtain ⟨q1, q2⟩ := hSw; go_simp; try rfl)
        (try simp only [Act.put, List.setIfInBounds_toArray, List.set_cons_zero, List.set_cons_succ])
        refine takeR (i := 6) (v := .slice (some ⟨bb, off, none⟩) m c) rfl rfl (by kernel_rfl) (by kernel_rfl) (by kernel_rfl) (fun _ _ _ h => h) (Or.inl ⟨Eq.refl true, fun w1 hSw => ?_⟩) hS_0 ?_
        · first | rfl | (clear hSw; go_simp; done) | (clear hSw; go_simp; rfl)
        (try simp only [Act.put, List.setIfInBounds_toArray, List.set_cons_zero, List.set_cons_succ])
        refine takeR (i := 7) (v := .int .i64 j) rfl rfl (by kernel_rfl) (by kernel_rfl) (by kernel_rfl) (fun _ _ _ h => h) (Or.inl ⟨Eq.refl true, fun w1 hSw => ?_⟩) hS_0 ?_
        · first | rfl | (clear hSw; go_simp; done) | (clear hSw; go_simp; rfl)
        (try simp only [Act.put, List.setIfInBounds_toArray, List.set_cons_zero, List.set_cons_succ])
        refine takeR (i := 8) (v := .pointer (some ⟨bb, off + j * 2, none⟩)) rfl rfl (by kernel_rfl) (by kernel_rfl) (by kernel_rfl) (fun _ _ _ h => h) (Or.inl ⟨Eq.refl true, fun w1 hSw => ?_⟩) hS_0 ?_
        · first | rfl | (clear hSw; go_simp; done) | (clear hSw; go_simp; rfl)
        (try simp only [Act.put, List.setIfInBounds_toArray, List.set_cons_zero, List.set_cons_succ])
        refine takeR (i := 9) (v := .pointer (some ⟨bb, off + j * 2 + 1, none⟩)) rfl rfl (by kernel_rfl) (by kernel_rfl) (by kernel_rfl) (fun _ _ _ h => h) (Or.inl ⟨Eq.refl true, fun w1 hSw => ?_⟩) hS_0 ?_
        · first | rfl | (clear hSw; go_simp; done) | (clear hSw; go_simp; rfl)
        (try simp only [Act.put, List.setIfInBounds_toArray, List.set_cons_zero, List.set_cons_succ])
        refine takeR (i := 10) (v := .slice sa S.length sc) rfl rfl (by kernel_rfl) (by kernel_rfl) (by kernel_rfl) (fun _ _ _ h => h) (Or.inl ⟨Eq.refl true, fun w1 hSw => ?_⟩) hS_0 ?_
        · (obtain ⟨q1, q2⟩ := hSw; go_simp; try rfl)
        (try simp only [Act.put, List.setIfInBounds_toArray, List.set_cons_zero, List.set_cons_succ])
        refine wpAnyH_ready (rs := [11]) (by kernel_rfl) (by simp) (AllReadyH.cons rfl (fun K hK => ?_) AllReadyH.nil)
        go_simp
        go_wp2_with (go_at_call 11; refine (HFew.out _ hS1).mono ?_; rintro e w4 ⟨rfl, rfl⟩)
        refine hK.out _ _ ?_ (fun hS_1 => ?_)
        · exact hS_0
        clear hK K
        refine wpAnyH_ready (rs := [12]) (by kernel_rfl) (by simp) (AllReadyH.cons rfl (fun K hK => ?_) AllReadyH.nil)
        go_simp
        go_wp2_with (go_at_call 10; refine (pass_ok h g N T E l t sa sc Z _ k2 hS2 hap hok).mono ?_; rintro e w5 ⟨rfl, k5, q5⟩)
        refine hK.out _ _ ?_ (fun hS_2 => ?_)
        · exact ⟨(q5.cell (p := ⟨bb, off + j * 2, none⟩) hbl hbh hbg).trans hS_1.1, (q5.cell (p := ⟨bb, off + j * 2 + 1, none⟩) hbl hbh hbg).trans hS_1.2⟩
        clear hK K
        refine takeR (i := 13) (v := .int .i64 0) rfl rfl (by kernel_rfl) (by kernel_rfl) (by kernel_rfl) (fun _ _ _ h => h) (Or.inl ⟨Eq.refl true, fun w1 hSw => ?_⟩) hS_2 ?_
        · first | rfl | (clear hSw; go_simp; done) | (clear hSw; go_simp; rfl)
        (try simp only [Act.put, List.setIfInBounds_toArray, List.set_cons_zero, List.set_cons_succ])
        refine wpAnyH_done (by kernel_rfl) ?_ _
        have hS05 : w5.drew.cell? ⟨bb, off + j * 2, none⟩ = some (.int .i64 t) ∧ w5.drew.cell? ⟨bb, off + j * 2 + 1, none⟩ = some (.slice sa S.length sc) := hS_2
        have hS15 : RowI w5.drew sa sc S := Row.drew (q5.row hS1 hapS)
        have hS25 : RowI w5.drew sa sc Z := Row.drew (q5.row hS2 hap)
        have r5 : RClk w5.drew h2 g2 N T E (!l) := (kR2.keep q5 n1 n2 n3 n4).below (Below.refl _ _).drew
        have hbl5 : bb < w5.drew.heap.size := Nat.lt_of_lt_of_le hbl q5.size
        have hbw5 : Below w.heap.size w w5 := q5.below hbr.drew hh hg hbr.size
        clear hS0 hS_0 hS_1 hS_2
        go_wp2_with fail
        refine wp_region_held_drew (S := fun w' => w'.cell? ⟨bb, off + j * 2, none⟩ = some (.int .i64 t) ∧ w'.cell? ⟨bb, off + j * 2 + 1, none⟩ = some (.slice sa S.length sc)) (by kernel_rfl) hS05 (fun hS_0 => ?_)
        refine takeR (i := 0) (v := .pointer (some ⟨h2, 0, none⟩)) rfl rfl (by kernel_rfl) (by kernel_rfl) (by kernel_rfl) (fun _ _ _ h => h) (Or.inl ⟨Eq.refl true, fun w1 hSw => ?_⟩) hS_0 ?_
        · first | rfl | (clear hSw; go_simp; done) | (clear hSw; go_simp; rfl)
        (try simp only [Act.put, List.setIfInBounds_toArray, List.set_cons_zero, List.set_cons_succ])
        refine takeR (i := 1) (v := .slice (some ⟨bb, off, none⟩) m c) rfl rfl (by kernel_rfl) (by kernel_rfl) (by kernel_rfl) (fun _ _ _ h => h) (Or.inl ⟨Eq.refl true, fun w1 hSw => ?_⟩) hS_0 ?_
        · first | rfl | (clear hSw; go_simp; done) | (clear hSw; go_simp; rfl)
        (try simp only [Act.put, List.setIfInBounds_toArray, List.set_cons_zero, List.set_cons_succ])
        refine takeR (i := 2) (v := .int .i64 j) rfl rfl (by kernel_rfl) (by kernel_rfl) (by kernel_rfl) (fun _ _ _ h => h) (Or.inl ⟨Eq.refl true, fun w1 hSw => ?_⟩) hS_0 ?_
        · first | rfl | (clear hSw; go_simp; done) | (clear hSw; go_simp; rfl)
        (try simp only [Act.put, List.setIfInBounds_toArray, List.set_cons_zero, List.set_cons_succ])
        refine takeR (i := 3) (v := .pointer (some ⟨bb, off + j * 2, none⟩)) rfl rfl (by kernel_rfl) (by kernel_rfl) (by kernel_rfl) (fun _ _ _ h => h) (Or.inl ⟨Eq.refl true, fun w1 hSw => ?_⟩) hS_0 ?_
        · first | rfl | (clear hSw; go_simp; done) | (clear hSw; go_simp; rfl)
        (try simp only [Act.put, List.setIfInBounds_toArray, List.set_cons_zero, List.set_cons_succ])
        refine takeR (i := 4) (v := .pointer (some ⟨bb, off + j * 2, none⟩)) rfl rfl (by kernel_rfl) (by kernel_rfl) (by kernel_rfl) (fun _ _ _ h => h) (Or.inl ⟨Eq.refl true, fun w1 hSw => ?_⟩) hS_0 ?_
        · first | rfl | (clear hSw; go_simp; done) | (clear hSw; go_simp; rfl)
        (try simp only [Act.put, List.setIfInBounds_toArray, List.set_cons_zero, List.set_cons_succ])
        refine takeR (i := 5) (v := .int .i64 t) rfl rfl (by kernel_rfl) (by kernel_rfl) (by kernel_rfl) (fun _ _ _ h => h) (Or.inl ⟨Eq.refl true, fun w1 hSw => ?_⟩) hS_0 ?_
        · (obtain ⟨q1, q2⟩ := hSw; go_simp; try rfl)
        (try simp only [Act.put, List.setIfInBounds_toArray, List.set_cons_zero, List.set_cons_succ])
        refine takeR (i := 6) (v := .slice (some ⟨bb, off, none⟩) m c) rfl rfl (by kernel_rfl) (by kernel_rfl) (by kernel_rfl) (fun _ _ _ h => h) (Or.inl ⟨Eq.refl true, fun w1 hSw => ?_⟩) hS_0 ?_
        · first | rfl | (clear hSw; go_simp; done) | (clear hSw; go_simp; rfl)
        (try simp only [Act.put, List.setIfInBounds_toArray, List.set_cons_zero, List.set_cons_succ])
        refine takeR (i := 7) (v := .int .i64 j) rfl rfl (by kernel_rfl) (by kernel_rfl) (by kernel_rfl) (fun _ _ _ h => h) (Or.inl ⟨Eq.refl true, fun w1 hSw => ?_⟩) hS_0 ?_
        · first | rfl | (clear hSw; go_simp; done) | (clear hSw; go_simp; rfl)
        (try simp only [Act.put, List.setIfInBounds_toArray, List.set_cons_zero, List.set_cons_succ])
        refine takeR (i := 8) (v := .pointer (some ⟨bb, off + j * 2, none⟩)) rfl rfl (by kernel_rfl) (by kernel_rfl) (by kernel_rfl) (fun _ _ _ h => h) (Or.inl ⟨Eq.refl true, fun w1 hSw => ?_⟩) hS_0 ?_
        · first | rfl | (clear hSw; go_simp; done) | (clear hSw; go_simp; rfl)
        (try simp only [Act.put, List.setIfInBounds_toArray, List.set_cons_zero, List.set_cons_succ])
        refine takeR (i := 9) (v := .pointer (some ⟨bb, off + j * 2 + 1, none⟩)) rfl rfl (by kernel_rfl) (by kernel_rfl) (by kernel_rfl) (fun _ _ _ h => h) (Or.inl ⟨Eq.refl true, fun w1 hSw => ?_⟩) hS_0 ?_
        · first | rfl | (clear hSw; go_simp; done) | (clear hSw; go_simp; rfl)
        (try simp only [Act.put, List.setIfInBounds_toArray, List.set_cons_zero, List.set_cons_succ])
        refine takeR (i := 10) (v := .slice sa S.length sc) rfl rfl (by kernel_rfl) (by kernel_rfl) (by kernel_rfl) (fun _ _ _ h => h) (Or.inl ⟨Eq.refl true, fun w1 hSw => ?_⟩) hS_0 ?_
        · (obtain ⟨q1, q2⟩ := hSw; go_simp; try rfl)
        (try simp only [Act.put, List.setIfInBounds_toArray, List.set_cons_zero, List.set_cons_succ])
        refine wpAnyH_ready (rs := [11]) (by kernel_rfl) (by simp) (AllReadyH.cons rfl (fun K hK => ?_) AllReadyH.nil)
        go_simp
        go_wp2_with (go_at_call 11; refine (HFew.out _ hS15).mono ?_; rintro e w4 ⟨rfl, rfl⟩)
        refine hK.out _ _ ?_ (fun hS_1 => ?_)
        · exact hS_0
        clear hK K
        refine wpAnyH_ready (rs := [12]) (by kernel_rfl) (by simp) (AllReadyH.cons rfl (fun K hK => ?_) AllReadyH.nil)
        go_simp
        go_wp2_with (go_at_call 12; refine (rpass_ok h2 g2 N T E (!l) t sa sc Z _ r5 hS25 hap2 hok).mono ?_; rintro e w6 ⟨rfl, r6, q6⟩)
        refine hK.out _ _ ?_ (fun hS_2 => ?_)
        · exact ⟨(q6.cell (p := ⟨bb, off + j * 2, none⟩) hbl5 hbh2 hbg2).trans hS_1.1, (q6.cell (p := ⟨bb, off + j * 2 + 1, none⟩) hbl5 hbh2 hbg2).trans hS_1.2⟩
        clear hK K
        refine takeR (i := 13) (v := .int .i64 0) rfl rfl (by kernel_rfl) (by kernel_rfl) (by kernel_rfl) (fun _ _ _ h => h) (Or.inl ⟨Eq.refl true, fun w1 hSw => ?_⟩) hS_2 ?_
        · first | rfl | (clear hSw; go_simp; done) | (clear hSw; go_simp; rfl)
        (try simp only [Act.put, List.setIfInBounds_toArray, List.set_cons_zero, List.set_cons_succ])
        refine wpAnyH_done (by kernel_rfl) ?_ _
        have k6 := (Clk.drewC k5).keep q6 n1.symm n3.symm n2.symm n4.symm
        have hbw6 : Below w.heap.size w w6 := q6.below hbw5.drew hh2 hg2 (by exact hbw5.size)
        rw [show ((!l) && !Z.any (byB 1)) = !(l || Z.any (byB 1)) by cases l <;> simp] at r6
        clear k5 r5 q5 q6 hS05 hS15 hS25 hS_0 hS_1 hS_2
        generalize (l || Z.any (byB 1)) = l' at *
        generalize passE E t Z = E' at *
        generalize T + t = T' at *
        have cn := r6.c1
        have ck := r6.c2
        have HTr := hid (fun w1 (k1 : Clk w1 h g N T' E' l') => true_any h g N T' E' l' w1 k1)
        have HKp := hid (fun w1 (k1 : Clk w1 h g N T' E' l') => kept_any h g N T' E' l' w1 k1)
        have kqN := hid (fun nn => k6.below (bel_drewN (Below.refl _ _) nn))
        have rqN := hid (fun nn => r6.below (bel_drewN (Below.refl _ _) nn))
        have hwN := hid (fun nn => bel_drewN hbw6 nn)
        generalize hkb : (!l') = kb at *
        have HKB := hid hkb
        clear hkb
        go_wp2_with fail
        go_quiet (first
          | (go_at_call 13; exact Calls.quiet_of_same (v := .int .i64 T') ((HTr.out _ (kqN.out _)).mono (fun e w6 hh => ⟨hh.1, hh.2.symm⟩)))
          | (go_at_call 14; exact Calls.quiet_of_same (v := .bool kb) ((HKp.out _ (kqN.out _)).mono (fun e w6 hh => ⟨hh.1, hh.2.symm⟩))))
        go_wp2_with fail
        have k7 := kqN.out nq
        have r7 := rqN.out nq
        have hw7 := hwN.out nq
        clear kqN rqN hwN cn ck k6 r6 hbw6
        generalize w6.drewN nq = w7 at *
        go_loopw [10] (fun i w2 => ∃ q : Nat, q ≤ N + 2 ∧ i = .int .i64 ((q : Int) - 1) ∧ w2 = w7) (fun i _ => (N + 1 - intOf i).toNat)
        case atStart => exact ⟨0, by omega, rfl, rfl⟩
        case round =>
        obtain ⟨q, hq, rfl, rfl⟩ := hrel
        by_cases hlq : q ≤ N + 1
        · have g1 : decide ((q : Int) - 1 ≤ (N : Int)) = true := decide_eq_true (by omega)
          have HS1 := hid (show_any h g N T' E' l' ((q : Int) - 1) _ k7)
          have HS2 := hid (rshow_any h2 g2 N T' E' kb ((q : Int) - 1) _ r7)
          have ew : IntKind.i64.wrap ((q : Int) - 1 + 1) = (q : Int) - 1 + 1 := IntWalk.i64_in _ (by omega)
          generalize shown N E' ((q : Int) - 1) = v at *
          generalize hqq : (q : Int) - 1 = z at *
          have HQ := hid hqq
          clear hqq
          go_wp2_with (first
            | (go_at_call 15; refine HS1.out.mono ?_; rintro e w9 ⟨rfl, rfl⟩)
            | (go_at_call 16; refine HS2.out.mono ?_; rintro e w9 ⟨rfl, rfl⟩))
          go_roundw
          case rel => exact ⟨q + 1, by omega, by rw [← HQ.out]; congr 1; omega, by first | rfl | trivial⟩
          case measure => have := HQ.out; simp [intOf]; omega
        · have g1 : decide ((q : Int) - 1 ≤ (N : Int)) = false := decide_eq_false (by omega)
          generalize (q : Int) - 1 = z at *
          go_wp2_with fail
          go_roundw
          case rel => exact ⟨j + 1, T', E', l', by omega, by omega, by go_num, k7, by rw [HKB.out]; exact r7, hw7⟩
          case measure => simp [intOf]; omega


end Go.Proofs.Ytpiebklgpehafaa
