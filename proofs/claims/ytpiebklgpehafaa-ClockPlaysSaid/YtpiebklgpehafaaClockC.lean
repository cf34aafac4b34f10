import Derived.Test.YtpiebklgpehafaaClockB
import Derived.Test.YtpiebklgpehafaaLibR
namespace Go.Proofs.Ytpiebklgpehafaa
open Go.RowKit Go.WideShapes
set_option linter.unusedSimpArgs false
set_option linter.unusedVariables false

def okP (T t : Int) (n : Nat) (S : List Int) : Bool := decide (1 ≤ t ∧ t ≤ 64 ∧ S.length ≤ n) && !S.any (byB 8) && decide (T + t ≤ 1099511627776)
def passE (E : Nat → Int) (t : Int) (S : List Int) (i : Nat) : Int := E i + 8 * t + t * S.getD i 0
theorem mul_bd {t s : Int} (h1 : 1 ≤ t) (h2 : t ≤ 64) (h3 : -8 ≤ s) (h4 : s ≤ 8) : -(8 * t) ≤ t * s ∧ t * s ≤ 8 * t := by
  rcases (by omega : s = -8 ∨ s = -7 ∨ s = -6 ∨ s = -5 ∨ s = -4 ∨ s = -3 ∨ s = -2 ∨ s = -1 ∨ s = 0 ∨ s = 1 ∨ s = 2 ∨ s = 3 ∨ s = 4 ∨ s = 5 ∨ s = 6 ∨ s = 7 ∨ s = 8) with rfl | rfl | rfl | rfl | rfl | rfl | rfl | rfl | rfl | rfl | rfl | rfl | rfl | rfl | rfl | rfl | rfl <;> omega

set_option maxHeartbeats 2000000 in
theorem pass_no (h g n : Nat) (T : Int) (E : Nat → Int) (l : Bool) (t : Int) (a : Option Addr) (c : Nat) (S : List Int) (w : World) (k : Clk w h g n T E l) (ha : RowI w a c S) (ht : -9223372036854775808 ≤ t ∧ t ≤ 9223372036854775807) (hok : okP T t n S = false) :
    Calls Try.prog 10 #[.pointer (some ⟨h, 0, none⟩), .int .i64 t, .slice a S.length c] w fun e w' => e = .returned (.int .i64 1) ∧ Below w.heap.size w w' := by
  have hmf : ∀ (fn : Fn) (first cap : Array Value) (w : World), (Instr.makeFunc fn first cap).run Try.prog w = .ok (.func fn first cap) w := fun _ _ _ _ => rfl
  have hl := rowI_len ha
  have hn := k.n9
  have hT := k.t
  have B0 : Below w.heap.size w (w.alloc (.cells #[.slice a S.length c] 30)) := (Below.refl _ w).alloc (Nat.le_refl _) _
  have c5 : (w.alloc (.cells #[.slice a S.length c] 30)).cell? ⟨w.heap.size, 0, none⟩ = some (.slice a S.length c) := Blk.cell (heap_alloc_new w _ : Blk _ w.heap.size 30 [.slice a S.length c]) (i := 0) (by simp)
  have k1 := k.below B0
  have c0 := k1.c0
  have c1 := k1.c1
  have H5 : Blk (w.alloc (.cells #[.slice a S.length c] 30)) w.heap.size 30 [.slice a S.length c] := heap_alloc_new w _
  have HB := hid (beyond_any a c S 8 w.heap.size (w.alloc (.cells #[.slice a S.length c] 30)).drew (Row.drew (Row.alloc ha _)) (Blk.drew H5) (by omega))
  have hsz : h < (w.alloc (.cells #[.slice a S.length c] 30)).heap.size := k1.b.lt
  clear k ha k1 H5
  rcases (by omega : t < 1 ∨ (1 ≤ t ∧ 64 < t) ∨ (1 ≤ t ∧ t ≤ 64 ∧ n < S.length) ∨ (1 ≤ t ∧ t ≤ 64 ∧ S.length ≤ n)) with h1 | ⟨h1, h2⟩ | ⟨h1, h2, h3⟩ | ⟨h1, h2, h3⟩
  · have d1 : decide (t < 1) = true := decide_eq_true h1
    clear hok HB
    go_enter Try.func10, Try.ntmps10
    go_wp2_with fail
    go_quiet (fail)
    go_wp2_with fail
    go_ret
    exact ⟨rfl, bel_drewN B0 _⟩
  · have d1 : decide (t < 1) = false := decide_eq_false (by omega)
    have d2 : decide (64 < t) = true := decide_eq_true h2
    clear hok HB
    go_enter Try.func10, Try.ntmps10
    go_wp2_with fail
    go_quiet (fail)
    go_wp2_with fail
    go_ret
    exact ⟨rfl, bel_drewN B0 _⟩
  · have d1 : decide (t < 1) = false := decide_eq_false (by omega)
    have d2 : decide (64 < t) = false := decide_eq_false (by omega)
    have d3 : decide ((n : Int) < (S.length : Int)) = true := decide_eq_true (by omega)
    have d3' : decide (n < S.length) = true := decide_eq_true (by omega)
    clear hok HB
    go_enter Try.func10, Try.ntmps10
    go_wp2_with fail
    go_quiet (fail)
    go_wp2_with fail
    go_ret
    exact ⟨rfl, bel_drewN B0 _⟩
  · have d1 : decide (t < 1) = false := decide_eq_false (by omega)
    have d2 : decide (64 < t) = false := decide_eq_false (by omega)
    have d3 : decide ((n : Int) < (S.length : Int)) = false := decide_eq_false (by omega)
    have d3' : decide (n < S.length) = false := decide_eq_false (by omega)
    have d0 : decide (1 ≤ t ∧ t ≤ 64 ∧ S.length ≤ n) = true := decide_eq_true ⟨h1, h2, h3⟩
    unfold okP at hok
    rw [d0, Bool.true_and] at hok
    clear d0
    generalize S.any (byB 8) = B at *
    have hS0 : ((w.alloc (.cells #[.slice a S.length c] 30)).drew.cell? ⟨h, 0, none⟩ = some (.int .i64 T) ∧ (w.alloc (.cells #[.slice a S.length c] 30)).drew.cell? ⟨h, 1, none⟩ = some (.slice (some ⟨g, 0, none⟩) n n) ∧ (w.alloc (.cells #[.slice a S.length c] 30)).drew.cell? ⟨w.heap.size, 0, none⟩ = some (.slice a S.length c)) ∧ Below (w.alloc (.cells #[.slice a S.length c] 30)).heap.size (w.alloc (.cells #[.slice a S.length c] 30)) (w.alloc (.cells #[.slice a S.length c] 30)).drew := ⟨⟨c0, c1, c5⟩, (Below.refl _ _).drew⟩
    cases B
    · have d5 : decide (1099511627776 < T + t) = true := decide_eq_true (by simp at hok; omega)
      have e5 : IntKind.i64.wrap (T + t) = T + t := IntWalk.i64_in _ (by omega)
      clear hok
      go_enter Try.func10, Try.ntmps10
      go_wp2_with fail
      refine wp_region_held_drew (S := fun w' => (w'.cell? ⟨h, 0, none⟩ = some (.int .i64 T) ∧ w'.cell? ⟨h, 1, none⟩ = some (.slice (some ⟨g, 0, none⟩) n n) ∧ w'.cell? ⟨w.heap.size, 0, none⟩ = some (.slice a S.length c)) ∧ Below (w.alloc (.cells #[.slice a S.length c] 30)).heap.size (w.alloc (.cells #[.slice a S.length c] 30)) w') (by kernel_rfl) hS0 (fun hS_0 => ?_)
      refine takeR (i := 0) (v := .int .i64 t) rfl rfl (by kernel_rfl) (by kernel_rfl) (by kernel_rfl) (fun _ _ _ h => h) (Or.inl ⟨Eq.refl true, fun w1 hSw => ?_⟩) hS_0 ?_
      · first | rfl | (clear hSw; go_simp; done) | (clear hSw; go_simp; rfl)
      (try simp only [Act.put, List.setIfInBounds_toArray, List.set_cons_zero, List.set_cons_succ])
      refine takeR (i := 1) (v := .bool false) rfl rfl (by kernel_rfl) (by kernel_rfl) (by kernel_rfl) (fun _ _ _ h => h) (Or.inl ⟨Eq.refl true, fun w1 hSw => ?_⟩) hS_0 ?_
      · first | rfl | (clear hSw; go_simp; done) | (clear hSw; go_simp; rfl)
      (try simp only [Act.put, List.setIfInBounds_toArray, List.set_cons_zero, List.set_cons_succ])
      refine takeR (i := 2) (v := .bool false) rfl rfl (by kernel_rfl) (by kernel_rfl) (by kernel_rfl) (fun _ _ _ h => h) (Or.inl ⟨Eq.refl true, fun w1 hSw => ?_⟩) hS_0 ?_
      · first | rfl | (clear hSw; go_simp; done) | (clear hSw; go_simp; rfl)
      (try simp only [Act.put, List.setIfInBounds_toArray, List.set_cons_zero, List.set_cons_succ])
      refine takeR (i := 3) (v := .int .i64 t) rfl rfl (by kernel_rfl) (by kernel_rfl) (by kernel_rfl) (fun _ _ _ h => h) (Or.inl ⟨Eq.refl true, fun w1 hSw => ?_⟩) hS_0 ?_
      · first | rfl | (clear hSw; go_simp; done) | (clear hSw; go_simp; rfl)
      (try simp only [Act.put, List.setIfInBounds_toArray, List.set_cons_zero, List.set_cons_succ])
      refine takeR (i := 4) (v := .bool false) rfl rfl (by kernel_rfl) (by kernel_rfl) (by kernel_rfl) (fun _ _ _ h => h) (Or.inl ⟨Eq.refl true, fun w1 hSw => ?_⟩) hS_0 ?_
      · first | rfl | (clear hSw; go_simp; done) | (clear hSw; go_simp; rfl)
      (try simp only [Act.put, List.setIfInBounds_toArray, List.set_cons_zero, List.set_cons_succ])
      refine takeR (i := 5) (v := .bool false) rfl rfl (by kernel_rfl) (by kernel_rfl) (by kernel_rfl) (fun _ _ _ h => h) (Or.inl ⟨Eq.refl true, fun w1 hSw => ?_⟩) hS_0 ?_
      · first | rfl | (clear hSw; go_simp; done) | (clear hSw; go_simp; rfl)
      (try simp only [Act.put, List.setIfInBounds_toArray, List.set_cons_zero, List.set_cons_succ])
      refine takeR (i := 6) (v := .bool false) rfl rfl (by kernel_rfl) (by kernel_rfl) (by kernel_rfl) (fun _ _ _ h => h) (Or.inl ⟨Eq.refl true, fun w1 hSw => ?_⟩) hS_0 ?_
      · first | rfl | (clear hSw; go_simp; done) | (clear hSw; go_simp; rfl)
      (try simp only [Act.put, List.setIfInBounds_toArray, List.set_cons_zero, List.set_cons_succ])
      refine takeR (i := 7) (v := .slice a S.length c) rfl rfl (by kernel_rfl) (by kernel_rfl) (by kernel_rfl) (fun _ _ _ h => h) (Or.inl ⟨Eq.refl true, fun w1 hSw => ?_⟩) hS_0 ?_
      · (obtain ⟨⟨q1, q2, q3⟩, _⟩ := hSw; go_simp; try rfl)
      (try simp only [Act.put, List.setIfInBounds_toArray, List.set_cons_zero, List.set_cons_succ])
      refine takeR (i := 8) (v := .int .i64 S.length) rfl rfl (by kernel_rfl) (by kernel_rfl) (by kernel_rfl) (fun _ _ _ h => h) (Or.inl ⟨Eq.refl true, fun w1 hSw => ?_⟩) hS_0 ?_
      · first | rfl | (clear hSw; go_simp; done) | (clear hSw; go_simp; rfl)
      (try simp only [Act.put, List.setIfInBounds_toArray, List.set_cons_zero, List.set_cons_succ])
      refine takeR (i := 9) (v := .pointer (some ⟨h, 0, none⟩)) rfl rfl (by kernel_rfl) (by kernel_rfl) (by kernel_rfl) (fun _ _ _ h => h) (Or.inl ⟨Eq.refl true, fun w1 hSw => ?_⟩) hS_0 ?_
      · first | rfl | (clear hSw; go_simp; done) | (clear hSw; go_simp; rfl)
      (try simp only [Act.put, List.setIfInBounds_toArray, List.set_cons_zero, List.set_cons_succ])
      refine takeR (i := 10) (v := .pointer (some ⟨h, 0, none⟩)) rfl rfl (by kernel_rfl) (by kernel_rfl) (by kernel_rfl) (fun _ _ _ h => h) (Or.inl ⟨Eq.refl true, fun w1 hSw => ?_⟩) hS_0 ?_
      · first | rfl | (clear hSw; go_simp; done) | (clear hSw; go_simp; rfl)
      (try simp only [Act.put, List.setIfInBounds_toArray, List.set_cons_zero, List.set_cons_succ])
      refine takeR (i := 11) (v := .pointer (some ⟨h, 1, none⟩)) rfl rfl (by kernel_rfl) (by kernel_rfl) (by kernel_rfl) (fun _ _ _ h => h) (Or.inl ⟨Eq.refl true, fun w1 hSw => ?_⟩) hS_0 ?_
      · first | rfl | (clear hSw; go_simp; done) | (clear hSw; go_simp; rfl)
      (try simp only [Act.put, List.setIfInBounds_toArray, List.set_cons_zero, List.set_cons_succ])
      refine takeR (i := 12) (v := .slice (some ⟨g, 0, none⟩) n n) rfl rfl (by kernel_rfl) (by kernel_rfl) (by kernel_rfl) (fun _ _ _ h => h) (Or.inl ⟨Eq.refl true, fun w1 hSw => ?_⟩) hS_0 ?_
      · (obtain ⟨⟨q1, q2, q3⟩, _⟩ := hSw; go_simp; try rfl)
      (try simp only [Act.put, List.setIfInBounds_toArray, List.set_cons_zero, List.set_cons_succ])
      refine takeR (i := 13) (v := .int .i64 n) rfl rfl (by kernel_rfl) (by kernel_rfl) (by kernel_rfl) (fun _ _ _ h => h) (Or.inl ⟨Eq.refl true, fun w1 hSw => ?_⟩) hS_0 ?_
      · first | rfl | (clear hSw; go_simp; done) | (clear hSw; go_simp; rfl)
      (try simp only [Act.put, List.setIfInBounds_toArray, List.set_cons_zero, List.set_cons_succ])
      refine takeR (i := 14) (v := .bool false) rfl rfl (by kernel_rfl) (by kernel_rfl) (by kernel_rfl) (fun _ _ _ h => h) (Or.inl ⟨Eq.refl true, fun w1 hSw => ?_⟩) hS_0 ?_
      · first | rfl | (clear hSw; go_simp; done) | (clear hSw; go_simp; rfl)
      (try simp only [Act.put, List.setIfInBounds_toArray, List.set_cons_zero, List.set_cons_succ])
      refine takeR (i := 15) (v := .bool false) rfl rfl (by kernel_rfl) (by kernel_rfl) (by kernel_rfl) (fun _ _ _ h => h) (Or.inl ⟨Eq.refl true, fun w1 hSw => ?_⟩) hS_0 ?_
      · first | rfl | (clear hSw; go_simp; done) | (clear hSw; go_simp; rfl)
      (try simp only [Act.put, List.setIfInBounds_toArray, List.set_cons_zero, List.set_cons_succ])
      refine takeR (i := 16) (v := .bool false) rfl rfl (by kernel_rfl) (by kernel_rfl) (by kernel_rfl) (fun _ _ _ h => h) (Or.inl ⟨Eq.refl true, fun w1 hSw => ?_⟩) hS_0 ?_
      · first | rfl | (clear hSw; go_simp; done) | (clear hSw; go_simp; rfl)
      (try simp only [Act.put, List.setIfInBounds_toArray, List.set_cons_zero, List.set_cons_succ])
      refine takeR (i := 17) (v := .func (.func 17) #[] #[.pointer (some ⟨w.heap.size, 0, none⟩)]) rfl rfl (by kernel_rfl) (by kernel_rfl) (by kernel_rfl) (fun _ _ _ h => h) (Or.inl ⟨Eq.refl true, fun w1 hSw => ?_⟩) hS_0 ?_
      · first | rfl | (clear hSw; go_simp; done) | (clear hSw; go_simp; rfl)
      (try simp only [Act.put, List.setIfInBounds_toArray, List.set_cons_zero, List.set_cons_succ])
      refine wpAnyH_ready (rs := [18]) (by kernel_rfl) (by simp) (AllReadyH.cons rfl (fun K hK => ?_) AllReadyH.nil)
      go_simp
      go_wp2_with (go_at_call 17; refine HB.out.mono ?_; rintro e w2 ⟨rfl, b2⟩)
      refine hK.out _ _ ?_ (fun hS_1 => ?_)
      · exact cells3_step hS_0 b2
      clear hK K
      refine takeR (i := 19) (v := .bool false) rfl rfl (by kernel_rfl) (by kernel_rfl) (by kernel_rfl) (fun _ _ _ h => h) (Or.inl ⟨Eq.refl true, fun w1 hSw => ?_⟩) hS_1 ?_
      · first | rfl | (clear hSw; go_simp; done) | (clear hSw; go_simp; rfl)
      (try simp only [Act.put, List.setIfInBounds_toArray, List.set_cons_zero, List.set_cons_succ])
      refine takeR (i := 20) (v := .bool false) rfl rfl (by kernel_rfl) (by kernel_rfl) (by kernel_rfl) (fun _ _ _ h => h) (Or.inl ⟨Eq.refl true, fun w1 hSw => ?_⟩) hS_1 ?_
      · first | rfl | (clear hSw; go_simp; done) | (clear hSw; go_simp; rfl)
      (try simp only [Act.put, List.setIfInBounds_toArray, List.set_cons_zero, List.set_cons_succ])
      refine takeR (i := 21) (v := .pointer (some ⟨h, 0, none⟩)) rfl rfl (by kernel_rfl) (by kernel_rfl) (by kernel_rfl) (fun _ _ _ h => h) (Or.inl ⟨Eq.refl true, fun w1 hSw => ?_⟩) hS_1 ?_
      · first | rfl | (clear hSw; go_simp; done) | (clear hSw; go_simp; rfl)
      (try simp only [Act.put, List.setIfInBounds_toArray, List.set_cons_zero, List.set_cons_succ])
      refine takeR (i := 22) (v := .pointer (some ⟨h, 0, none⟩)) rfl rfl (by kernel_rfl) (by kernel_rfl) (by kernel_rfl) (fun _ _ _ h => h) (Or.inl ⟨Eq.refl true, fun w1 hSw => ?_⟩) hS_1 ?_
      · first | rfl | (clear hSw; go_simp; done) | (clear hSw; go_simp; rfl)
      (try simp only [Act.put, List.setIfInBounds_toArray, List.set_cons_zero, List.set_cons_succ])
      refine takeR (i := 23) (v := .pointer (some ⟨h, 0, none⟩)) rfl rfl (by kernel_rfl) (by kernel_rfl) (by kernel_rfl) (fun _ _ _ h => h) (Or.inl ⟨Eq.refl true, fun w1 hSw => ?_⟩) hS_1 ?_
      · first | rfl | (clear hSw; go_simp; done) | (clear hSw; go_simp; rfl)
      (try simp only [Act.put, List.setIfInBounds_toArray, List.set_cons_zero, List.set_cons_succ])
      refine takeR (i := 24) (v := .int .i64 T) rfl rfl (by kernel_rfl) (by kernel_rfl) (by kernel_rfl) (fun _ _ _ h => h) (Or.inl ⟨Eq.refl true, fun w1 hSw => ?_⟩) hS_1 ?_
      · (obtain ⟨⟨q1, q2, q3⟩, _⟩ := hSw; go_simp; try rfl)
      (try simp only [Act.put, List.setIfInBounds_toArray, List.set_cons_zero, List.set_cons_succ])
      refine takeR (i := 25) (v := .int .i64 t) rfl rfl (by kernel_rfl) (by kernel_rfl) (by kernel_rfl) (fun _ _ _ h => h) (Or.inl ⟨Eq.refl true, fun w1 hSw => ?_⟩) hS_1 ?_
      · first | rfl | (clear hSw; go_simp; done) | (clear hSw; go_simp; rfl)
      (try simp only [Act.put, List.setIfInBounds_toArray, List.set_cons_zero, List.set_cons_succ])
      refine takeR (i := 26) (v := .int .i64 (T + t)) rfl rfl (by kernel_rfl) (by kernel_rfl) (by kernel_rfl) (fun _ _ _ h => h) (Or.inl ⟨Eq.refl true, fun w1 hSw => ?_⟩) hS_1 ?_
      · first | rfl | (clear hSw; go_simp; done) | (clear hSw; go_simp; rfl)
      (try simp only [Act.put, List.setIfInBounds_toArray, List.set_cons_zero, List.set_cons_succ])
      refine takeR (i := 27) (v := .bool true) rfl rfl (by kernel_rfl) (by kernel_rfl) (by kernel_rfl) (fun _ _ _ h => h) (Or.inl ⟨Eq.refl true, fun w1 hSw => ?_⟩) hS_1 ?_
      · first | rfl | (clear hSw; go_simp; done) | (clear hSw; go_simp; rfl)
      (try simp only [Act.put, List.setIfInBounds_toArray, List.set_cons_zero, List.set_cons_succ])
      refine takeR (i := 28) (v := .bool true) rfl rfl (by kernel_rfl) (by kernel_rfl) (by kernel_rfl) (fun _ _ _ h => h) (Or.inl ⟨Eq.refl true, fun w1 hSw => ?_⟩) hS_1 ?_
      · first | rfl | (clear hSw; go_simp; done) | (clear hSw; go_simp; rfl)
      (try simp only [Act.put, List.setIfInBounds_toArray, List.set_cons_zero, List.set_cons_succ])
      refine wpAnyH_done (by kernel_rfl) ?_ _
      go_wp2_with fail
      go_ret
      exact ⟨rfl, kept_trans B0 hS_1.2⟩
    · clear hok
      go_enter Try.func10, Try.ntmps10
      go_wp2_with fail
      refine wp_region_held_drew (S := fun w' => (w'.cell? ⟨h, 0, none⟩ = some (.int .i64 T) ∧ w'.cell? ⟨h, 1, none⟩ = some (.slice (some ⟨g, 0, none⟩) n n) ∧ w'.cell? ⟨w.heap.size, 0, none⟩ = some (.slice a S.length c)) ∧ Below (w.alloc (.cells #[.slice a S.length c] 30)).heap.size (w.alloc (.cells #[.slice a S.length c] 30)) w') (by kernel_rfl) hS0 (fun hS_0 => ?_)
      refine takeR (i := 0) (v := .int .i64 t) rfl rfl (by kernel_rfl) (by kernel_rfl) (by kernel_rfl) (fun _ _ _ h => h) (Or.inl ⟨Eq.refl true, fun w1 hSw => ?_⟩) hS_0 ?_
      · first | rfl | (clear hSw; go_simp; done) | (clear hSw; go_simp; rfl)
      (try simp only [Act.put, List.setIfInBounds_toArray, List.set_cons_zero, List.set_cons_succ])
      refine takeR (i := 1) (v := .bool false) rfl rfl (by kernel_rfl) (by kernel_rfl) (by kernel_rfl) (fun _ _ _ h => h) (Or.inl ⟨Eq.refl true, fun w1 hSw => ?_⟩) hS_0 ?_
      · first | rfl | (clear hSw; go_simp; done) | (clear hSw; go_simp; rfl)
      (try simp only [Act.put, List.setIfInBounds_toArray, List.set_cons_zero, List.set_cons_succ])
      refine takeR (i := 2) (v := .bool false) rfl rfl (by kernel_rfl) (by kernel_rfl) (by kernel_rfl) (fun _ _ _ h => h) (Or.inl ⟨Eq.refl true, fun w1 hSw => ?_⟩) hS_0 ?_
      · first | rfl | (clear hSw; go_simp; done) | (clear hSw; go_simp; rfl)
      (try simp only [Act.put, List.setIfInBounds_toArray, List.set_cons_zero, List.set_cons_succ])
      refine takeR (i := 3) (v := .int .i64 t) rfl rfl (by kernel_rfl) (by kernel_rfl) (by kernel_rfl) (fun _ _ _ h => h) (Or.inl ⟨Eq.refl true, fun w1 hSw => ?_⟩) hS_0 ?_
      · first | rfl | (clear hSw; go_simp; done) | (clear hSw; go_simp; rfl)
      (try simp only [Act.put, List.setIfInBounds_toArray, List.set_cons_zero, List.set_cons_succ])
      refine takeR (i := 4) (v := .bool false) rfl rfl (by kernel_rfl) (by kernel_rfl) (by kernel_rfl) (fun _ _ _ h => h) (Or.inl ⟨Eq.refl true, fun w1 hSw => ?_⟩) hS_0 ?_
      · first | rfl | (clear hSw; go_simp; done) | (clear hSw; go_simp; rfl)
      (try simp only [Act.put, List.setIfInBounds_toArray, List.set_cons_zero, List.set_cons_succ])
      refine takeR (i := 5) (v := .bool false) rfl rfl (by kernel_rfl) (by kernel_rfl) (by kernel_rfl) (fun _ _ _ h => h) (Or.inl ⟨Eq.refl true, fun w1 hSw => ?_⟩) hS_0 ?_
      · first | rfl | (clear hSw; go_simp; done) | (clear hSw; go_simp; rfl)
      (try simp only [Act.put, List.setIfInBounds_toArray, List.set_cons_zero, List.set_cons_succ])
      refine takeR (i := 6) (v := .bool false) rfl rfl (by kernel_rfl) (by kernel_rfl) (by kernel_rfl) (fun _ _ _ h => h) (Or.inl ⟨Eq.refl true, fun w1 hSw => ?_⟩) hS_0 ?_
      · first | rfl | (clear hSw; go_simp; done) | (clear hSw; go_simp; rfl)
      (try simp only [Act.put, List.setIfInBounds_toArray, List.set_cons_zero, List.set_cons_succ])
      refine takeR (i := 7) (v := .slice a S.length c) rfl rfl (by kernel_rfl) (by kernel_rfl) (by kernel_rfl) (fun _ _ _ h => h) (Or.inl ⟨Eq.refl true, fun w1 hSw => ?_⟩) hS_0 ?_
      · (obtain ⟨⟨q1, q2, q3⟩, _⟩ := hSw; go_simp; try rfl)
      (try simp only [Act.put, List.setIfInBounds_toArray, List.set_cons_zero, List.set_cons_succ])
      refine takeR (i := 8) (v := .int .i64 S.length) rfl rfl (by kernel_rfl) (by kernel_rfl) (by kernel_rfl) (fun _ _ _ h => h) (Or.inl ⟨Eq.refl true, fun w1 hSw => ?_⟩) hS_0 ?_
      · first | rfl | (clear hSw; go_simp; done) | (clear hSw; go_simp; rfl)
      (try simp only [Act.put, List.setIfInBounds_toArray, List.set_cons_zero, List.set_cons_succ])
      refine takeR (i := 9) (v := .pointer (some ⟨h, 0, none⟩)) rfl rfl (by kernel_rfl) (by kernel_rfl) (by kernel_rfl) (fun _ _ _ h => h) (Or.inl ⟨Eq.refl true, fun w1 hSw => ?_⟩) hS_0 ?_
      · first | rfl | (clear hSw; go_simp; done) | (clear hSw; go_simp; rfl)
      (try simp only [Act.put, List.setIfInBounds_toArray, List.set_cons_zero, List.set_cons_succ])
      refine takeR (i := 10) (v := .pointer (some ⟨h, 0, none⟩)) rfl rfl (by kernel_rfl) (by kernel_rfl) (by kernel_rfl) (fun _ _ _ h => h) (Or.inl ⟨Eq.refl true, fun w1 hSw => ?_⟩) hS_0 ?_
      · first | rfl | (clear hSw; go_simp; done) | (clear hSw; go_simp; rfl)
      (try simp only [Act.put, List.setIfInBounds_toArray, List.set_cons_zero, List.set_cons_succ])
      refine takeR (i := 11) (v := .pointer (some ⟨h, 1, none⟩)) rfl rfl (by kernel_rfl) (by kernel_rfl) (by kernel_rfl) (fun _ _ _ h => h) (Or.inl ⟨Eq.refl true, fun w1 hSw => ?_⟩) hS_0 ?_
      · first | rfl | (clear hSw; go_simp; done) | (clear hSw; go_simp; rfl)
      (try simp only [Act.put, List.setIfInBounds_toArray, List.set_cons_zero, List.set_cons_succ])
      refine takeR (i := 12) (v := .slice (some ⟨g, 0, none⟩) n n) rfl rfl (by kernel_rfl) (by kernel_rfl) (by kernel_rfl) (fun _ _ _ h => h) (Or.inl ⟨Eq.refl true, fun w1 hSw => ?_⟩) hS_0 ?_
      · (obtain ⟨⟨q1, q2, q3⟩, _⟩ := hSw; go_simp; try rfl)
      (try simp only [Act.put, List.setIfInBounds_toArray, List.set_cons_zero, List.set_cons_succ])
      refine takeR (i := 13) (v := .int .i64 n) rfl rfl (by kernel_rfl) (by kernel_rfl) (by kernel_rfl) (fun _ _ _ h => h) (Or.inl ⟨Eq.refl true, fun w1 hSw => ?_⟩) hS_0 ?_
      · first | rfl | (clear hSw; go_simp; done) | (clear hSw; go_simp; rfl)
      (try simp only [Act.put, List.setIfInBounds_toArray, List.set_cons_zero, List.set_cons_succ])
      refine takeR (i := 14) (v := .bool false) rfl rfl (by kernel_rfl) (by kernel_rfl) (by kernel_rfl) (fun _ _ _ h => h) (Or.inl ⟨Eq.refl true, fun w1 hSw => ?_⟩) hS_0 ?_
      · first | rfl | (clear hSw; go_simp; done) | (clear hSw; go_simp; rfl)
      (try simp only [Act.put, List.setIfInBounds_toArray, List.set_cons_zero, List.set_cons_succ])
      refine takeR (i := 15) (v := .bool false) rfl rfl (by kernel_rfl) (by kernel_rfl) (by kernel_rfl) (fun _ _ _ h => h) (Or.inl ⟨Eq.refl true, fun w1 hSw => ?_⟩) hS_0 ?_
      · first | rfl | (clear hSw; go_simp; done) | (clear hSw; go_simp; rfl)
      (try simp only [Act.put, List.setIfInBounds_toArray, List.set_cons_zero, List.set_cons_succ])
      refine takeR (i := 16) (v := .bool false) rfl rfl (by kernel_rfl) (by kernel_rfl) (by kernel_rfl) (fun _ _ _ h => h) (Or.inl ⟨Eq.refl true, fun w1 hSw => ?_⟩) hS_0 ?_
      · first | rfl | (clear hSw; go_simp; done) | (clear hSw; go_simp; rfl)
      (try simp only [Act.put, List.setIfInBounds_toArray, List.set_cons_zero, List.set_cons_succ])
      refine takeR (i := 17) (v := .func (.func 17) #[] #[.pointer (some ⟨w.heap.size, 0, none⟩)]) rfl rfl (by kernel_rfl) (by kernel_rfl) (by kernel_rfl) (fun _ _ _ h => h) (Or.inl ⟨Eq.refl true, fun w1 hSw => ?_⟩) hS_0 ?_
      · first | rfl | (clear hSw; go_simp; done) | (clear hSw; go_simp; rfl)
      (try simp only [Act.put, List.setIfInBounds_toArray, List.set_cons_zero, List.set_cons_succ])
      refine wpAnyH_ready (rs := [18]) (by kernel_rfl) (by simp) (AllReadyH.cons rfl (fun K hK => ?_) AllReadyH.nil)
      go_simp
      go_wp2_with (go_at_call 17; refine HB.out.mono ?_; rintro e w2 ⟨rfl, b2⟩)
      refine hK.out _ _ ?_ (fun hS_1 => ?_)
      · exact cells3_step hS_0 b2
      clear hK K
      refine takeR (i := 19) (v := .bool true) rfl rfl (by kernel_rfl) (by kernel_rfl) (by kernel_rfl) (fun _ _ _ h => h) (Or.inl ⟨Eq.refl true, fun w1 hSw => ?_⟩) hS_1 ?_
      · first | rfl | (clear hSw; go_simp; done) | (clear hSw; go_simp; rfl)
      (try simp only [Act.put, List.setIfInBounds_toArray, List.set_cons_zero, List.set_cons_succ])
      refine takeR (i := 20) (v := .bool true) rfl rfl (by kernel_rfl) (by kernel_rfl) (by kernel_rfl) (fun _ _ _ h => h) (Or.inl ⟨Eq.refl true, fun w1 hSw => ?_⟩) hS_1 ?_
      · first | rfl | (clear hSw; go_simp; done) | (clear hSw; go_simp; rfl)
      (try simp only [Act.put, List.setIfInBounds_toArray, List.set_cons_zero, List.set_cons_succ])
      refine takeR (i := 21) (v := undef) rfl rfl (by kernel_rfl) (by kernel_rfl) (by kernel_rfl) (fun _ _ _ h => h) (Or.inr ⟨Eq.refl false, rfl⟩) hS_1 ?_
      (try simp only [Act.put, List.setIfInBounds_toArray, List.set_cons_zero, List.set_cons_succ])
      refine takeR (i := 22) (v := undef) rfl rfl (by kernel_rfl) (by kernel_rfl) (by kernel_rfl) (fun _ _ _ h => h) (Or.inr ⟨Eq.refl false, rfl⟩) hS_1 ?_
      (try simp only [Act.put, List.setIfInBounds_toArray, List.set_cons_zero, List.set_cons_succ])
      refine takeR (i := 23) (v := undef) rfl rfl (by kernel_rfl) (by kernel_rfl) (by kernel_rfl) (fun _ _ _ h => h) (Or.inr ⟨Eq.refl false, rfl⟩) hS_1 ?_
      (try simp only [Act.put, List.setIfInBounds_toArray, List.set_cons_zero, List.set_cons_succ])
      refine takeR (i := 24) (v := undef) rfl rfl (by kernel_rfl) (by kernel_rfl) (by kernel_rfl) (fun _ _ _ h => h) (Or.inr ⟨Eq.refl false, rfl⟩) hS_1 ?_
      (try simp only [Act.put, List.setIfInBounds_toArray, List.set_cons_zero, List.set_cons_succ])
      refine takeR (i := 25) (v := undef) rfl rfl (by kernel_rfl) (by kernel_rfl) (by kernel_rfl) (fun _ _ _ h => h) (Or.inr ⟨Eq.refl false, rfl⟩) hS_1 ?_
      (try simp only [Act.put, List.setIfInBounds_toArray, List.set_cons_zero, List.set_cons_succ])
      refine takeR (i := 26) (v := undef) rfl rfl (by kernel_rfl) (by kernel_rfl) (by kernel_rfl) (fun _ _ _ h => h) (Or.inr ⟨Eq.refl false, rfl⟩) hS_1 ?_
      (try simp only [Act.put, List.setIfInBounds_toArray, List.set_cons_zero, List.set_cons_succ])
      refine takeR (i := 27) (v := undef) rfl rfl (by kernel_rfl) (by kernel_rfl) (by kernel_rfl) (fun _ _ _ h => h) (Or.inr ⟨Eq.refl false, rfl⟩) hS_1 ?_
      (try simp only [Act.put, List.setIfInBounds_toArray, List.set_cons_zero, List.set_cons_succ])
      refine takeR (i := 28) (v := .bool true) rfl rfl (by kernel_rfl) (by kernel_rfl) (by kernel_rfl) (fun _ _ _ h => h) (Or.inl ⟨Eq.refl true, fun w1 hSw => ?_⟩) hS_1 ?_
      · first | rfl | (clear hSw; go_simp; done) | (clear hSw; go_simp; rfl)
      (try simp only [Act.put, List.setIfInBounds_toArray, List.set_cons_zero, List.set_cons_succ])
      refine wpAnyH_done (by kernel_rfl) ?_ _
      go_wp2_with fail
      go_ret
      exact ⟨rfl, kept_trans B0 hS_1.2⟩

end Go.Proofs.Ytpiebklgpehafaa
