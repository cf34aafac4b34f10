import Derived.Test.YtpiebklgpehafaaClockH
namespace Go.Proofs.Ytpiebklgpehafaa
open Go.RowKit Go.WideShapes
set_option linter.unusedSimpArgs false
set_option linter.unusedVariables false

/-- the document's clocks in memory -/
structure RClk (w : World) (h g n : Nat) (T : Int) (E : Nat → Int) (l : Bool) : Prop where
  b : Blk w h 36 [.slice (some ⟨g, 0, none⟩) n n, .int .i64 T, .bool l]
  e : Blk w g 3 (arr n E)
  ne : h ≠ g
  n9 : 1 ≤ n ∧ n ≤ 9
  t : 0 ≤ T ∧ T ≤ 1099511627776
  bd : ∀ i, i < n → 0 ≤ E i ∧ E i ≤ 16 * T
theorem RClk.keep {w w' : World} {h g n h' g' : Nat} {T : Int} {E : Nat → Int} {l : Bool} (k : RClk w h g n T E l) (a : Keep h' g' w w') (n1 : h ≠ h') (n2 : h ≠ g') (n3 : g ≠ h') (n4 : g ≠ g') : RClk w' h g n T E l :=
  ⟨a.blk k.b n1 n2, a.blk k.e n3 n4, k.ne, k.n9, k.t, k.bd⟩
theorem RClk.below {w w' : World} {h g n : Nat} {T : Int} {E : Nat → Int} {l : Bool} (k : RClk w h g n T E l) (a : Below w.heap.size w w') : RClk w' h g n T E l :=
  ⟨k.b.mono a, k.e.mono a, k.ne, k.n9, k.t, k.bd⟩
theorem RClk.c0 {w : World} {h g n : Nat} {T : Int} {E : Nat → Int} {l : Bool} (k : RClk w h g n T E l) : w.cell? ⟨h, 0, none⟩ = some (.slice (some ⟨g, 0, none⟩) n n) := Blk.cell k.b (i := 0) (by simp)
theorem RClk.c1 {w : World} {h g n : Nat} {T : Int} {E : Nat → Int} {l : Bool} (k : RClk w h g n T E l) : w.cell? ⟨h, 1, none⟩ = some (.int .i64 T) := Blk.cell k.b (i := 1) (by simp)
theorem RClk.c2 {w : World} {h g n : Nat} {T : Int} {E : Nat → Int} {l : Bool} (k : RClk w h g n T E l) : w.cell? ⟨h, 2, none⟩ = some (.bool l) := Blk.cell k.b (i := 2) (by simp)
theorem RClk.ce {w : World} {h g n : Nat} {T : Int} {E : Nat → Int} {l : Bool} (k : RClk w h g n T E l) {i : Nat} (hi : i < n) : w.cell? ⟨g, i, none⟩ = some (.int .i64 (E i)) := by
  rw [Blk.cell k.e (i := i) (by rw [arr_length]; exact hi), arr_get n E hi]

set_option maxHeartbeats 1000000 in
theorem rnew_any (n : Int) (w : World) :
    Calls Try.prog 8 #[.int .i64 n] w fun e w' =>
      (¬ (1 ≤ n ∧ n ≤ 9) ∧ e = .returned (.pointer none) ∧ w = w') ∨
      (1 ≤ n ∧ n ≤ 9) ∧ ∃ h g, e = .returned (.pointer (some ⟨h, 0, none⟩)) ∧ RClk w' h g n.toNat 0 (fun _ => 0) true ∧ w.heap.size ≤ h ∧ w.heap.size ≤ g ∧ h < w'.heap.size ∧ g < w'.heap.size ∧ Below w.heap.size w w' := by
  rcases (by omega : n < 1 ∨ (1 ≤ n ∧ 9 < n) ∨ (1 ≤ n ∧ n ≤ 9)) with h1 | ⟨h1, h2⟩ | ⟨h1, h2⟩
  · go_enter Try.func8, Try.ntmps8
    go_wp2
    go_ret
    exact .inl ⟨by omega, rfl, rfl⟩
  · go_enter Try.func8, Try.ntmps8
    go_wp2
    go_ret
    exact .inl ⟨by omega, rfl, rfl⟩
  · obtain ⟨m, rfl⟩ := Int.eq_ofNat_of_zero_le (by omega : 0 ≤ n)
    go_enter Try.func8, Try.ntmps8
    go_wp2_with (first
      | (at_make; refine wpl_make rfl (.tmp 9) (.tmp 9) rfl Try.underlying30 (bytes := 8) (z := .int .i64 0) (by kernel_rfl) rfl rfl rfl rfl rfl (by omega) (by omega) ?_; intro w1 k1 b1))
    go_ret
    have ba : Below w.heap.size w (w1.alloc (.cells #[.slice (some ⟨w.heap.size, 0, none⟩) m m, .int .i64 0, .bool true] 36)) := b1.alloc b1.size _
    have hlt : w.heap.size < w1.heap.size := k1.lt
    refine .inr ⟨⟨h1, h2⟩, w1.heap.size, w.heap.size, rfl, ⟨?_, ?_, by omega, by simp; omega, by simp, by simp⟩, by omega, Nat.le_refl _, by simp, by simp; omega, ba⟩
    · rw [Int.toNat_natCast]; exact heap_alloc_new w1 _
    · rw [Int.toNat_natCast, arr_zero]; exact Blk.mono k1 ((Below.refl _ _).alloc (Nat.le_refl _) _)

set_option maxHeartbeats 1000000 in
theorem rshow_any (h g n : Nat) (T : Int) (E : Nat → Int) (l : Bool) (i : Int) (w : World) (k : RClk w h g n T E l) :
    Calls Try.prog 16 #[.pointer (some ⟨h, 0, none⟩), .int .i64 i] w fun e w' => e = .returned (.int .i64 (shown n E i)) ∧ w = w' := by
  have c1 := k.c0
  have hn := k.n9
  have ht := k.t
  rcases (by omega : i < 0 ∨ (0 ≤ i ∧ (n : Int) ≤ i) ∨ (0 ≤ i ∧ i < n)) with h1 | ⟨h1, h2⟩ | ⟨h1, h2⟩
  · have hs : shown n E i = 0 := if_neg (by omega)
    rw [hs]
    clear hs k
    go_enter Try.func16, Try.ntmps16
    go_wp2
    go_ret
    exact ⟨rfl, rfl⟩
  · have hs : shown n E i = 0 := if_neg (by omega)
    rw [hs]
    clear hs k
    go_enter Try.func16, Try.ntmps16
    go_wp2
    go_ret
    exact ⟨rfl, rfl⟩
  · obtain ⟨m, rfl⟩ := Int.eq_ofNat_of_zero_le h1
    have hs : shown n E m = E m / 8 := if_pos ⟨h1, h2⟩
    rw [hs]
    have ce := k.ce (show m < n by omega)
    have hb := k.bd m (by omega)
    clear hs k
    generalize E m = x at *
    obtain ⟨y, rfl⟩ := Int.eq_ofNat_of_zero_le hb.1
    have e1 : (y : Int).tdiv 8 = ((y / 8 : Nat) : Int) := rfl
    have e2 : IntKind.i64.wrap ((y / 8 : Nat) : Int) = (y / 8 : Nat) := IntWalk.i64_in _ (by omega)
    have e3 : ((y / 8 : Nat) : Int) = (y : Int) / 8 := by omega
    rw [← e3]
    generalize y / 8 = z at *
    clear e3
    go_enter Try.func16, Try.ntmps16
    go_wp2
    go_ret
    exact ⟨rfl, rfl⟩

theorem any_drop {b : Int} {S : List Int} {j : Nat} (h : j < S.length) : (S.drop j).any (byB b) = (byB b (S.getD j 0) || (S.drop (j + 1)).any (byB b)) := by
  rw [List.drop_eq_getElem_cons h, List.any_cons]; simp [h]

set_option maxHeartbeats 2000000 in
set_option maxRecDepth 100000 in
theorem rpass_no (h g n : Nat) (T : Int) (E : Nat → Int) (l : Bool) (t : Int) (a : Option Addr) (c : Nat) (S : List Int) (w : World) (k : RClk w h g n T E l) (ha : RowI w a c S) (ht : -9223372036854775808 ≤ t ∧ t ≤ 9223372036854775807) (hok : okP T t n S = false) :
    Calls Try.prog 12 #[.pointer (some ⟨h, 0, none⟩), .int .i64 t, .slice a S.length c] w fun e w' => e = .returned (.int .i64 1) ∧ w = w' := by
  have hl := rowI_len ha
  have hn := k.n9
  have hT := k.t
  have c0 := k.c0
  have c1 := k.c1
  clear k
  rcases (by omega : t < 1 ∨ (1 ≤ t ∧ 64 < t) ∨ (1 ≤ t ∧ t ≤ 64 ∧ n < S.length) ∨ (1 ≤ t ∧ t ≤ 64 ∧ S.length ≤ n ∧ 1099511627776 < T + t) ∨ (1 ≤ t ∧ t ≤ 64 ∧ S.length ≤ n ∧ T + t ≤ 1099511627776)) with h1 | ⟨h1, h2⟩ | ⟨h1, h2, h3⟩ | ⟨h1, h2, h3, h4⟩ | ⟨h1, h2, h3, h4⟩
  · have d1 : decide (t < 1) = true := decide_eq_true h1
    clear hok
    go_enter Try.func12, Try.ntmps12
    go_wp2
    go_ret
    exact ⟨rfl, rfl⟩
  · have d1 : decide (t < 1) = false := decide_eq_false (by omega)
    have d2 : decide (64 < t) = true := decide_eq_true h2
    clear hok
    go_enter Try.func12, Try.ntmps12
    go_wp2
    go_ret
    exact ⟨rfl, rfl⟩
  · have d1 : decide (t < 1) = false := decide_eq_false (by omega)
    have d2 : decide (64 < t) = false := decide_eq_false (by omega)
    have d3 : decide ((n : Int) < (S.length : Int)) = true := decide_eq_true (by omega)
    have d3' : decide (n < S.length) = true := decide_eq_true (by omega)
    clear hok
    go_enter Try.func12, Try.ntmps12
    go_wp2
    go_ret
    exact ⟨rfl, rfl⟩
  · have d1 : decide (t < 1) = false := decide_eq_false (by omega)
    have d2 : decide (64 < t) = false := decide_eq_false (by omega)
    have d3 : decide ((n : Int) < (S.length : Int)) = false := decide_eq_false (by omega)
    have d3' : decide (n < S.length) = false := decide_eq_false (by omega)
    have d5 : decide (1099511627776 < T + t) = true := decide_eq_true h4
    have e5 : IntKind.i64.wrap (T + t) = T + t := IntWalk.i64_in _ (by omega)
    clear hok
    go_enter Try.func12, Try.ntmps12
    go_wp2
    go_ret
    exact ⟨rfl, rfl⟩
  · have d1 : decide (t < 1) = false := decide_eq_false (by omega)
    have d2 : decide (64 < t) = false := decide_eq_false (by omega)
    have d3 : decide ((n : Int) < (S.length : Int)) = false := decide_eq_false (by omega)
    have d3' : decide (n < S.length) = false := decide_eq_false (by omega)
    have d5 : decide (1099511627776 < T + t) = false := decide_eq_false (by omega)
    have e5 : IntKind.i64.wrap (T + t) = T + t := IntWalk.i64_in _ (by omega)
    have hany : (S.drop 0).any (byB 8) = true := by
      unfold okP at hok
      rw [decide_eq_true (show 1 ≤ t ∧ t ≤ 64 ∧ S.length ≤ n from ⟨h1, h2, h3⟩), decide_eq_true h4] at hok
      simpa using hok
    have HA := hid hany
    clear hok hany
    go_enter Try.func12, Try.ntmps12
    go_wp2_with fail
    go_loopw [7] (fun i wr => ∃ j : Nat, j ≤ S.length ∧ i = .int .i64 j ∧ (S.drop j).any (byB 8) = true ∧ wr = w) (fun i _ => S.length - (intOf i).toNat)
    case atStart => exact ⟨0, by omega, rfl, HA.out, rfl⟩
    case round =>
      obtain ⟨j, hj, rfl, hp, rfl⟩ := hrel
      by_cases hlt : j < S.length
      · obtain ⟨ba, oa, rfl, hba, hca⟩ := rowI_cells ha (by omega)
        have cj := hca j hlt
        rw [any_drop hlt] at hp
        have hltd : decide ((j : Int) < (S.length : Int)) = true := decide_eq_true (by omega)
        have hltd' : decide (j < S.length) = true := decide_eq_true hlt
        clear hca ha
        generalize S.getD j 0 = s at *
        rcases (by omega : s < -8 ∨ (-8 ≤ s ∧ 8 < s) ∨ (-8 ≤ s ∧ s ≤ 8)) with q1 | ⟨q1, q2⟩ | ⟨q1, q2⟩
        · have g1 : decide (s < -8) = true := decide_eq_true q1
          clear hp
          go_wp2_with fail
          go_ret
          exact ⟨rfl, rfl⟩
        · have g1 : decide (s < -8) = false := decide_eq_false (by omega)
          have g2 : decide (8 < s) = true := decide_eq_true q2
          clear hp
          go_wp2_with fail
          go_ret
          exact ⟨rfl, rfl⟩
        · have g1 : decide (s < -8) = false := decide_eq_false (by omega)
          have g2 : decide (8 < s) = false := decide_eq_false (by omega)
          have hby : byB 8 s = false := by unfold byB; rw [g1, g2]; rfl
          rw [hby, Bool.false_or] at hp
          have HP := hid hp
          clear hp hby
          go_wp2_with fail
          go_roundw
          case rel => exact ⟨j + 1, by omega, by go_num, HP.out, by first | rfl | trivial⟩
          case measure => simp [intOf]; omega
      · rw [List.drop_eq_nil_of_le (by omega)] at hp
        simp at hp

end Go.Proofs.Ytpiebklgpehafaa
