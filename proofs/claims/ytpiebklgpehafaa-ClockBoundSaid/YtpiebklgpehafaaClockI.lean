import Derived.Test.YtpiebklgpehafaaClockH
namespace Go.Proofs.Ytpiebklgpehafaa
open Go.RowKit Go.WideShapes
set_option linter.unusedSimpArgs false
set_option linter.unusedVariables false

/-- the first q skews, each modulo 2 -/
def mod2 (S : List Int) (q : Nat) : List Int := (S.take q).map fun s => s.tmod 2
theorem mod2_succ {S : List Int} {q : Nat} (h : q < S.length) : mod2 S (q + 1) = mod2 S q ++ [(S.getD q 0).tmod 2] := by
  unfold mod2
  rw [List.take_succ_eq_append_getElem h, List.map_append]
  simp [h]
theorem mod2_len {S : List Int} {q : Nat} (h : q ≤ S.length) : (mod2 S q).length = q := by simp [mod2]; omega
theorem tmod2_bd (s : Int) : -1 ≤ s.tmod 2 ∧ s.tmod 2 ≤ 1 := by
  rcases Int.le_total 0 s with h | h
  · rw [Int.tmod_eq_emod_of_nonneg h]; omega
  · obtain ⟨k, rfl⟩ : ∃ k, s = -k := ⟨-s, by omega⟩
    rw [Int.neg_tmod, Int.tmod_eq_emod_of_nonneg (by omega)]; omega
theorem mod2_bd (S : List Int) (q : Nat) : ∀ z ∈ mod2 S q, -1 ≤ z ∧ z ≤ 1 := by
  intro z hz
  obtain ⟨s, _, rfl⟩ := List.mem_map.1 hz
  exact tmod2_bd s
theorem any_mod2 {Z : List Int} (h : ∀ z ∈ Z, -1 ≤ z ∧ z ≤ 1) : Z.any (byB 1) = false := by
  rw [List.any_eq_false]
  intro z hz
  have := h z hz
  simp [byB]; omega
theorem own_ge {w : World} {B : Nat} {e : TypeId} {sz b off n c : Nat} {cs : List Value} (h : Own w B e sz (some ⟨b, off, none⟩) n c cs) (hn : 0 < n) : True ∧ True ∧ True ∧ B ≤ b ∧ True := by
  obtain ⟨_, ⟨hv, h1⟩ | ⟨g', cap, cur, hv, hB, _⟩⟩ := h
  · omega
  · cases hv; exact ⟨trivial, trivial, trivial, hB, trivial⟩

/-- what was shown, in its block -/
def Was (w : World) (gw N : Nat) (F : Nat → Int) : Prop := ∃ L, Blk w gw 3 L ∧ N ≤ L.length ∧ ∀ k, k < N → L[k]? = some (.int .i64 (F k))
theorem Was.mono {w w' : World} {gw N : Nat} {F : Nat → Int} (h : Was w gw N F) (b : Below w.heap.size w w') : Was w' gw N F := by
  obtain ⟨L, h1, h2⟩ := h; exact ⟨L, h1.mono b, h2⟩
theorem Was.keep {w w' : World} {gw N h g : Nat} {F : Nat → Int} (x : Was w gw N F) (k : Keep h g w w') (n1 : gw ≠ h) (n2 : gw ≠ g) : Was w' gw N F := by
  obtain ⟨L, h1, h2⟩ := x; exact ⟨L, k.blk h1 n1 n2, h2⟩
theorem Was.cell {w : World} {gw N : Nat} {F : Nat → Int} (x : Was w gw N F) {k : Nat} (hk : k < N) : w.cell? ⟨gw, k, none⟩ = some (.int .i64 (F k)) := by
  obtain ⟨L, h1, h2, h3⟩ := x
  rw [Blk.cell h1 (i := k) (by omega), ← h3 k hk, List.getElem?_eq_getElem (by omega)]

/-- clocks went nearly alike since a moment -/
def Near (N : Nat) (T : Int) (E : Nat → Int) (T0 : Int) (F : Nat → Int) : Prop :=
  0 ≤ T0 ∧ T0 ≤ T ∧ T ≤ 1099511627776 ∧ ∀ k, k < N → ∃ x, 0 ≤ x ∧ F k = x / 8 ∧ 7 * (T - T0) ≤ E k - x ∧ E k - x ≤ 9 * (T - T0)
theorem Near.pass {N : Nat} {T : Int} {E : Nat → Int} {T0 : Int} {F : Nat → Int} {t : Int} {Z : List Int} (h : Near N T E T0 F) (hok : okP T t N Z = true) (hz : ∀ z ∈ Z, -1 ≤ z ∧ z ≤ 1) : Near N (T + t) (passE E t Z) T0 F := by
  obtain ⟨h1, h2, h3, h4⟩ := h
  obtain ⟨p1, p2, _, _, p5⟩ := okP_parts hok
  refine ⟨h1, by omega, by omega, fun k hk => ?_⟩
  obtain ⟨x, x1, x2, x3, x4⟩ := h4 k hk
  refine ⟨x, x1, x2, ?_⟩
  have hb : -1 ≤ Z.getD k 0 ∧ Z.getD k 0 ≤ 1 := by
    by_cases hk : k < Z.length
    · have hm : Z.getD k 0 ∈ Z := by simp [hk]
      exact hz _ hm
    · have : Z.getD k 0 = 0 := by simp [List.getD_eq_getElem?_getD, List.getElem?_eq_none (show Z.length ≤ k by omega)]
      omega
  unfold passE
  generalize Z.getD k 0 = z at *
  rcases (by omega : z = -1 ∨ z = 0 ∨ z = 1) with rfl | rfl | rfl <;> omega
theorem Near.start {N : Nat} {T : Int} {E : Nat → Int} (h0 : 0 ≤ T ∧ T ≤ 1099511627776) (h : ∀ k, k < N → 0 ≤ E k) : Near N T E T (fun k => E k / 8) :=
  ⟨h0.1, Int.le_refl _, h0.2, fun k hk => ⟨E k, h k hk, rfl, by omega, by omega⟩⟩
theorem Near.at {N : Nat} {T : Int} {E : Nat → Int} {T0 : Int} {F : Nat → Int} (h : Near N T E T0 F) {k : Nat} (hk : k < N) :
    8 * (E k / 8 - F k) < 9 * (T - T0) + 8 ∧ 7 * (T - T0) - 8 < 8 * (E k / 8 - F k) := by
  obtain ⟨h1, h2, h3, h4⟩ := h
  obtain ⟨x, x1, x2, x3, x4⟩ := h4 k hk
  omega

set_option maxHeartbeats 8000000 in
set_option maxRecDepth 100000 in
theorem ClockBound_walk (w : World) (n : Int) (wn : (Lit.int .i64 n).wf = true) (a : Option Addr) (m c : Nat) (f : Nat → PassV) (r : RowP w a c m f) (fr : Int) (wf : (Lit.int .i64 fr).wf = true) :
    Calls Try.prog 5 #[.int .i64 n, .slice a m c, .int .i64 fr] w fun e w' => e = .returned (.bool true) ∧ Below w.heap.size w w' := by
  have hn := i64_bd wn
  have hfr := i64_bd wf
  have hmc : m ≤ 9223372036854775807 := by have h1 := r.1; have h2 := r.2.1; unfold maxLen at h2; omega
  clear wn wf
  go_enter Try.func5, Try.ntmps5
  go_wp2_with fail
  refine (new_any n w).mono ?_
  rintro e w1 (⟨hx, rfl, rfl⟩ | ⟨hr, h, g, rfl, k1, hh, hg, s1, t1, b1⟩)
  · go_wp2_with (go_at_call 9; refine (lives18_any _).mono ?_; rintro e w8 ⟨rfl, b8⟩)
    go_ret
    exact ⟨rfl, b8⟩
  · obtain ⟨N, rfl⟩ := Int.eq_ofNat_of_zero_le (by omega : 0 ≤ n)
    rw [Int.toNat_natCast] at k1
    go_wp2_with fail
    go_loopw [8, 9] (fun v i w2 => ∃ (q : Nat) (a' : Option Addr) (c' : Nat), q ≤ N ∧ i = .int .i64 q ∧ v = .slice a' q c' ∧ Own w2 w1.heap.size 3 1 a' q c' (arr q (fun _ => 0)) ∧ Below w1.heap.size w1 w2) (fun _ i _ => N - (intOf i).toNat)
    case atStart => exact ⟨0, none, 0, by omega, rfl, rfl, Own.nil _ _ _ _, Below.refl _ _⟩
    case round =>
    obtain ⟨q, a', c', hq, rfl, rfl, ho, b2⟩ := hrel
    by_cases hltq : q < N
    · have hlq : decide ((q : Int) < (N : Int)) = true := decide_eq_true (by omega)
      have hlq' : decide (q < N) = true := decide_eq_true hltq
      have HA := hid (arr_succ q (fun _ => 0))
      go_wp2_with (first
        | (at_builtin; refine wpl_append rfl (.tmp 28) (.tmp 29) rfl EIc w1.heap.size rfl rfl (ho.alloc _) (row_new1 _ _ _) (by simp [Value.oneCell']) (by omega) (by omega) (by have := b2.size; simp; omega) ?_; intro a3 c3 w3 o3 g3 b3))
      go_roundw
      case rel => exact ⟨q + 1, a3, c3, by omega, by go_num, rfl, by rw [HA.out]; exact o3, (b2.alloc b2.size _).trans b3⟩
      case measure => simp [intOf]; omega
    · obtain rfl : N = q := by omega
      have hlq : decide ((N : Int) < (N : Int)) = false := decide_eq_false (by omega)
      have hN9 := k1.n9
      obtain ⟨gw, rfl⟩ : ∃ gw, a' = some ⟨gw, 0, none⟩ := by
        obtain ⟨_, ⟨hv, h1⟩ | ⟨g', cap, cur, hv, _⟩⟩ := ho
        · omega
        · cases hv; exact ⟨g', rfl⟩
      obtain ⟨L, hL, hLl, hgb, hLt, hnc, hcm⟩ := Own.blk ho
      have hcap : (c' : Int) ≤ 9223372036854775807 := by unfold maxLen at hcm; omega
      have hwas0 : Was _ gw N (fun _ => 0) := ⟨L, hL, by omega, fun k hk => by
        have e1 : L[k]? = (L.take (N * 1))[k]? := by rw [List.getElem?_take, if_pos (by omega)]
        rw [e1, hLt, List.getElem?_eq_getElem (by rw [arr_length]; exact hk), arr_get N (fun _ => 0) hk]⟩
      have hgwne : h < gw ∧ g < gw := ⟨by omega, by omega⟩
      have k2 := k1.below b2
      have hbr0 := kept_trans b1 b2
      have hnear0 : Near N 0 (fun _ => 0) 0 (fun _ => 0) := ⟨by omega, by omega, by omega, fun k hk => ⟨0, by omega, rfl, by simp, by simp⟩⟩
      clear ho hL hLt hLl b2
      go_wp2_with fail
      go_loopw [10, 11] (fun th i wr => ∃ (j : Nat) (T : Int) (E F : Nat → Int) (T0 : Int), j ≤ m ∧ j ≤ 30 ∧ i = .int .i64 j ∧ th = .int .i64 T0 ∧ Clk wr h g N T E false ∧ Was wr gw N F ∧ Near N T E T0 F ∧ Below w.heap.size w wr) (fun _ i _ => 30 - (intOf i).toNat)
      case atStart => exact ⟨0, _, _, _, _, by omega, by omega, rfl, rfl, k2, hwas0, hnear0, hbr0⟩
      case round =>
      obtain ⟨j, T, E, F, T0, hj, hj30, rfl, rfl, kr, hwas, hinv, hbr⟩ := hrel
      obtain ⟨wo, hwo⟩ : ∃ x, x = wr := ⟨_, rfl⟩
      subst hwo
      by_cases hlt : j < m ∧ j < 30
      case neg =>
        by_cases hjm : j < m
        · have d1 : decide ((j : Int) < (m : Int)) = true := decide_eq_true (by omega)
          have d1' : decide (j < m) = true := decide_eq_true hjm
          have d2 : decide ((j : Int) < 30) = false := decide_eq_false (by omega)
          have hTr := hid (true_any h g N T E false wo kr)
          have hbd := hinv.1
          have hbd2 := hinv.2.1
          have hbd3 := hinv.2.2.1
          have ed : IntKind.i64.wrap (T - T0) = T - T0 := IntWalk.i64_in _ (by omega)
          go_wp2_with (go_at_call 13; refine hTr.out.mono ?_; rintro e w6 ⟨rfl, rfl⟩)
          go_loopw [16] (fun i w2 => ∃ q : Nat, q ≤ N ∧ i = .int .i64 q ∧ Below wo.heap.size wo w2) (fun i _ => N - (intOf i).toNat)
          case atStart => exact ⟨0, by omega, rfl, Below.refl _ _⟩
          case round =>
          obtain ⟨q, hq, rfl, bq⟩ := hrel
          have kq := kr.below bq
          by_cases hltq : q < N
          · have hlq : decide ((q : Int) < (N : Int)) = true := decide_eq_true (by omega)
            have hlq' : decide (q < N) = true := decide_eq_true hltq
            have cq := (hwas.mono bq).cell hltq
            have hna := hinv.at hltq
            have hEq := kr.bd q hltq
            have hFq : 0 ≤ F q ∧ F q ≤ 17592186044416 := by
              obtain ⟨x, x1, x2, x3, x4⟩ := hinv.2.2.2 q hltq
              omega
            have HSh := hid (fun w1 (k1 : Clk w1 h g N T E false) => by
              have hs := show_any h g N T E false (q : Int) w1 k1
              rw [show shown N E (q : Int) = E q / 8 from if_pos ⟨by omega, by omega⟩] at hs
              exact hs)
            have kqN := hid (fun nn => kq.below (bel_drewN (Below.refl _ _) nn))
            have hx0 : 0 ≤ E q / 8 ∧ E q / 8 ≤ 2199023255552 := by omega
            clear hEq
            generalize E q / 8 = x1 at *
            generalize F q = x0 at *
            generalize hdd : T - T0 = dd at *
            have hdb : 0 ≤ dd ∧ dd ≤ 1099511627776 := by omega
            have HDD := hid hdd
            clear hdd
            have e1 : IntKind.i64.wrap (x1 - x0) = x1 - x0 := IntWalk.i64_in _ (by omega)
            have e2 : IntKind.i64.wrap (8 * (x1 - x0)) = 8 * (x1 - x0) := IntWalk.i64_in _ (by omega)
            have e3 : IntKind.i64.wrap (9 * dd) = 9 * dd := IntWalk.i64_in _ (by omega)
            have e4 : IntKind.i64.wrap (9 * dd + 8) = 9 * dd + 8 := IntWalk.i64_in _ (by omega)
            have e5 : IntKind.i64.wrap (7 * dd) = 7 * dd := IntWalk.i64_in _ (by omega)
            have e6 : IntKind.i64.wrap (7 * dd - 8) = 7 * dd - 8 := IntWalk.i64_in _ (by omega)
            have g1 : decide (9 * dd + 8 ≤ 8 * (x1 - x0)) = false := decide_eq_false (by omega)
            have g2 : decide (8 * (x1 - x0) ≤ 7 * dd - 8) = false := decide_eq_false (by omega)
            go_wp2_with fail
            go_quiet (first
              | (go_at_call 15; exact Calls.quiet_of_same (v := .int .i64 x1) ((HSh.out _ (kqN.out _)).mono (fun e w6 hh => ⟨hh.1, hh.2.symm⟩))))
            go_wp2_with fail
            go_roundw
            case rel => exact ⟨q + 1, by omega, by go_num, bel_drewN bq _⟩
            case measure => simp [intOf]; omega
          · have hlq : decide ((q : Int) < (N : Int)) = false := decide_eq_false (by omega)
            have hlq' : decide (q < N) = false := decide_eq_false hltq
            have hK := hid (kept_any h g N T E false _ kq)
            go_wp2_with (first
              | (go_at_call 14; refine hK.out.mono ?_; rintro e w6 ⟨rfl, rfl⟩)
              | (go_at_call 9; refine (lives18_any _).mono ?_; rintro e w8 ⟨rfl, b8⟩))
            go_ret
            exact ⟨rfl, kept_trans (kept_trans hbr bq) b8⟩
        · have d1 : decide ((j : Int) < (m : Int)) = false := decide_eq_false (by omega)
          have d1' : decide (j < m) = false := decide_eq_false hjm
          have hTr := hid (true_any h g N T E false wo kr)
          have hbd := hinv.1
          have hbd2 := hinv.2.1
          have hbd3 := hinv.2.2.1
          have ed : IntKind.i64.wrap (T - T0) = T - T0 := IntWalk.i64_in _ (by omega)
          go_wp2_with (go_at_call 13; refine hTr.out.mono ?_; rintro e w6 ⟨rfl, rfl⟩)
          go_loopw [16] (fun i w2 => ∃ q : Nat, q ≤ N ∧ i = .int .i64 q ∧ Below wo.heap.size wo w2) (fun i _ => N - (intOf i).toNat)
          case atStart => exact ⟨0, by omega, rfl, Below.refl _ _⟩
          case round =>
          obtain ⟨q, hq, rfl, bq⟩ := hrel
          have kq := kr.below bq
          by_cases hltq : q < N
          · have hlq : decide ((q : Int) < (N : Int)) = true := decide_eq_true (by omega)
            have hlq' : decide (q < N) = true := decide_eq_true hltq
            have cq := (hwas.mono bq).cell hltq
            have hna := hinv.at hltq
            have hEq := kr.bd q hltq
            have hFq : 0 ≤ F q ∧ F q ≤ 17592186044416 := by
              obtain ⟨x, x1, x2, x3, x4⟩ := hinv.2.2.2 q hltq
              omega
            have HSh := hid (fun w1 (k1 : Clk w1 h g N T E false) => by
              have hs := show_any h g N T E false (q : Int) w1 k1
              rw [show shown N E (q : Int) = E q / 8 from if_pos ⟨by omega, by omega⟩] at hs
              exact hs)
            have kqN := hid (fun nn => kq.below (bel_drewN (Below.refl _ _) nn))
            have hx0 : 0 ≤ E q / 8 ∧ E q / 8 ≤ 2199023255552 := by omega
            clear hEq
            generalize E q / 8 = x1 at *
            generalize F q = x0 at *
            generalize hdd : T - T0 = dd at *
            have hdb : 0 ≤ dd ∧ dd ≤ 1099511627776 := by omega
            have HDD := hid hdd
            clear hdd
            have e1 : IntKind.i64.wrap (x1 - x0) = x1 - x0 := IntWalk.i64_in _ (by omega)
            have e2 : IntKind.i64.wrap (8 * (x1 - x0)) = 8 * (x1 - x0) := IntWalk.i64_in _ (by omega)
            have e3 : IntKind.i64.wrap (9 * dd) = 9 * dd := IntWalk.i64_in _ (by omega)
            have e4 : IntKind.i64.wrap (9 * dd + 8) = 9 * dd + 8 := IntWalk.i64_in _ (by omega)
            have e5 : IntKind.i64.wrap (7 * dd) = 7 * dd := IntWalk.i64_in _ (by omega)
            have e6 : IntKind.i64.wrap (7 * dd - 8) = 7 * dd - 8 := IntWalk.i64_in _ (by omega)
            have g1 : decide (9 * dd + 8 ≤ 8 * (x1 - x0)) = false := decide_eq_false (by omega)
            have g2 : decide (8 * (x1 - x0) ≤ 7 * dd - 8) = false := decide_eq_false (by omega)
            go_wp2_with fail
            go_quiet (first
              | (go_at_call 15; exact Calls.quiet_of_same (v := .int .i64 x1) ((HSh.out _ (kqN.out _)).mono (fun e w6 hh => ⟨hh.1, hh.2.symm⟩))))
            go_wp2_with fail
            go_roundw
            case rel => exact ⟨q + 1, by omega, by go_num, bel_drewN bq _⟩
            case measure => simp [intOf]; omega
          · have hlq : decide ((q : Int) < (N : Int)) = false := decide_eq_false (by omega)
            have hlq' : decide (q < N) = false := decide_eq_false hltq
            have hK := hid (kept_any h g N T E false _ kq)
            go_wp2_with (first
              | (go_at_call 14; refine hK.out.mono ?_; rintro e w6 ⟨rfl, rfl⟩)
              | (go_at_call 9; refine (lives18_any _).mono ?_; rintro e w8 ⟨rfl, b8⟩))
            go_ret
            exact ⟨rfl, kept_trans (kept_trans hbr bq) b8⟩
      case pos =>
      obtain ⟨hjm, hj30'⟩ := hlt
      have d1 : decide ((j : Int) < (m : Int)) = true := decide_eq_true (by omega)
      have d1' : decide (j < m) = true := decide_eq_true hjm
      have d2 : decide ((j : Int) < 30) = true := decide_eq_true (by omega)
      by_cases hfr : (j : Int) = fr
      · have ef : ((j : Int) == fr) = true := by simp [hfr]
        have HFR := hid hfr
        clear hfr
        go_wp2_with fail
        obtain ⟨L0, l0, l1, l2⟩ := hwas
        go_loopw [12] (fun i w2 => ∃ (q : Nat) (L : List Value), q ≤ N ∧ i = .int .i64 q ∧ Blk w2 gw 3 L ∧ N ≤ L.length ∧ (∀ k, k < q → L[k]? = some (.int .i64 (E k / 8))) ∧ wo.grownBy w2 (some gw)) (fun i _ => N - (intOf i).toNat)
        case atStart => exact ⟨0, L0, by omega, rfl, l0, l1, fun k h => absurd h (by omega), grownC_refl _ _⟩
        case round =>
        obtain ⟨q, L, hq, rfl, kL, hLl, hLq, gr⟩ := hrel
        have kq := kr.keep (Keep.of_grownH (g := gw) gr) (by omega) (by omega) (by omega) (by omega)
        by_cases hltq : q < N
        · have hlq : decide ((q : Int) < (N : Int)) = true := decide_eq_true (by omega)
          have hlq' : decide (q < N) = true := decide_eq_true hltq
          obtain ⟨v0, c0⟩ := Blk.someCell kL (i := q) (by omega)
          have f0 := Blk.frozen kL q
          have hsh := show_any h g N T E false (q : Int) _ kq
          rw [show shown N E (q : Int) = E q / 8 from if_pos ⟨by omega, by omega⟩] at hsh
          have HSh := hid hsh
          have s0 := hid (Blk.set kL q (.int .i64 (E q / 8)))
          have s1 := hid (grownC_set gr q (.int .i64 (E q / 8)))
          have s2 : ∀ k, k < q + 1 → (L.set q (.int .i64 (E q / 8)))[k]? = some (.int .i64 (E k / 8)) := fun k hk => by
            rw [List.getElem?_set]
            by_cases e : q = k
            · subst e; simp [show q < L.length by omega]
            · rw [if_neg e]; exact hLq k (by omega)
          have hs2 := hid s2
          clear hsh s2 hLq kL
          go_wp2_with (go_at_call 15; refine HSh.out.mono ?_; rintro e w6 ⟨rfl, rfl⟩)
          go_roundw
          case rel => exact ⟨q + 1, _, by omega, by go_num, s0.out, by simpa using hLl, hs2.out, s1.out⟩
          case measure => simp [intOf]; omega
        · have hlq : decide ((q : Int) < (N : Int)) = false := decide_eq_false (by omega)
          have hlq' : decide (q < N) = false := decide_eq_false hltq
          have hwas : Was wr gw N (fun k => E k / 8) := ⟨L, kL, hLl, fun k hk => hLq k (by omega)⟩
          have hinvS : Near N T E T (fun k => E k / 8) := Near.start kr.t (fun k hk => (kr.bd k hk).1)
          have hbrS := hbr.grown gr hbr.size (fun k hk => by cases hk; omega)
          clear kr hinv hbr gr kL hLq l0 l2
          obtain ⟨wo, hwo⟩ : ∃ x, x = wr := ⟨_, rfl⟩
          subst hwo
          have kr := kq
          have hinv := hinvS
          have hbr := hbrS
          have hTr := hid (true_any h g N T E false wo kr)
          clear kq hinvS hbrS
          have rr := r.mono hbr
          obtain ⟨_, _, hrc, hrs⟩ := rr
          obtain ⟨bb, off, e2, hbl0, hcc⟩ := hrc (by omega)
          obtain ⟨bb2, off2, e3, hblw, _⟩ := r.2.2.1 (by omega)
          rw [e2] at e3
          cases e3
          obtain ⟨hcA, hcB⟩ := hcc j hjm
          obtain ⟨hS0r, ht⟩ := hrs j hjm
          have HA2 := hid e2
          have hgh := kr.b.lt
          have hgg := kr.e.lt
          have hmI : (m : Int) ≤ 9223372036854775807 := by omega
          clear hcc hrs hrc
          generalize (f j).t = t at *
          generalize (f j).sa = sa at *
          generalize (f j).sc = sc at *
          generalize (f j).S = S at *
          have hSl := rowI_len hS0r
          subst e2
          go_wp2_with (go_at_call 13; refine hTr.out.mono ?_; rintro e w6 ⟨rfl, rfl⟩)
          go_loopw [13, 14] (fun v i w2 => ∃ (q : Nat) (a' : Option Addr) (c' : Nat), q ≤ S.length ∧ q ≤ N ∧ i = .int .i64 q ∧ v = .slice a' q c' ∧ Own w2 wo.heap.size 3 1 a' q c' ((mod2 S q).map iV) ∧ Below wo.heap.size wo w2) (fun _ i _ => N - (intOf i).toNat)
          case atStart => exact ⟨0, none, 0, by omega, by omega, rfl, rfl, Own.nil _ _ _ _, Below.refl _ _⟩
          case round =>
          obtain ⟨q, a', c', hq, hqN, rfl, rfl, ho, b2⟩ := hrel
          have cA := (b2.cell (p := ⟨bb, off + j * 2, none⟩) hbl0).trans hcA
          have cB := (b2.cell (p := ⟨bb, off + j * 2 + 1, none⟩) hbl0).trans hcB
          by_cases hlt : q < S.length ∧ q < N
          · obtain ⟨l1, l2⟩ := hlt
            have dl1 : decide ((q : Int) < (S.length : Int)) = true := decide_eq_true (by omega)
            have dl1' : decide (q < S.length) = true := decide_eq_true l1
            have dl2 : decide ((q : Int) < (N : Int)) = true := decide_eq_true (by omega)
            have dl2' : decide (q < N) = true := decide_eq_true l2
            obtain ⟨ba, oa, rfl, hba, hca⟩ := rowI_cells (hS0r.mono b2) (by omega)
            have cs := hca q l1
            have hst := mod2_succ l1
            have hbd := tmod2_bd (S.getD q 0)
            have ew : IntKind.i64.wrap ((S.getD q 0).tmod 2) = (S.getD q 0).tmod 2 := IntWalk.i64_in _ (by omega)
            have HST := hid hst
            clear hca hst
            generalize S.getD q 0 = s at *
            generalize hz0 : s.tmod 2 = z at *
            have HZ := hid hz0
            clear hz0
            go_wp2_with (first
              | (at_builtin; refine wpl_append rfl (.tmp 72) (.tmp 82) rfl EIc wo.heap.size rfl rfl (ho.alloc _) (row_new1 _ _ _) (by simp [Value.oneCell']) (by omega) (by omega) (by have := b2.size; simp; omega) ?_; intro a3 c3 w3 o3 g3 b3))
            go_roundw
            case rel => exact ⟨q + 1, a3, c3, by omega, by omega, by go_num, rfl, by rw [HST.out, List.map_append]; rw [HZ.out] at o3; exact o3, (b2.alloc b2.size _).trans b3⟩
            case measure => simp [intOf]; omega
          · have hz := mod2_len (S := S) hq
            have hzb := mod2_bd S q
            have hrow : RowI wr a' c' (mod2 S q) := by
              have := ho.row
              unfold RowI; rw [hz]; exact this
            have hap : Apart a' (mod2 S q).length h g := fun hn b off e => by
              subst e
              obtain ⟨_, _, _, hge, _⟩ := own_ge ho (by omega)
              omega
            have k2 := kr.below b2
            have hbr2 := kept_trans hbr b2
            have hwas2 := hwas.mono b2
            have hzN : (mod2 S q).length ≤ N := by omega
            have hex : ¬ (q < S.length) ∨ (q < S.length ∧ ¬ q < N) := by omega
            have hgwn := hgwne
            generalize mod2 S q = Z at *
            clear ho hlt hS0r hcA hcB


            rcases hex with hx1 | ⟨hx1, hx2⟩
            · have dl1 : decide ((q : Int) < (S.length : Int)) = false := decide_eq_false (by omega)
              have dl1' : decide (q < S.length) = false := decide_eq_false hx1
              cases hok : okP T t N Z
              · go_wp2_with (go_at_call 10; have hps := pass_no h g N T E false t a' c' Z _ k2 hrow ht hok; rw [hz] at hps; refine hps.mono ?_; clear hps; rintro e w5 ⟨rfl, b5⟩)
                go_roundw
                case rel => exact ⟨j + 1, T, E, (fun k => E k / 8), T, by omega, by omega, by go_num, rfl, k2.below b5, hwas2.mono b5, hinv, kept_trans hbr2 b5⟩
                case measure => simp [intOf]; omega
              · have hl := any_mod2 hzb
                go_wp2_with (go_at_call 10; have hps := pass_ok h g N T E false t a' c' Z _ k2 hrow hap hok; rw [hz] at hps; refine hps.mono ?_; clear hps; rintro e w5 ⟨rfl, k5, q5⟩)
                rw [hl, Bool.or_false] at k5
                go_roundw
                case rel => exact ⟨j + 1, T + t, passE E t Z, (fun k => E k / 8), T, by omega, by omega, by go_num, rfl, k5, hwas2.keep q5 (by omega) (by omega), hinv.pass hok hzb, q5.below hbr2 hh hg hbr2.size⟩
                case measure => simp [intOf]; omega
            · have dl1 : decide ((q : Int) < (S.length : Int)) = true := decide_eq_true (by omega)
              have dl1' : decide (q < S.length) = true := decide_eq_true hx1
              have dl2 : decide ((q : Int) < (N : Int)) = false := decide_eq_false (by omega)
              have dl2' : decide (q < N) = false := decide_eq_false hx2
              cases hok : okP T t N Z
              · go_wp2_with (go_at_call 10; have hps := pass_no h g N T E false t a' c' Z _ k2 hrow ht hok; rw [hz] at hps; refine hps.mono ?_; clear hps; rintro e w5 ⟨rfl, b5⟩)
                go_roundw
                case rel => exact ⟨j + 1, T, E, (fun k => E k / 8), T, by omega, by omega, by go_num, rfl, k2.below b5, hwas2.mono b5, hinv, kept_trans hbr2 b5⟩
                case measure => simp [intOf]; omega
              · have hl := any_mod2 hzb
                go_wp2_with (go_at_call 10; have hps := pass_ok h g N T E false t a' c' Z _ k2 hrow hap hok; rw [hz] at hps; refine hps.mono ?_; clear hps; rintro e w5 ⟨rfl, k5, q5⟩)
                rw [hl, Bool.or_false] at k5
                go_roundw
                case rel => exact ⟨j + 1, T + t, passE E t Z, (fun k => E k / 8), T, by omega, by omega, by go_num, rfl, k5, hwas2.keep q5 (by omega) (by omega), hinv.pass hok hzb, q5.below hbr2 hh hg hbr2.size⟩
                case measure => simp [intOf]; omega
      · have ef : ((j : Int) == fr) = false := by simp [hfr]
        have HFR := hid hfr
        clear hfr
        go_wp2_with fail
        have rr := r.mono hbr
        obtain ⟨_, _, hrc, hrs⟩ := rr
        obtain ⟨bb, off, e2, hbl0, hcc⟩ := hrc (by omega)
        obtain ⟨bb2, off2, e3, hblw, _⟩ := r.2.2.1 (by omega)
        rw [e2] at e3
        cases e3
        obtain ⟨hcA, hcB⟩ := hcc j hjm
        obtain ⟨hS0r, ht⟩ := hrs j hjm
        have HA2 := hid e2
        have hgh := kr.b.lt
        have hgg := kr.e.lt
        have hmI : (m : Int) ≤ 9223372036854775807 := by omega
        clear hcc hrs hrc
        generalize (f j).t = t at *
        generalize (f j).sa = sa at *
        generalize (f j).sc = sc at *
        generalize (f j).S = S at *
        have hSl := rowI_len hS0r
        subst e2
        go_wp2_with fail
        go_loopw [13, 14] (fun v i w2 => ∃ (q : Nat) (a' : Option Addr) (c' : Nat), q ≤ S.length ∧ q ≤ N ∧ i = .int .i64 q ∧ v = .slice a' q c' ∧ Own w2 wo.heap.size 3 1 a' q c' ((mod2 S q).map iV) ∧ Below wo.heap.size wo w2) (fun _ i _ => N - (intOf i).toNat)
        case atStart => exact ⟨0, none, 0, by omega, by omega, rfl, rfl, Own.nil _ _ _ _, Below.refl _ _⟩
        case round =>
        obtain ⟨q, a', c', hq, hqN, rfl, rfl, ho, b2⟩ := hrel
        have cA := (b2.cell (p := ⟨bb, off + j * 2, none⟩) hbl0).trans hcA
        have cB := (b2.cell (p := ⟨bb, off + j * 2 + 1, none⟩) hbl0).trans hcB
        by_cases hlt : q < S.length ∧ q < N
        · obtain ⟨l1, l2⟩ := hlt
          have dl1 : decide ((q : Int) < (S.length : Int)) = true := decide_eq_true (by omega)
          have dl1' : decide (q < S.length) = true := decide_eq_true l1
          have dl2 : decide ((q : Int) < (N : Int)) = true := decide_eq_true (by omega)
          have dl2' : decide (q < N) = true := decide_eq_true l2
          obtain ⟨ba, oa, rfl, hba, hca⟩ := rowI_cells (hS0r.mono b2) (by omega)
          have cs := hca q l1
          have hst := mod2_succ l1
          have hbd := tmod2_bd (S.getD q 0)
          have ew : IntKind.i64.wrap ((S.getD q 0).tmod 2) = (S.getD q 0).tmod 2 := IntWalk.i64_in _ (by omega)
          have HST := hid hst
          clear hca hst
          generalize S.getD q 0 = s at *
          generalize hz0 : s.tmod 2 = z at *
          have HZ := hid hz0
          clear hz0
          go_wp2_with (first
            | (at_builtin; refine wpl_append rfl (.tmp 72) (.tmp 82) rfl EIc wo.heap.size rfl rfl (ho.alloc _) (row_new1 _ _ _) (by simp [Value.oneCell']) (by omega) (by omega) (by have := b2.size; simp; omega) ?_; intro a3 c3 w3 o3 g3 b3))
          go_roundw
          case rel => exact ⟨q + 1, a3, c3, by omega, by omega, by go_num, rfl, by rw [HST.out, List.map_append]; rw [HZ.out] at o3; exact o3, (b2.alloc b2.size _).trans b3⟩
          case measure => simp [intOf]; omega
        · have hz := mod2_len (S := S) hq
          have hzb := mod2_bd S q
          have hrow : RowI wr a' c' (mod2 S q) := by
            have := ho.row
            unfold RowI; rw [hz]; exact this
          have hap : Apart a' (mod2 S q).length h g := fun hn b off e => by
            subst e
            obtain ⟨_, _, _, hge, _⟩ := own_ge ho (by omega)
            omega
          have k2 := kr.below b2
          have hbr2 := kept_trans hbr b2
          have hwas2 := hwas.mono b2
          have hzN : (mod2 S q).length ≤ N := by omega
          have hex : ¬ (q < S.length) ∨ (q < S.length ∧ ¬ q < N) := by omega
          have hgwn := hgwne
          generalize mod2 S q = Z at *
          clear ho hlt hS0r hcA hcB


          rcases hex with hx1 | ⟨hx1, hx2⟩
          · have dl1 : decide ((q : Int) < (S.length : Int)) = false := decide_eq_false (by omega)
            have dl1' : decide (q < S.length) = false := decide_eq_false hx1
            cases hok : okP T t N Z
            · go_wp2_with (go_at_call 10; have hps := pass_no h g N T E false t a' c' Z _ k2 hrow ht hok; rw [hz] at hps; refine hps.mono ?_; clear hps; rintro e w5 ⟨rfl, b5⟩)
              go_roundw
              case rel => exact ⟨j + 1, T, E, F, T0, by omega, by omega, by go_num, rfl, k2.below b5, hwas2.mono b5, hinv, kept_trans hbr2 b5⟩
              case measure => simp [intOf]; omega
            · have hl := any_mod2 hzb
              go_wp2_with (go_at_call 10; have hps := pass_ok h g N T E false t a' c' Z _ k2 hrow hap hok; rw [hz] at hps; refine hps.mono ?_; clear hps; rintro e w5 ⟨rfl, k5, q5⟩)
              rw [hl, Bool.or_false] at k5
              go_roundw
              case rel => exact ⟨j + 1, T + t, passE E t Z, F, T0, by omega, by omega, by go_num, rfl, k5, hwas2.keep q5 (by omega) (by omega), hinv.pass hok hzb, q5.below hbr2 hh hg hbr2.size⟩
              case measure => simp [intOf]; omega
          · have dl1 : decide ((q : Int) < (S.length : Int)) = true := decide_eq_true (by omega)
            have dl1' : decide (q < S.length) = true := decide_eq_true hx1
            have dl2 : decide ((q : Int) < (N : Int)) = false := decide_eq_false (by omega)
            have dl2' : decide (q < N) = false := decide_eq_false hx2
            cases hok : okP T t N Z
            · go_wp2_with (go_at_call 10; have hps := pass_no h g N T E false t a' c' Z _ k2 hrow ht hok; rw [hz] at hps; refine hps.mono ?_; clear hps; rintro e w5 ⟨rfl, b5⟩)
              go_roundw
              case rel => exact ⟨j + 1, T, E, F, T0, by omega, by omega, by go_num, rfl, k2.below b5, hwas2.mono b5, hinv, kept_trans hbr2 b5⟩
              case measure => simp [intOf]; omega
            · have hl := any_mod2 hzb
              go_wp2_with (go_at_call 10; have hps := pass_ok h g N T E false t a' c' Z _ k2 hrow hap hok; rw [hz] at hps; refine hps.mono ?_; clear hps; rintro e w5 ⟨rfl, k5, q5⟩)
              rw [hl, Bool.or_false] at k5
              go_roundw
              case rel => exact ⟨j + 1, T + t, passE E t Z, F, T0, by omega, by omega, by go_num, rfl, k5, hwas2.keep q5 (by omega) (by omega), hinv.pass hok hzb, q5.below hbr2 hh hg hbr2.size⟩
              case measure => simp [intOf]; omega

end Go.Proofs.Ytpiebklgpehafaa
