import Derived.Test.YtpiebklgpehafaaClockG
import Derived.Test.YtpiebklgpehafaaLibR
namespace Go.Proofs.Ytpiebklgpehafaa
open Go.RowKit Go.WideShapes
set_option linter.unusedSimpArgs false
set_option linter.unusedVariables false

theorem arr_succ (n : Nat) (F : Nat → Int) : arr (n + 1) F = arr n F ++ [.int .i64 (F n)] := by simp [arr, List.range_succ]
theorem EIc : ElemT Try.prog 30 3 1 8 := elemT Try.underlying30 (z := .int .i64 0) (by kernel_rfl) rfl (by omega)
theorem Clk.drewC {w : World} {h g n : Nat} {T : Int} {E : Nat → Int} {l : Bool} (k : Clk w h g n T E l) : Clk w.drew h g n T E l := k.below (Below.refl _ _).drew
theorem okP_parts {T t : Int} {n : Nat} {S : List Int} (hok : okP T t n S = true) : 1 ≤ t ∧ t ≤ 64 ∧ S.length ≤ n ∧ (∀ s ∈ S, -8 ≤ s ∧ s ≤ 8) ∧ T + t ≤ 1099511627776 := by
  unfold okP at hok
  simp only [Bool.and_eq_true, decide_eq_true_eq, Bool.not_eq_true'] at hok
  obtain ⟨⟨⟨h1, h2, h3⟩, h4⟩, h6⟩ := hok
  refine ⟨h1, h2, h3, fun s hs => ?_, h6⟩
  have := List.any_eq_false.1 h4 s hs
  simp [byB] at this; omega
theorem passE_ge {T t : Int} {n : Nat} {S : List Int} (hok : okP T t n S = true) {k : Nat} (hk : k < n) {E : Nat → Int} : E k ≤ passE E t S k := by
  obtain ⟨h1, h2, _, h4, _⟩ := okP_parts hok
  unfold passE
  by_cases h : k < S.length
  · have hm : S.getD k 0 ∈ S := by simp [h]
    have q2 := h4 _ hm
    have q3 := mul_bd h1 h2 q2.1 q2.2
    omega
  · have : S.getD k 0 = 0 := by simp [List.getD_eq_getElem?_getD, List.getElem?_eq_none (show S.length ≤ k by omega)]
    rw [this]; omega

set_option maxHeartbeats 4000000 in
set_option maxRecDepth 100000 in
theorem ClockRises_walk (w : World) (n : Int) (wn : (Lit.int .i64 n).wf = true) (a : Option Addr) (m c : Nat) (f : Nat → PassV) (r : RowP w a c m f) :
    Calls Try.prog 4 #[.int .i64 n, .slice a m c] w fun e w' => e = .returned (.bool true) ∧ Below w.heap.size w w' := by
  have hn := i64_bd wn
  have hmc : m ≤ 9223372036854775807 := by have h1 := r.1; have h2 := r.2.1; unfold maxLen at h2; omega
  clear wn
  go_enter Try.func4, Try.ntmps4
  go_wp2_with fail
  refine (new_any n w).mono ?_
  rintro e w1 (⟨hx, rfl, rfl⟩ | ⟨hr, h, g, rfl, k1, hh, hg, s1, t1, b1⟩)
  · by_cases hlt : n < 1
    · have d1 : decide (n < 1) = true := decide_eq_true hlt
      go_wp2_with (go_at_call 9; refine (lives18_any _).mono ?_; rintro e w8 ⟨rfl, b8⟩)
      go_ret
      exact ⟨rfl, b8⟩
    · have d1 : decide (n < 1) = false := decide_eq_false hlt
      have d2 : decide (9 < n) = true := decide_eq_true (by omega)
      go_wp2_with (go_at_call 9; refine (lives18_any _).mono ?_; rintro e w8 ⟨rfl, b8⟩)
      go_ret
      exact ⟨rfl, b8⟩
  · obtain ⟨N, rfl⟩ := Int.eq_ofNat_of_zero_le (by omega : 0 ≤ n)
    rw [Int.toNat_natCast] at k1
    go_wp2_with fail
    go_loopw [6] (fun i wr => ∃ (j : Nat) (T : Int) (E : Nat → Int) (l : Bool), j ≤ m ∧ j ≤ 30 ∧ i = .int .i64 j ∧ Clk wr h g N T E l ∧ Below w.heap.size w wr) (fun i _ => 30 - (intOf i).toNat)
    case atStart => exact ⟨0, _, _, _, by omega, by omega, rfl, k1, b1⟩
    case round =>
      obtain ⟨j, T, E, l, hj, hj30, rfl, kr, hbr⟩ := hrel
      obtain ⟨wo, hwo⟩ : ∃ x, x = wr := ⟨_, rfl⟩
      subst hwo
      by_cases hlt : j < m ∧ j < 30
      case neg =>
        by_cases hjm : j < m
        · have d1 : decide ((j : Int) < (m : Int)) = true := decide_eq_true (by omega)
          have d1' : decide (j < m) = true := decide_eq_true hjm
          have d2 : decide ((j : Int) < 30) = false := decide_eq_false (by omega)
          go_wp2_with (go_at_call 9; refine (lives18_any _).mono ?_; rintro e w8 ⟨rfl, b8⟩)
          go_ret
          exact ⟨rfl, kept_trans hbr b8⟩
        · have d1 : decide ((j : Int) < (m : Int)) = false := decide_eq_false (by omega)
          have d1' : decide (j < m) = false := decide_eq_false hjm
          go_wp2_with (go_at_call 9; refine (lives18_any _).mono ?_; rintro e w8 ⟨rfl, b8⟩)
          go_ret
          exact ⟨rfl, kept_trans hbr b8⟩
      case pos =>
      obtain ⟨hjm, hj30'⟩ := hlt
      have d1 : decide ((j : Int) < (m : Int)) = true := decide_eq_true (by omega)
      have d1' : decide (j < m) = true := decide_eq_true hjm
      have d2 : decide ((j : Int) < 30) = true := decide_eq_true (by omega)
      have hN9 := kr.n9
      go_wp2_with fail
      go_loopw [7, 8] (fun v i w2 => ∃ (q : Nat) (a' : Option Addr) (c' : Nat), q ≤ N ∧ i = .int .i64 q ∧ v = .slice a' q c' ∧ Own w2 wo.heap.size 3 1 a' q c' (arr q (fun i => E i / 8)) ∧ Below wo.heap.size wo w2) (fun _ i _ => N - (intOf i).toNat)
      case atStart => exact ⟨0, none, 0, by omega, rfl, rfl, Own.nil _ _ _ _, Below.refl _ _⟩
      case round =>
      obtain ⟨q, a', c', hq, rfl, rfl, ho, b2⟩ := hrel
      by_cases hltq : q < N
      · have hlq : decide ((q : Int) < (N : Int)) = true := decide_eq_true (by omega)
        have hlq' : decide (q < N) = true := decide_eq_true hltq
        have hsh := show_any h g N T E l (q : Int) _ (kr.below b2)
        rw [show shown N E (q : Int) = E q / 8 from if_pos ⟨by omega, by omega⟩] at hsh
        have HSh := hid hsh
        have HA := hid (arr_succ q (fun i => E i / 8))
        clear hsh
        go_wp2_with (first
          | (go_at_call 15; refine HSh.out.mono ?_; rintro e w6 ⟨rfl, rfl⟩)
          | (at_builtin; refine wpl_append rfl (.tmp 40) (.tmp 44) rfl EIc wo.heap.size rfl rfl (ho.alloc _) (row_new1 _ _ _) (by simp [Value.oneCell']) (by omega) (by omega) (by have := b2.size; simp; omega) ?_; intro a3 c3 w3 o3 g3 b3))
        go_roundw
        case rel => exact ⟨q + 1, a3, c3, by omega, by go_num, rfl, by rw [HA.out]; exact o3, (b2.alloc b2.size _).trans b3⟩
        case measure => simp [intOf]; omega
      · obtain rfl : N = q := by omega
        have hlq : decide ((N : Int) < (N : Int)) = false := decide_eq_false (by omega)
        obtain ⟨gw, rfl⟩ : ∃ gw, a' = some ⟨gw, 0, none⟩ := by
          obtain ⟨_, ⟨hv, h1⟩ | ⟨g', cap, cur, hv, _⟩⟩ := ho
          · omega
          · cases hv; exact ⟨g', rfl⟩
        obtain ⟨L, hL, hLl, hgb, hLt, hnc, _⟩ := Own.blk ho
        have hgw0 : gw < wr.heap.size := hL.lt
        have cwas0 : ∀ k, k < N → wr.cell? ⟨gw, k, none⟩ = some (.int .i64 (E k / 8)) := fun k hk => by
          have hkl : k < L.length := by rw [hLl]; omega
          rw [Blk.cell hL (i := k) hkl]
          have e1 : L[k]? = (L.take (N * 1))[k]? := by rw [List.getElem?_take, if_pos (by omega)]
          rw [hLt] at e1
          rw [List.getElem?_eq_getElem hkl] at e1
          rw [e1, List.getElem?_eq_getElem (by rw [arr_length]; exact hk), arr_get N (fun i => E i / 8) hk]
        have hbr2 := kept_trans hbr b2
        have k2 := Clk.drewC (kr.below b2)
        have rr := r.mono hbr2
        obtain ⟨_, _, hrc, hrs⟩ := rr
        obtain ⟨bb, off, rfl, hbl0, hcc⟩ := hrc (by omega)
        obtain ⟨hcA, hcB⟩ := hcc j hjm
        obtain ⟨hS0r, ht⟩ := hrs j hjm
        obtain ⟨bb2, off2, e2, hblw, _⟩ := r.2.2.1 (by omega)
        cases e2
        have hapw : Apart (f j).sa ((f j).S.take 12).length h g := by
          have := apart_of (w := w) (rowI_take (r.2.2.2 j hjm).1 12) hh hg
          exact this
        have HTrue := hid (true_any h g N T E l wr (kr.below b2))
        clear hcc hrs hrc hL hLt hLl
        generalize (f j).t = t at *
        generalize (f j).sa = sa at *
        generalize (f j).sc = sc at *
        generalize (f j).S = S at *
        have HFew := hid (fun (w9 : World) (hS : RowI w9 sa sc S) => few_any sa sc S w9 hS)
        go_wp2_with (first
          | (go_at_call 13; refine HTrue.out.mono ?_; rintro e w6 ⟨rfl, rfl⟩))
        have hS0 : wr.drew.cell? ⟨bb, off + j * 2, none⟩ = some (.int .i64 t) ∧ wr.drew.cell? ⟨bb, off + j * 2 + 1, none⟩ = some (.slice sa S.length sc) := ⟨hcA, hcB⟩
        have hS1 : RowI wr.drew sa sc S := Row.drew hS0r
        have hS2 : RowI wr.drew sa sc (S.take 12) := rowI_take hS1 12
        have hap := hapw
        have hbl : bb < wr.drew.heap.size := hbl0
        have hgw : gw < wr.drew.heap.size := hgw0
        have hbh : bb ≠ h := by omega
        have hbg : bb ≠ g := by omega
        have hgh := kr.b.lt
        have hgg := kr.e.lt
        have hmI : (m : Int) ≤ 9223372036854775807 := by omega
        have hjI : (j : Int) < (m : Int) := by omega
        generalize S.take 12 = Z at *
        cases hok : okP T t N Z
        · skip
          refine wp_region_held_drew (S := fun w' => w'.cell? ⟨bb, off + j * 2, none⟩ = some (.int .i64 t) ∧ w'.cell? ⟨bb, off + j * 2 + 1, none⟩ = some (.slice sa S.length sc)) (by kernel_rfl) hS0 (fun hS_0 => ?_)
          refine takeR (i := 0) (v := .pointer (some ⟨h, 0, none⟩)) rfl rfl (by kernel_rfl) (by kernel_rfl) (by kernel_rfl) (fun _ _ _ h => h) (Or.inl ⟨Eq.refl true, fun w1 hSw => ?_⟩) hS_0 ?_
          · first | rfl | (clear hSw; go_simp; done) | (clear hSw; go_simp; rfl)
          (try simp only [Act.put, List.setIfInBounds_toArray, List.set_cons_zero, List.set_cons_succ])
          refine takeR (i := 1) (v := .slice (some ⟨bb, off, none⟩) m c) rfl rfl (by kernel_rfl) (by kernel_rfl) (by kernel_rfl) (fun _ _ _ h => h) (Or.inl ⟨Eq.refl true, fun w1 hSw => ?_⟩) hS_0 ?_
          · first | rfl | (clear hSw; go_simp; done) | (clear hSw; go_simp; rfl)
          (try simp only [Act.put, List.setIfInBounds_toArray, List.set_cons_zero, List.set_cons_succ])
          refine takeR (i := 2) (v := .int .i64 j) rfl rfl (by kernel_rfl) (by kernel_rfl) (by kernel_rfl) (fun _ _ _ h => h) (Or.inl ⟨Eq.refl true, fun w1 hSw => ?_⟩) hS_0 ?_
          · first | rfl | (clear hSw; go_simp; done) | (clear hSw; go_simp; rfl)
          (try simp only [Act.put, List.setIfInBounds_toArray, List.set_cons_zero, List.set_cons_succ])
          refine takeR (i := 3) (v := .pointer (some ⟨bb, off + j * 2, none⟩)) rfl rfl (by kernel_rfl) (by kernel_rfl) (by kernel_rfl) (fun _ _ _ h => h) (Or.inl ⟨Eq.refl true, fun w1 hSw => ?_⟩) hS_0 ?_
          · first | rfl | (clear hSw; go_simp; done) | (clear hSw; go_simp; rfl)
          (try simp only [Act.put, List.setIfInBounds_toArray, List.set_cons_zero, List.set_cons_succ])
          refine takeR (i := 4) (v := .pointer (some ⟨bb, off + j * 2, none⟩)) rfl rfl (by kernel_rfl) (by kernel_rfl) (by kernel_rfl) (fun _ _ _ h => h) (Or.inl ⟨Eq.refl true, fun w1 hSw => ?_⟩) hS_0 ?_
          · first | rfl | (clear hSw; go_simp; done) | (clear hSw; go_simp; rfl)
          (try simp only [Act.put, List.setIfInBounds_toArray, List.set_cons_zero, List.set_cons_succ])
          refine takeR (i := 5) (v := .int .i64 t) rfl rfl (by kernel_rfl) (by kernel_rfl) (by kernel_rfl) (fun _ _ _ h => h) (Or.inl ⟨Eq.refl true, fun w1 hSw => ?_⟩) hS_0 ?_
          · (obtain ⟨q1, q2⟩ := hSw; go_simp; try rfl)
          (try simp only [Act.put, List.setIfInBounds_toArray, List.set_cons_zero, List.set_cons_succ])
          refine takeR (i := 6) (v := .slice (some ⟨bb, off, none⟩) m c) rfl rfl (by kernel_rfl) (by kernel_rfl) (by kernel_rfl) (fun _ _ _ h => h) (Or.inl ⟨Eq.refl true, fun w1 hSw => ?_⟩) hS_0 ?_
          · first | rfl | (clear hSw; go_simp; done) | (clear hSw; go_simp; rfl)
          (try simp only [Act.put, List.setIfInBounds_toArray, List.set_cons_zero, List.set_cons_succ])
          refine takeR (i := 7) (v := .int .i64 j) rfl rfl (by kernel_rfl) (by kernel_rfl) (by kernel_rfl) (fun _ _ _ h => h) (Or.inl ⟨Eq.refl true, fun w1 hSw => ?_⟩) hS_0 ?_
          · first | rfl | (clear hSw; go_simp; done) | (clear hSw; go_simp; rfl)
          (try simp only [Act.put, List.setIfInBounds_toArray, List.set_cons_zero, List.set_cons_succ])
          refine takeR (i := 8) (v := .pointer (some ⟨bb, off + j * 2, none⟩)) rfl rfl (by kernel_rfl) (by kernel_rfl) (by kernel_rfl) (fun _ _ _ h => h) (Or.inl ⟨Eq.refl true, fun w1 hSw => ?_⟩) hS_0 ?_
          · first | rfl | (clear hSw; go_simp; done) | (clear hSw; go_simp; rfl)
          (try simp only [Act.put, List.setIfInBounds_toArray, List.set_cons_zero, List.set_cons_succ])
          refine takeR (i := 9) (v := .pointer (some ⟨bb, off + j * 2 + 1, none⟩)) rfl rfl (by kernel_rfl) (by kernel_rfl) (by kernel_rfl) (fun _ _ _ h => h) (Or.inl ⟨Eq.refl true, fun w1 hSw => ?_⟩) hS_0 ?_
          · first | rfl | (clear hSw; go_simp; done) | (clear hSw; go_simp; rfl)
          (try simp only [Act.put, List.setIfInBounds_toArray, List.set_cons_zero, List.set_cons_succ])
          refine takeR (i := 10) (v := .slice sa S.length sc) rfl rfl (by kernel_rfl) (by kernel_rfl) (by kernel_rfl) (fun _ _ _ h => h) (Or.inl ⟨Eq.refl true, fun w1 hSw => ?_⟩) hS_0 ?_
          · (obtain ⟨q1, q2⟩ := hSw; go_simp; try rfl)
          (try simp only [Act.put, List.setIfInBounds_toArray, List.set_cons_zero, List.set_cons_succ])
          refine wpAnyH_ready (rs := [11]) (by kernel_rfl) (by simp) (AllReadyH.cons rfl (fun K hK => ?_) AllReadyH.nil)
          go_simp
          go_wp2_with (go_at_call 11; refine (HFew.out _ hS1).mono ?_; rintro e w4 ⟨rfl, rfl⟩)
          refine hK.out _ _ ?_ (fun hS_1 => ?_)
          · exact hS_0
          clear hK K
          refine wpAnyH_ready (rs := [12]) (by kernel_rfl) (by simp) (AllReadyH.cons rfl (fun K hK => ?_) AllReadyH.nil)
          go_simp
          go_wp2_with (go_at_call 10; refine (pass_no h g N T E l t sa sc Z _ k2 hS2 ht hok).mono ?_; rintro e w5 ⟨rfl, b5⟩)
          refine hK.out _ _ ?_ (fun hS_2 => ?_)
          · exact ⟨(b5.cell (p := ⟨bb, off + j * 2, none⟩) hbl).trans hS_1.1, (b5.cell (p := ⟨bb, off + j * 2 + 1, none⟩) hbl).trans hS_1.2⟩
          clear hK K
          refine takeR (i := 13) (v := .int .i64 1) rfl rfl (by kernel_rfl) (by kernel_rfl) (by kernel_rfl) (fun _ _ _ h => h) (Or.inl ⟨Eq.refl true, fun w1 hSw => ?_⟩) hS_2 ?_
          · first | rfl | (clear hSw; go_simp; done) | (clear hSw; go_simp; rfl)
          (try simp only [Act.put, List.setIfInBounds_toArray, List.set_cons_zero, List.set_cons_succ])
          refine wpAnyH_done (by kernel_rfl) ?_ _
          go_wp2_with fail
          have k5 := k2.below b5
          have cw : ∀ k, k < N → w5.cell? ⟨gw, k, none⟩ = some (.int .i64 (E k / 8)) := fun k hk => (b5.cell (p := ⟨gw, k, none⟩) hgw).trans (cwas0 k hk)
          have hb5 : Below w.heap.size w w5 := kept_trans hbr2.drew b5
          have hmono : ∀ k, k < N → E k / 8 ≤ E k / 8 := fun k _ => Int.le_refl _
          have HS5 := hid hS_2
          have HCW := hid cw
          have HMo := hid hmono
          clear hS_0 hS_1 hS_2 cw hmono cwas0
          go_loopw [11] (fun i wr => ∃ q : Nat, q ≤ N ∧ i = .int .i64 q ∧ Below w5.heap.size w5 wr ∧ (∀ p v, w5.cell? p = some v → wr.cell? p = some v)) (fun i _ => N - (intOf i).toNat)
          case atStart => exact ⟨0, by omega, rfl, Below.refl _ _, fun _ _ h => h⟩
          case round =>
            obtain ⟨q, hq, rfl, bq, hkq⟩ := hrel
            have kq := k5.below bq
            by_cases hltq : q < N
            · have cq := hkq _ _ (HCW.out q hltq)
              have hle := HMo.out q hltq
              have hlq : decide ((q : Int) < (N : Int)) = true := decide_eq_true (by omega)
              have hlq' : decide (q < N) = true := decide_eq_true hltq
              have HSh := hid (fun w1 (k1 : Clk w1 h g N T E l) => show_any h g N T E l (q : Int) w1 k1)
              have hsv : shown N E (q : Int) = E q / 8 := if_pos ⟨by omega, by omega⟩
              have HK := hid hkq
              clear hkq
              rw [hsv] at HSh
              have kqN := hid (fun nn => kq.below (bel_drewN (Below.refl _ _) nn))
              skip
              generalize E q / 8 = x0 at *
              skip
              go_wp2_with fail
              go_quiet (first
                | (go_at_call 15; exact Calls.quiet_of_same (v := .int .i64 x0) ((HSh.out _ (kqN.out _)).mono (fun e w6 hh => ⟨hh.1, hh.2.symm⟩))))
              go_wp2_with fail
              go_roundw
              case rel => exact ⟨q + 1, by omega, by go_num, bel_drewN bq _, HK.out⟩
              case measure => simp [intOf]; omega
            · have hlq : decide ((q : Int) < (N : Int)) = false := decide_eq_false (by omega)
              have hlq' : decide (q < N) = false := decide_eq_false hltq
              have HTr := hid (fun w1 (k1 : Clk w1 h g N T E l) => true_any h g N T E l w1 k1)
              have kqN := hid (fun nn => kq.below (bel_drewN (Below.refl _ _) nn))
              have ct := hkq _ _ HS5.out.1
              have hbw5 := kept_trans hb5 bq
              skip
              clear hkq HCW HMo
              go_wp2_with fail
              go_quiet (first
                | (go_at_call 13; exact Calls.quiet_of_same (v := .int .i64 T) ((HTr.out _ (kqN.out _)).mono (fun e w6 hh => ⟨hh.1, hh.2.symm⟩))))
              go_wp2_with fail
              go_roundw
              case rel => exact ⟨j + 1, _, _, _, by omega, by omega, by go_num, kqN.out _, bel_drewN hbw5 _⟩
              case measure => simp [intOf]; omega
        · skip
          refine wp_region_held_drew (S := fun w' => w'.cell? ⟨bb, off + j * 2, none⟩ = some (.int .i64 t) ∧ w'.cell? ⟨bb, off + j * 2 + 1, none⟩ = some (.slice sa S.length sc)) (by kernel_rfl) hS0 (fun hS_0 => ?_)
          refine takeR (i := 0) (v := .pointer (some ⟨h, 0, none⟩)) rfl rfl (by kernel_rfl) (by kernel_rfl) (by kernel_rfl) (fun _ _ _ h => h) (Or.inl ⟨Eq.refl true, fun w1 hSw => ?_⟩) hS_0 ?_
          · first | rfl | (clear hSw; go_simp; done) | (clear hSw; go_simp; rfl)
          (try simp only [Act.put, List.setIfInBounds_toArray, List.set_cons_zero, List.set_cons_succ])
          refine takeR (i := 1) (v := .slice (some ⟨bb, off, none⟩) m c) rfl rfl (by kernel_rfl) (by kernel_rfl) (by kernel_rfl) (fun _ _ _ h => h) (Or.inl ⟨Eq.refl true, fun w1 hSw => ?_⟩) hS_0 ?_
          · first | rfl | (clear hSw; go_simp; done) | (clear hSw; go_simp; rfl)
          (try simp only [Act.put, List.setIfInBounds_toArray, List.set_cons_zero, List.set_cons_succ])
          refine takeR (i := 2) (v := .int .i64 j) rfl rfl (by kernel_rfl) (by kernel_rfl) (by kernel_rfl) (fun _ _ _ h => h) (Or.inl ⟨Eq.refl true, fun w1 hSw => ?_⟩) hS_0 ?_
          · first | rfl | (clear hSw; go_simp; done) | (clear hSw; go_simp; rfl)
          (try simp only [Act.put, List.setIfInBounds_toArray, List.set_cons_zero, List.set_cons_succ])
          refine takeR (i := 3) (v := .pointer (some ⟨bb, off + j * 2, none⟩)) rfl rfl (by kernel_rfl) (by kernel_rfl) (by kernel_rfl) (fun _ _ _ h => h) (Or.inl ⟨Eq.refl true, fun w1 hSw => ?_⟩) hS_0 ?_
          · first | rfl | (clear hSw; go_simp; done) | (clear hSw; go_simp; rfl)
          (try simp only [Act.put, List.setIfInBounds_toArray, List.set_cons_zero, List.set_cons_succ])
          refine takeR (i := 4) (v := .pointer (some ⟨bb, off + j * 2, none⟩)) rfl rfl (by kernel_rfl) (by kernel_rfl) (by kernel_rfl) (fun _ _ _ h => h) (Or.inl ⟨Eq.refl true, fun w1 hSw => ?_⟩) hS_0 ?_
          · first | rfl | (clear hSw; go_simp; done) | (clear hSw; go_simp; rfl)
          (try simp only [Act.put, List.setIfInBounds_toArray, List.set_cons_zero, List.set_cons_succ])
          refine takeR (i := 5) (v := .int .i64 t) rfl rfl (by kernel_rfl) (by kernel_rfl) (by kernel_rfl) (fun _ _ _ h => h) (Or.inl ⟨Eq.refl true, fun w1 hSw => ?_⟩) hS_0 ?_
          · (obtain ⟨q1, q2⟩ := hSw; go_simp; try rfl)
          (try simp only [Act.put, List.setIfInBounds_toArray, List.set_cons_zero, List.set_cons_succ])
          refine takeR (i := 6) (v := .slice (some ⟨bb, off, none⟩) m c) rfl rfl (by kernel_rfl) (by kernel_rfl) (by kernel_rfl) (fun _ _ _ h => h) (Or.inl ⟨Eq.refl true, fun w1 hSw => ?_⟩) hS_0 ?_
          · first | rfl | (clear hSw; go_simp; done) | (clear hSw; go_simp; rfl)
          (try simp only [Act.put, List.setIfInBounds_toArray, List.set_cons_zero, List.set_cons_succ])
          refine takeR (i := 7) (v := .int .i64 j) rfl rfl (by kernel_rfl) (by kernel_rfl) (by kernel_rfl) (fun _ _ _ h => h) (Or.inl ⟨Eq.refl true, fun w1 hSw => ?_⟩) hS_0 ?_
          · first | rfl | (clear hSw; go_simp; done) | (clear hSw; go_simp; rfl)
          (try simp only [Act.put, List.setIfInBounds_toArray, List.set_cons_zero, List.set_cons_succ])
          refine takeR (i := 8) (v := .pointer (some ⟨bb, off + j * 2, none⟩)) rfl rfl (by kernel_rfl) (by kernel_rfl) (by kernel_rfl) (fun _ _ _ h => h) (Or.inl ⟨Eq.refl true, fun w1 hSw => ?_⟩) hS_0 ?_
          · first | rfl | (clear hSw; go_simp; done) | (clear hSw; go_simp; rfl)
          (try simp only [Act.put, List.setIfInBounds_toArray, List.set_cons_zero, List.set_cons_succ])
          refine takeR (i := 9) (v := .pointer (some ⟨bb, off + j * 2 + 1, none⟩)) rfl rfl (by kernel_rfl) (by kernel_rfl) (by kernel_rfl) (fun _ _ _ h => h) (Or.inl ⟨Eq.refl true, fun w1 hSw => ?_⟩) hS_0 ?_
          · first | rfl | (clear hSw; go_simp; done) | (clear hSw; go_simp; rfl)
          (try simp only [Act.put, List.setIfInBounds_toArray, List.set_cons_zero, List.set_cons_succ])
          refine takeR (i := 10) (v := .slice sa S.length sc) rfl rfl (by kernel_rfl) (by kernel_rfl) (by kernel_rfl) (fun _ _ _ h => h) (Or.inl ⟨Eq.refl true, fun w1 hSw => ?_⟩) hS_0 ?_
          · (obtain ⟨q1, q2⟩ := hSw; go_simp; try rfl)
          (try simp only [Act.put, List.setIfInBounds_toArray, List.set_cons_zero, List.set_cons_succ])
          refine wpAnyH_ready (rs := [11]) (by kernel_rfl) (by simp) (AllReadyH.cons rfl (fun K hK => ?_) AllReadyH.nil)
          go_simp
          go_wp2_with (go_at_call 11; refine (HFew.out _ hS1).mono ?_; rintro e w4 ⟨rfl, rfl⟩)
          refine hK.out _ _ ?_ (fun hS_1 => ?_)
          · exact hS_0
          clear hK K
          refine wpAnyH_ready (rs := [12]) (by kernel_rfl) (by simp) (AllReadyH.cons rfl (fun K hK => ?_) AllReadyH.nil)
          go_simp
          go_wp2_with (go_at_call 10; refine (pass_ok h g N T E l t sa sc Z _ k2 hS2 hap hok).mono ?_; rintro e w5 ⟨rfl, k5, q5⟩)
          refine hK.out _ _ ?_ (fun hS_2 => ?_)
          · exact ⟨(q5.cell (p := ⟨bb, off + j * 2, none⟩) hbl hbh hbg).trans hS_1.1, (q5.cell (p := ⟨bb, off + j * 2 + 1, none⟩) hbl hbh hbg).trans hS_1.2⟩
          clear hK K
          refine takeR (i := 13) (v := .int .i64 0) rfl rfl (by kernel_rfl) (by kernel_rfl) (by kernel_rfl) (fun _ _ _ h => h) (Or.inl ⟨Eq.refl true, fun w1 hSw => ?_⟩) hS_2 ?_
          · first | rfl | (clear hSw; go_simp; done) | (clear hSw; go_simp; rfl)
          (try simp only [Act.put, List.setIfInBounds_toArray, List.set_cons_zero, List.set_cons_succ])
          refine wpAnyH_done (by kernel_rfl) ?_ _
          go_wp2_with fail
          have cw : ∀ k, k < N → w5.cell? ⟨gw, k, none⟩ = some (.int .i64 (E k / 8)) := fun k hk => (q5.cell (p := ⟨gw, k, none⟩) hgw (by show gw ≠ h; omega) (by show gw ≠ g; omega)).trans (cwas0 k hk)
          have hb5 : Below w.heap.size w w5 := q5.below (hbr2.drew) hh hg (by have := hbr2.size; exact this)
          have hmono : ∀ k, k < N → E k / 8 ≤ passE E t Z k / 8 := fun k hk => by
            have := passE_ge hok hk (E := E)
            omega
          have HS5 := hid hS_2
          have HCW := hid cw
          have HMo := hid hmono
          clear hS_0 hS_1 hS_2 cw hmono cwas0
          go_loopw [11] (fun i wr => ∃ q : Nat, q ≤ N ∧ i = .int .i64 q ∧ Below w5.heap.size w5 wr ∧ (∀ p v, w5.cell? p = some v → wr.cell? p = some v)) (fun i _ => N - (intOf i).toNat)
          case atStart => exact ⟨0, by omega, rfl, Below.refl _ _, fun _ _ h => h⟩
          case round =>
            obtain ⟨q, hq, rfl, bq, hkq⟩ := hrel
            have kq := k5.below bq
            by_cases hltq : q < N
            · have cq := hkq _ _ (HCW.out q hltq)
              have hle := HMo.out q hltq
              have hlq : decide ((q : Int) < (N : Int)) = true := decide_eq_true (by omega)
              have hlq' : decide (q < N) = true := decide_eq_true hltq
              have HSh := hid (fun w1 (k1 : Clk w1 h g N (T + t) (passE E t Z) (l || Z.any (byB 1))) => show_any h g N (T + t) (passE E t Z) (l || Z.any (byB 1)) (q : Int) w1 k1)
              have hsv : shown N (passE E t Z) (q : Int) = (passE E t Z) q / 8 := if_pos ⟨by omega, by omega⟩
              have HK := hid hkq
              clear hkq
              rw [hsv] at HSh
              have kqN := hid (fun nn => kq.below (bel_drewN (Below.refl _ _) nn))
              generalize passE E t Z q / 8 = x1 at *
              generalize E q / 8 = x0 at *
              have hlt1 : decide (x1 < x0) = false := decide_eq_false (by omega)
              go_wp2_with fail
              go_quiet (first
                | (go_at_call 15; exact Calls.quiet_of_same (v := .int .i64 x1) ((HSh.out _ (kqN.out _)).mono (fun e w6 hh => ⟨hh.1, hh.2.symm⟩))))
              go_wp2_with fail
              go_roundw
              case rel => exact ⟨q + 1, by omega, by go_num, bel_drewN bq _, HK.out⟩
              case measure => simp [intOf]; omega
            · have hlq : decide ((q : Int) < (N : Int)) = false := decide_eq_false (by omega)
              have hlq' : decide (q < N) = false := decide_eq_false hltq
              have HTr := hid (fun w1 (k1 : Clk w1 h g N (T + t) (passE E t Z) (l || Z.any (byB 1))) => true_any h g N (T + t) (passE E t Z) (l || Z.any (byB 1)) w1 k1)
              have kqN := hid (fun nn => kq.below (bel_drewN (Below.refl _ _) nn))
              have ct := hkq _ _ HS5.out.1
              have hbw5 := kept_trans hb5 bq
              have ew : IntKind.i64.wrap (T + t) = T + t := IntWalk.i64_in _ (by have := okP_parts hok; have := k5.t; omega)
              clear hkq HCW HMo
              go_wp2_with fail
              go_quiet (first
                | (go_at_call 13; exact Calls.quiet_of_same (v := .int .i64 (T + t)) ((HTr.out _ (kqN.out _)).mono (fun e w6 hh => ⟨hh.1, hh.2.symm⟩))))
              go_wp2_with fail
              go_roundw
              case rel => exact ⟨j + 1, _, _, _, by omega, by omega, by go_num, kqN.out _, bel_drewN hbw5 _⟩
              case measure => simp [intOf]; omega

end Go.Proofs.Ytpiebklgpehafaa
