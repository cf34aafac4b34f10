import Derived.Test.YtmjdplnadclgnaaBitsH
namespace Go.Proofs.Ytmjdplnadclgnaa
open Go.RowKit Go.WideShapes Go.ChangeShapes
set_option linter.unusedSimpArgs false
set_option linter.unusedVariables false

set_option maxHeartbeats 4000000 in
set_option maxRecDepth 100000 in
theorem BitsFirst_walk (w : World) (xs : List UInt8) (hx : xs.length = 16) (frm : Int) (wn : (Lit.int .i64 frm).wf = true) :
    Calls Try.prog 6 #[.agg (mapC xs), .int .i64 frm] w fun e w' => e = .returned (.bool true) ∧ Below w.heap.size w w' := by
  have hn := i64_bd wn
  have K0 : Blk (w.alloc (.cells (mapC xs) 24)) w.heap.size 24 (xs.map byteV) := heap_alloc_new w _
  have B0 : Below w.heap.size w (w.alloc (.cells (mapC xs) 24)) := (Below.refl _ w).alloc (Nat.le_refl _) _
  have HF := hid (fun w1 => first_any xs frm w1 hx hn)
  have HR := hid (show firstFrom xs frm (128 - 0) 0 = firstX xs frm from rfl)
  generalize firstX xs frm = R at *
  go_enter Try.func6, Try.ntmps6
  go_wp2_with (first
    | ((with_reducible refine wpl_loadM rfl _ rfl w.heap.size rfl xs hx (by assumption) ?_))
    | (go_at_call 14; refine (truths_any xs _ hx).mono ?_; rintro e w1 ⟨a1, c1, rfl, o1, b1⟩; have k1 := Blk.mono K0 b1; obtain ⟨bb, off, rfl, hbb, hc⟩ := (o1.row.at (by omega))))
  have b1' := kept_trans B0 b1
  clear o1 b1 K0 B0
  go_loopw [6, 7] (fun v i wr => ∃ m : Nat, m ≤ 128 ∧ i = .int .i64 ((m : Int) - 1) ∧ v = .int .i64 (firstFrom xs frm (128 - m) m) ∧ wr = w1)
    (fun _ i _ => (intOf i + 1).toNat)
  case atStart => exact ⟨128, by omega, rfl, rfl, rfl⟩
  case round =>
    obtain ⟨m', hm, rfl, rfl, rfl⟩ := hrel
    cases m' with
    | zero =>
      rw [show (((0 : Nat) : Int) - 1) = -1 from rfl, HR.out]
      go_wp2_with (first
        | ((with_reducible refine wpl_loadM rfl _ rfl w.heap.size rfl xs hx (by assumption) ?_))
        | (go_at_call 19; refine (HF.out _).mono ?_; rintro e w3 ⟨rfl, b3⟩)
        | (go_at_call 11; refine (lives10_any _).mono ?_; rintro e w4 ⟨rfl, b4⟩))
      go_ret
      exact ⟨rfl, kept_trans (kept_trans b1' b3) b4⟩
    | succ m =>
      have cm := hc m _ (truthsV_get xs (by omega))
      have hst := first_step xs frm (show m < 128 by omega)
      rw [show ((m + 1 : Nat) : Int) - 1 = m by omega]
      have hmd : decide ((0 : Int) ≤ (m : Int)) = true := decide_eq_true (by omega)
      clear hc
      generalize firstFrom xs frm (128 - (m + 1)) (m + 1) = old at *
      cases hb : bitB xs m
      · rw [hb] at cm
        by_cases hf : frm ≤ (m : Int) + 1
        · rw [if_pos ⟨hf, hb⟩] at hst
          have HS := hid hst
          clear hst hb
          go_wp2_with fail
          go_roundw
          case rel => exact ⟨m, by omega, by go_num, by rw [HS.out], by first | rfl | trivial⟩
          case measure => first | (simp [intOf]; done) | (simp [intOf]; omega)
        · rw [if_neg (fun h => hf h.1)] at hst
          have HS := hid hst
          clear hst hb
          go_wp2_with fail
          go_roundw
          case rel => exact ⟨m, by omega, by go_num, by rw [HS.out], by first | rfl | trivial⟩
          case measure => first | (simp [intOf]; done) | (simp [intOf]; omega)
      · rw [hb] at cm
        rw [if_neg (by rw [hb]; simp)] at hst
        have HS := hid hst
        clear hst hb
        go_wp2_with fail
        go_roundw
        case rel => exact ⟨m, by omega, by go_num, by rw [HS.out], by first | rfl | trivial⟩
        case measure => first | (simp [intOf]; done) | (simp [intOf]; omega)

set_option maxHeartbeats 4000000 in
set_option maxRecDepth 100000 in
theorem BitsCounts_walk (w : World) (xs : List UInt8) (hx : xs.length = 16) :
    Calls Try.prog 7 #[.agg (mapC xs)] w fun e w' => e = .returned (.bool true) ∧ Below w.heap.size w w' := by
  have K0 : Blk (w.alloc (.cells (mapC xs) 24)) w.heap.size 24 (xs.map byteV) := heap_alloc_new w _
  have B0 : Below w.heap.size w (w.alloc (.cells (mapC xs) 24)) := (Below.refl _ w).alloc (Nat.le_refl _) _
  go_enter Try.func7, Try.ntmps7
  go_wp2_with (first
    | ((with_reducible refine wpl_loadM rfl _ rfl w.heap.size rfl xs hx (by assumption) ?_))
    | (go_at_call 14; refine (truths_any xs _ hx).mono ?_; rintro e w1 ⟨a1, c1, rfl, o1, b1⟩; have k1 := Blk.mono K0 b1; obtain ⟨bb, off, rfl, hbb, hc⟩ := (o1.row.at (by omega))))
  have b1' := kept_trans B0 b1
  clear o1 b1 K0 B0
  go_loopw [4, 5] (fun l i wr => ∃ (j : Nat) (a' : Option Addr) (c' : Nat), j ≤ 128 ∧ i = .int .i64 j ∧ l = .slice a' (allX xs j).length c' ∧ Own wr w1.heap.size 3 1 a' (allX xs j).length c' ((allX xs j).map intV) ∧ Below w1.heap.size w1 wr)
    (fun _ i _ => 128 - (intOf i).toNat)
  case atStart => exact ⟨0, none, 0, by omega, rfl, rfl, Own.nil _ _ _ _, Below.refl _ _⟩
  case round =>
    obtain ⟨j, a', c', hj, rfl, rfl, ho, br⟩ := hrel
    have hstep := all_step xs j
    have hll := all_len xs j
    by_cases hlt : j < 128
    · have cj := (br.cell (p := ⟨bb, off + j, none⟩) hbb).trans (hc j _ (truthsV_get xs hlt))
      have hltd : decide ((j : Int) < 128) = true := decide_eq_true (by omega)
      clear hc
      cases hb : bitB xs j
      · rw [hb] at cj
        rw [if_neg (by rw [hb]; simp)] at hstep
        have HS := hid hstep
        clear hb hstep
        generalize allX xs j = L at *
        go_wp2_with fail
        go_roundw
        case rel => exact ⟨j + 1, a', c', by omega, by go_num, by rw [HS.out], by rw [HS.out]; exact ho, br⟩
        case measure => simp [intOf]; omega
      · rw [hb] at cj
        rw [if_pos hb] at hstep
        have HS := hid hstep
        clear hb hstep
        generalize allX xs j = L at *
        go_wp2_with (first
          | (at_builtin; refine wpl_append rfl (.tmp 17) (.tmp 20) rfl EI w1.heap.size rfl rfl (ho.alloc _) (row_new1 _ _ _) (by simp [Value.oneCell']) (by omega) (by omega) (by have := br.size; simp; omega) ?_; intro a3 c3 w3 o3 g3 b3))
        go_roundw
        case rel =>
          refine ⟨j + 1, a3, c3, by omega, by go_num, ?_, ?_, (br.alloc br.size _).trans b3⟩
          · rw [HS.out]; simp
          · rw [HS.out]; simpa [intV] using o3
        case measure => simp [intOf]; omega
    · obtain rfl : j = 128 := by omega
      have HA := hid (fun w1 => all_any xs w1 hx)
      have HN := hid (fun w1 => count_any xs w1 hx)
      have kr := Blk.mono k1 br
      have hbr := kept_trans b1' br
      clear hstep hc
      generalize allX xs 128 = L at *
      have hIV : ∀ (M : List Nat), M.map intV = (M.map fun n : Nat => (n : Int) + 1).map iV := by intro M; simp [intV, iV]
      have hr : RowI wr a' c' (L.map fun n : Nat => (n : Int) + 1) := by
        have := ho.row
        rw [hIV] at this
        unfold RowI; rw [List.length_map]; exact this
      have HR := hid hr
      clear hr ho
      go_wp2_with (first
        | ((with_reducible refine wpl_loadM rfl _ rfl w.heap.size rfl xs hx (by assumption) ?_))
        | ((with_reducible refine wpl_loadW _ rfl w.heap.size rfl xs hx (by assumption) ?hw ?_); (case hw => exact (Eq.refl true)))
        | (go_at_call 21; refine (HA.out _).mono ?_; rintro e w2 ⟨a2, c2, rfl, o2, b2⟩; have k2 := Blk.mono kr b2; have r1 := Row.mono HR.out b2;
           have r2 : RowI w2 a2 c2 (L.map fun n : Nat => (n : Int) + 1) := (by have := o2.row; rw [hIV] at this; unfold RowI; rw [List.length_map]; exact this))
        | (go_at_call 20; have hs := sameInts_any a2 a' c2 c' _ _ w2 r2 r1; rw [List.length_map] at hs; refine hs.mono ?_; clear hs; rintro e w5 ⟨rfl, b5⟩; rw [decide_eq_true rfl]; have k5 := Blk.mono k2 b5)
        | (go_at_call 22; refine (HN.out _).mono ?_; rintro e w6 ⟨rfl, b6⟩)
        | (go_at_call 11; refine (lives10_any _).mono ?_; rintro e w4 ⟨rfl, b4⟩))
      go_ret
      exact ⟨rfl, kept_trans (kept_trans (kept_trans (kept_trans hbr b2) b5) b6) b4⟩

end Go.Proofs.Ytmjdplnadclgnaa
