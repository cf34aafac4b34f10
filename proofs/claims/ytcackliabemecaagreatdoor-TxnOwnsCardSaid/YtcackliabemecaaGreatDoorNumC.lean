import Derived.Test.YtcackliabemecaaGreatDoorNumB
namespace Go.Proofs.YtcackliabemecaaGreatDoor
open Go.RowKit
set_option linter.unusedSimpArgs false
set_option linter.unusedVariables false

theorem ofLE_drop_le (xs : List UInt8) (m : Nat) : ofLE (xs.drop m) ≤ ofLE xs := by
  induction xs generalizing m with
  | nil => simp
  | cons x xs ih =>
    cases m with
    | zero => simp
    | succ m => have := ih m; simp only [List.drop_succ_cons, ofLE]; omega

theorem ofLE_drop {xs : List UInt8} {m : Nat} (h : m < xs.length) : ofLE (xs.drop m) = bAt xs m + 256 * ofLE (xs.drop (m + 1)) := by
  rw [List.drop_eq_getElem_cons h, bAt_eq h]; rfl

theorem ofLE_top {xs : List UInt8} (h : xs.length = 8) : ofLE xs ≤ 9223372036854775807 ↔ bAt xs 7 < 128 := by
  match xs, h with
  | [a, b, c, d, e, f, g, i], _ =>
    have := a.toNat_lt; have := b.toNat_lt; have := c.toNat_lt; have := d.toNat_lt
    have := e.toNat_lt; have := f.toNat_lt; have := g.toNat_lt; have := i.toNat_lt
    simp [ofLE, bAt]; omega

theorem ofLE_small {xs : List UInt8} (h : xs.length ≤ 4) : ofLE xs ≤ 9223372036854775807 := by
  have h1 := ofLE_lt xs
  have h2 : 256 ^ xs.length ≤ 256 ^ 4 := Nat.pow_le_pow_right (by omega) h
  omega

theorem bAt_take_drop (xs : List UInt8) {A K m : Nat} (h : m < K) : bAt ((xs.drop A).take K) m = bAt xs (A + m) := by
  simp [bAt, h]

set_option maxHeartbeats 1000000 in
theorem getRef_any (a : Option Addr) (c : Nat) (xs : List UInt8) (at_ k : Int) (w : World) (ha : RowB w a c xs) (hl : xs.length ≤ 9223372036854775807) (hk9 : -9223372036854775808 ≤ k) :
    Calls Tryz.prog 85 #[.slice a xs.length c, .int .i64 at_, .int .i64 k] w fun e w' => e = .returned (getV (getF xs at_ k)) ∧ w = w' := by
  by_cases hk : k = 1 ∨ k = 2 ∨ k = 4 ∨ k = 8
  case neg =>
    have b1 : (k != 1) = true := by simp; omega
    have b2 : (k != 2) = true := by simp; omega
    have b4 : (k != 4) = true := by simp; omega
    have b8 : (k != 8) = true := by simp; omega
    have hk' := hid hk; clear hk
    go_enter Tryz.func85, Tryz.ntmps85
    go_wp2
    go_ret2
    exact ⟨by simp [getV, getF, widthB, hk'.out], rfl⟩
  case pos =>
  by_cases h1 : 0 ≤ at_ ∧ at_ + k ≤ xs.length
  case neg =>
    have H1 := hid h1
    have hw : widthB k = true := by simp [widthB, hk]
    have E : Hid (getF xs at_ k = none) := by show _ = _; simp only [getF]; rw [if_neg (by intro h; exact h1 h.2)]
    clear hw
    clear H1
    rcases hk with rfl | rfl | rfl | rfl
    all_goals
      by_cases h0 : at_ < 0
      · clear h1
        go_enter Tryz.func85, Tryz.ntmps85
        go_wp2
        go_ret2
        exact ⟨by simp [getV, E.out], rfl⟩
      · by_cases h2 : (xs.length : Int) < at_
        · clear h1
          go_enter Tryz.func85, Tryz.ntmps85
          go_wp2
          go_ret2
          exact ⟨by simp [getV, E.out], rfl⟩
        · have h3 : (xs.length : Int) - at_ < 8 := by omega
          have h4 : at_ ≤ xs.length := by omega
          have h5 : 0 ≤ at_ := by omega
          first
            | (have h6 : (xs.length : Int) - at_ < 1 := by omega
               clear h1 h0 h2 h3
               go_enter Tryz.func85, Tryz.ntmps85
               go_wp2
               go_ret2
               exact ⟨by simp [getV, E.out], rfl⟩)
            | (have h6 : (xs.length : Int) - at_ < 2 := by omega
               clear h1 h0 h2 h3
               go_enter Tryz.func85, Tryz.ntmps85
               go_wp2
               go_ret2
               exact ⟨by simp [getV, E.out], rfl⟩)
            | (have h6 : (xs.length : Int) - at_ < 4 := by omega
               clear h1 h0 h2 h3
               go_enter Tryz.func85, Tryz.ntmps85
               go_wp2
               go_ret2
               exact ⟨by simp [getV, E.out], rfl⟩)
            | (have h6 : (xs.length : Int) - at_ < 8 := by omega
               clear h1 h0 h2 h3
               go_enter Tryz.func85, Tryz.ntmps85
               go_wp2
               go_ret2
               exact ⟨by simp [getV, E.out], rfl⟩)
  case pos =>
  obtain ⟨A, rfl⟩ := Int.eq_ofNat_of_zero_le h1.1
  obtain ⟨K, hK⟩ := Int.eq_ofNat_of_zero_le (by omega : 0 ≤ k)
  obtain ⟨b, off, rfl, hlt, hc⟩ := ha.bytes (by omega)
  clear ha
  have hlen : ((xs.drop A).take K).length = K := by simp; omega
  have hF : getF xs A k = if ofLE ((xs.drop A).take K) ≤ 9223372036854775807 then some (ofLE ((xs.drop A).take K)) else none := by
    unfold getF; rw [if_pos ⟨by simp only [widthB, decide_eq_true_eq]; exact hk, h1⟩, hK]; rfl
  have HF := hid hF; clear hF
  by_cases hbig : ofLE ((xs.drop A).take K) ≤ 9223372036854775807
  case neg =>
    have h8 : K = 8 := by
      have : ¬ K ≤ 4 := fun h => hbig (ofLE_small (xs := (xs.drop A).take K) (by omega))
      omega
    subst h8
    have hk8 : k = 8 := by omega
    subst hk8
    have h7 : ¬ bAt ((xs.drop A).take 8) 7 < 128 := fun h => hbig ((ofLE_top (xs := (xs.drop A).take 8) hlen).2 h)
    rw [bAt_take_drop _ (by omega)] at h7
    have hc7 := hc (A + 7) (by omega)
    have h9 : (128 : Int) ≤ (bAt xs (A + 7) : Int) := by omega
    have HB := hid hbig
    clear hc h7 hbig hlen hK hk
    go_enter Tryz.func85, Tryz.ntmps85
    go_wp2
    go_ret2
    exact ⟨by rw [HF.out, if_neg HB.out]; rfl, rfl⟩
  case pos =>
    have hF2 : Hid (getF xs A k = some (ofLE ((xs.drop A).take K))) := by show _ = _; rw [HF.out, if_pos hbig]
    clear HF
    have hdl := fun m => Nat.le_trans (ofLE_drop_le ((xs.drop A).take K) m) hbig
    have hst : ∀ m, m < K → ofLE (((xs.drop A).take K).drop m) = bAt xs (A + m) + 256 * ofLE (((xs.drop A).take K).drop (m + 1)) := by
      intro m h; rw [ofLE_drop (by rw [hlen]; exact h), bAt_take_drop _ h]
    have htop : k = 8 → (bAt xs (A + 7) : Int) < 128 := by
      rintro rfl
      have h8 : K = 8 := by omega
      subst h8
      have := (ofLE_top (xs := (xs.drop A).take 8) hlen).1 hbig
      rw [bAt_take_drop _ (by omega)] at this; omega
    have hz : ((xs.drop A).take K).drop K = [] := List.drop_eq_nil_of_le (by rw [hlen]; exact Nat.le_refl _)
    have hc7 : k = 8 → w.cell? ⟨b, off + (A + 7), none⟩ = some (.int .u8 (bAt xs (A + 7) : Int)) := fun h => hc (A + 7) (by omega)
    have HC := hid hc
    have hAl : A + K ≤ xs.length := by omega
    have hk8 : K ≤ 8 := by omega
    clear hbig hc hlen
    generalize (xs.drop A).take K = ds at *
    have HZ := hid hz; have HT := hid hst; have HD := hid hdl; clear hz hst hdl
    have HK := hid hK
    clear hK
    rcases hk with rfl | rfl | rfl | rfl
    all_goals
      first | (replace htop := htop rfl; replace hc7 := hc7 rfl; generalize bAt xs (A + 7) = x7 at htop hc7; have hb7 : decide ((128 : Int) ≤ (x7 : Int)) = false := (by simp; omega); clear htop) | clear htop hc7
      go_enter Tryz.func85, Tryz.ntmps85
      go_wp2_with fail
      go_loop [8, 9] (fun n i => ∃ m : Nat, m ≤ K ∧ i = .int .i64 ((m : Int) - 1) ∧ n = .int .i64 (ofLE (ds.drop m) : Nat)) (fun _ i => (intOf i + 1).toNat)
      case atStart => exact ⟨K, Nat.le_refl _, by rw [← HK.out]; rfl, by rw [HZ.out]; rfl⟩
      case round =>
        obtain ⟨m, hm, rfl, rfl⟩ := hrel
        cases m with
        | zero =>
          go_wp2
          go_ret2
          exact ⟨by rw [hF2.out]; simp [getV], rfl⟩
        | succ m =>
          have hcell := HC.out (A + m) (by omega)
          have hs := HT.out m (by omega)
          have hd := HD.out m
          have hb := bAt_lt xs (A + m)
          have HS := hid hs
          have hbound : ((ofLE (ds.drop (m + 1)) : Nat) : Int) * 256 + (bAt xs (A + m) : Int) ≤ 9223372036854775807 := by omega
          clear hs
          have ei : ((m + 1 : Nat) : Int) - 1 = m := by omega
          rw [ei]
          have hm' : m + 1 ≤ 8 := by omega
          generalize bAt xs (A + m) = x at *
          generalize ofLE (ds.drop (m + 1)) = q at *
          clear ei
          go_wp2
          go_round
          case rel => exact ⟨m, by omega, by go_num, by rw [HS.out]; go_num⟩
          case measure => simp [intOf] <;> omega

end Go.Proofs.YtcackliabemecaaGreatDoor
