import Derived.Test.YtlbinnopaogleaaNumL
import Derived.Deep.RegionWith
namespace Go.Proofs.Ytlbinnopaogleaa
open Go.RowKit
set_option linter.unusedSimpArgs false
set_option linter.unusedVariables false

theorem rowB_sub {w : World} {b off c : Nat} {xs : List UInt8} (h : RowB w (some ⟨b, off, none⟩) c xs) (lo n : Nat) (hn : lo + n ≤ xs.length) :
    RowB w (some ⟨b, off + lo, none⟩) (c - lo) ((xs.drop lo).take n) := by
  obtain ⟨h1, h2, h3, h4, h5⟩ := h
  have hl : ((xs.drop lo).take n).length = n := by simp; omega
  refine ⟨by simp, by rw [hl]; omega, by omega, (fun h => by cases h), fun hp => ?_⟩
  obtain ⟨b', off', e, hlt, hc⟩ := h5 (by omega)
  cases e
  refine ⟨_, _, rfl, hlt, fun j u hu => ?_⟩
  have hj : j < n := by
    have := (List.getElem?_eq_some_iff.1 hu).1
    simp at this; omega
  have := hc (lo + j) u (by
    rw [List.map_take, List.map_drop, List.getElem?_take, if_pos hj, List.getElem?_drop] at hu
    exact hu)
  rw [← this]; congr 2; omega

theorem le_ofLE (xs : List UInt8) : le xs.length (ofLE xs) = xs := by
  induction xs with
  | nil => rfl
  | cons x xs ih =>
    have hx := x.toNat_lt
    simp only [List.length_cons, le, ofLE]
    rw [show (x.toNat + 256 * ofLE xs) / 256 = ofLE xs from by omega, ih]
    congr 1
    apply UInt8.toNat_inj.1
    simp

theorem get_some {xs : List UInt8} {at_ k : Int} {v : Nat} (h : getF xs at_ k = some v) :
    widthB k = true ∧ 0 ≤ at_ ∧ at_ + k ≤ xs.length ∧ v = ofLE ((xs.drop at_.toNat).take k.toNat) ∧ v ≤ 9223372036854775807 := by
  unfold getF at h
  split at h
  · next h1 =>
    split at h
    · next h2 => cases h; exact ⟨h1.1, h1.2.1, h1.2.2, rfl, h2⟩
    · cases h
  · cases h

theorem put_get {xs : List UInt8} {at_ k : Int} {v : Nat} (h : getF xs at_ k = some v) : putF [] v k = (xs.drop at_.toNat).take k.toNat := by
  obtain ⟨h1, h2, h3, h4, h5⟩ := get_some h
  have hk := widthB_le h1
  have hl : ((xs.drop at_.toNat).take k.toNat).length = k.toNat := by simp; omega
  have hlt := ofLE_lt ((xs.drop at_.toNat).take k.toNat)
  rw [hl, ← h4] at hlt
  have hf : fitsB v k = true := by
    have := fits_wrap v k.toNat (by rw [Int.toNat_of_nonneg (by omega)]; exact h1) hlt
    rw [IntWalk.wrap64_in _ (by omega), Int.toNat_of_nonneg (by omega)] at this
    rw [this]; simpa using h5
  have e := le_ofLE ((xs.drop at_.toNat).take k.toNat)
  rw [hl, ← h4] at e
  simp [putF, hf, e]

set_option maxHeartbeats 400000 in
theorem NumAgain_walk (w : World) (a : Option Addr) (c : Nat) (xs : List UInt8) (r : RowB w a c xs) (n : Int) (hn : (Lit.int .i64 n).wf = true) (k : Int) (hk : (Lit.int .i64 k).wf = true) :
    Calls Try.prog 7 #[.slice a xs.length c, .int .i64 n, .int .i64 k] w fun e w' => e = .returned (.bool true) ∧ Below w.heap.size w w' := by
  have hl := rowB_len r
  have r2 := rowB_take r 100
  have h100 := len100 xs
  cases hg : getF (xs.take 100) n k with
  | none =>
    have HG := hid hg; clear hg
    go_enter Try.func7, Try.ntmps7
    go_wp2_with fail
    refine (few_any a c xs w r hl).mono ?_
    rintro e w' ⟨rfl, rfl⟩
    generalize xs.take 100 = ys at *
    go_wp2_with fail
    refine (get_any a c ys n k _ r2 (by omega)).mono ?_
    rintro e w' ⟨rfl, rfl⟩
    rw [HG.out]
    unfold getV
    go_wp2_with fail
    refine (lives_any _).mono ?_
    rintro e w4 ⟨rfl, b4⟩
    go_wp2_with fail
    go_ret
    exact ⟨rfl, b4⟩
  | some v =>
    obtain ⟨q1, q2, q3, q4, q5⟩ := get_some hg
    have q6 := widthB_le q1
    have hp := put_get hg
    have hput : ∀ w, Calls Try.prog 14 #[.slice none 0 0, .int .i64 v, .int .i64 k] w (RetB w (putF [] v k)) := fun w => put_any none 0 [] v k w (Row.nil _ _) (by simp) (by omega)
    have HG := hid hg; clear hg q4 q1
    have hlc : xs.length ≤ c := r.2.1
    rw [hp] at hput
    have HP := hid hput; clear hput hp
    go_enter Try.func7, Try.ntmps7
    go_wp2_with fail
    refine (few_any a c xs w r hl).mono ?_
    rintro e w' ⟨rfl, rfl⟩
    generalize xs.take 100 = ys at *
    go_wp2_with fail
    refine (get_any a c ys n k _ r2 (by omega)).mono ?_
    rintro e w' ⟨rfl, rfl⟩
    rw [HG.out]
    unfold getV
    obtain ⟨A, rfl⟩ := Int.eq_ofNat_of_zero_le q2
    obtain ⟨K, rfl⟩ := Int.eq_ofNat_of_zero_le (by omega : 0 ≤ k)
    obtain ⟨b, off, rfl, hlt, _⟩ := r2.bytes (by omega)
    simp only [Int.toNat_natCast] at HP
    have rs := rowB_sub r2 A K (by omega)
    have hds : ((ys.drop A).take K).length = K := by simp; omega
    generalize (ys.drop A).take K = ds at *
    have HD := hid hds; clear hds
    have hyc : ys.length ≤ c := r2.2.1
    have hAc : ¬ c = A := by omega
    clear r r2
    go_wp2_with fail
    have g1 : (A : Int) ≤ (A : Int) + (K : Int) := by omega
    have g2 : (A : Int) + (K : Int) ≤ (c : Int) := by omega
    have g3 : IntKind.i64.wrap ((A : Int) + (K : Int)) = (A : Int) + (K : Int) := IntWalk.i64_in _ (by omega)
    have g4 : 0 ≤ (A : Int) + (K : Int) := by omega
    have g5 : ((A : Int) + (K : Int)).toNat = A + K := by omega
    go_region_with (first
      | (go_at_call 14; refine (HP.out _).mono ?_; rintro e w1 ⟨a1, c1, rfl, o1, b1⟩)
      | (go_at_call 13; rw [← HD.out]; refine (same_any a1 _ c1 _ ds ds _ o1.row ((rs.mono (bel_drewN (Below.refl _ _) 1)).mono b1) (rowB_len o1.row) (rowB_len o1.row)).mono ?_; rintro e w2 ⟨rfl, b2⟩; rw [decide_eq_true rfl]))
    all_goals
      go_wp2_with fail
      refine (lives_any _).mono ?_
      rintro e w4 ⟨rfl, b4⟩
      go_wp2_with fail
      go_ret
      exact ⟨rfl, kept_trans (kept_trans (kept_trans (bel_drewN (Below.refl _ _) 1) b1) b2) b4⟩

set_option maxHeartbeats 400000 in
theorem set_any (g c n' : Nat) (L : List Value) (at_ k n : Int) (w : World) (hb : Blk w g 5 L) (hm : n' ≤ L.length) (hc : L.length ≤ 9223372036854775807) (hlc : n' ≤ c) (hn9 : n ≤ 9223372036854775807)
    (hf : fitsB n k = true) (h0 : 0 ≤ at_) (h1 : at_ + k ≤ n') :
    Calls Try.prog 21 #[.slice (some ⟨g, 0, none⟩) n' c, .int .i64 at_, .int .i64 n, .int .i64 k] w fun e w' => e = .returned (.bool true) ∧ Blk w' g 5 (splice L at_.toNat ((le k.toNat n.toNat).map byteV)) ∧ w.grownBy w' (some g) := by
  have hk := fitsB_width hf
  obtain ⟨N, rfl⟩ := Int.eq_ofNat_of_zero_le hk.1
  obtain ⟨K, rfl⟩ := Int.eq_ofNat_of_zero_le (by omega : 0 ≤ k)
  obtain ⟨A, rfl⟩ := Int.eq_ofNat_of_zero_le h0
  have hAc : ¬ c = A := by omega
  go_enter Try.func21, Try.ntmps21
  go_wp2_with fail
  refine (fits_any _ _ _).mono ?_
  rintro e w' ⟨rfl, rfl⟩
  rw [hf]
  clear hf
  go_wp2_with fail
  refine (inside_any _ _ _ _ _ _ (by omega) hk.2).mono ?_
  rintro e w' ⟨rfl, rfl⟩
  rw [show (decide (0 ≤ (A : Int)) && decide ((A : Int) + K ≤ n')) = true from by simp; omega]
  go_wp2_with fail
  have e1 : A + K - A = K := by omega
  try rw [e1]
  refine (write_any g A K _ N L w hb (by omega) (by omega) (by omega) hc).mono ?_
  rintro e w1 ⟨rfl, b1, g1, s1⟩
  go_wp2_with fail
  go_ret
  exact ⟨rfl, b1, g1⟩

set_option maxHeartbeats 400000 in
theorem setNot_any (a : Option Addr) (n' c : Nat) (at_ k n : Int) (w : World) (hn' : n' ≤ 9223372036854775807) (hf : ¬ (fitsB n k = true ∧ 0 ≤ at_ ∧ at_ + k ≤ n')) :
    Calls Try.prog 21 #[.slice a n' c, .int .i64 at_, .int .i64 n, .int .i64 k] w fun e w' => e = .returned (.bool false) ∧ w = w' := by
  by_cases h : fitsB n k = true
  · have hk := fitsB_width h
    have hd : (decide (0 ≤ at_) && decide (at_ + k ≤ n')) = false := by
      have : ¬ (0 ≤ at_ ∧ at_ + k ≤ n') := fun h2 => hf ⟨h, h2⟩
      simpa using this
    clear hf
    have HD := hid hd; clear hd
    go_enter Try.func21, Try.ntmps21
    go_wp2_with fail
    refine (fits_any _ _ _).mono ?_
    rintro e w' ⟨rfl, rfl⟩
    rw [h]
    clear h
    go_wp2_with fail
    refine (inside_any _ _ _ _ _ _ (by omega) hk.2).mono ?_
    rintro e w' ⟨rfl, rfl⟩
    rw [HD.out]
    go_wp2_with fail
    go_ret
    exact ⟨rfl, rfl⟩
  · have h' : fitsB n k = false := by simpa using h
    clear hf h
    go_enter Try.func21, Try.ntmps21
    go_wp2_with fail
    refine (fits_any _ _ _).mono ?_
    rintro e w' ⟨rfl, rfl⟩
    rw [h']
    clear h'
    go_wp2_with fail
    go_ret
    exact ⟨rfl, rfl⟩

end Go.Proofs.Ytlbinnopaogleaa
