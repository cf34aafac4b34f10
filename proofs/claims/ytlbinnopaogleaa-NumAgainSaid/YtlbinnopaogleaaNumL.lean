import Derived.Test.YtlbinnopaogleaaNumF
namespace Go.Proofs.Ytlbinnopaogleaa
open Go.RowKit
set_option linter.unusedSimpArgs false
set_option linter.unusedVariables false

theorem len100 (xs : List UInt8) : (xs.take 100).length ≤ 100 := List.length_take_le _ _

set_option maxHeartbeats 400000 in
theorem NumPuts_walk (w : World) (a : Option Addr) (c : Nat) (xs : List UInt8) (r : RowB w a c xs) (n : Int) (hn : (Lit.int .i64 n).wf = true) (k : Int) (hk : (Lit.int .i64 k).wf = true) :
    Calls Try.prog 3 #[.slice a xs.length c, .int .i64 n, .int .i64 k] w fun e w' => e = .returned (.bool true) ∧ Below w.heap.size w w' := by
  have hn9 := i64_bd hn
  have hl := rowB_len r
  have r2 := rowB_take r 100
  have h100 := len100 xs
  go_enter Try.func3, Try.ntmps3
  go_wp2_with fail
  refine (few_any a c xs w r hl).mono ?_
  rintro e w' ⟨rfl, rfl⟩
  generalize xs.take 100 = ys at *
  go_wp2_with fail
  refine (put_any a c ys n k _ r2 (by omega) hn9.2).mono ?_
  rintro e w1 ⟨a1, c1, rfl, o1, b1⟩
  go_wp2_with fail
  refine (putRef_any a c ys n k _ (r2.mono b1) (by omega) hn9.2).mono ?_
  rintro e w2 ⟨a2, c2, rfl, o2, b2⟩
  go_wp2_with fail
  refine (same_any a1 a2 c1 c2 _ _ _ (o1.mono b2).row o2.row (rowB_len o1.row) (rowB_len o2.row)).mono ?_
  rintro e w3 ⟨rfl, b3⟩
  rw [decide_eq_true rfl]
  go_wp2_with fail
  refine (fits_any _ _ _).mono ?_
  rintro e w' ⟨rfl, rfl⟩
  go_wp2_with fail
  refine (fitsRef_any _ _ _).mono ?_
  rintro e w' ⟨rfl, rfl⟩
  have hbb : (fitsB n k == fitsB n k) = true := by simp
  go_wp2_with fail
  refine (lives_any _).mono ?_
  rintro e w4 ⟨rfl, b4⟩
  go_wp2_with fail
  go_ret
  exact ⟨rfl, kept_trans (kept_trans (kept_trans b1 b2) b3) b4⟩

set_option maxHeartbeats 400000 in
theorem NumGets_walk (w : World) (a : Option Addr) (c : Nat) (xs : List UInt8) (r : RowB w a c xs) (n : Int) (hn : (Lit.int .i64 n).wf = true) (k : Int) (hk : (Lit.int .i64 k).wf = true) :
    Calls Try.prog 4 #[.slice a xs.length c, .int .i64 n, .int .i64 k] w fun e w' => e = .returned (.bool true) ∧ Below w.heap.size w w' := by
  have hk9 := i64_bd hk
  have hl := rowB_len r
  have r2 := rowB_take r 100
  have h100 := len100 xs
  go_enter Try.func4, Try.ntmps4
  go_wp2_with fail
  refine (few_any a c xs w r hl).mono ?_
  rintro e w' ⟨rfl, rfl⟩
  generalize xs.take 100 = ys at *
  go_wp2_with fail
  refine (get_any a c ys n k _ r2 (by omega)).mono ?_
  rintro e w' ⟨rfl, rfl⟩
  generalize hg : getF ys n k = g
  have HG := hid hg; clear hg
  unfold getV
  go_wp2_with fail
  refine (getRef_any a c ys n k _ r2 (by omega) hk9.1).mono ?_
  rintro e w' ⟨rfl, rfl⟩
  rw [HG.out]
  unfold getV
  go_wp2_with fail
  refine (lives_any _).mono ?_
  rintro e w4 ⟨rfl, b4⟩
  go_wp2_with fail
  go_ret
  exact ⟨rfl, b4⟩

set_option maxHeartbeats 400000 in
theorem NumRounds_walk (w : World) (n : Int) (hn : (Lit.int .i64 n).wf = true) (k : Int) (hk : (Lit.int .i64 k).wf = true) :
    Calls Try.prog 8 #[.int .i64 n, .int .i64 k] w fun e w' => e = .returned (.bool true) ∧ Below w.heap.size w w' := by
  go_enter Try.func8, Try.ntmps8
  go_wp2_with fail
  refine (up_any n k _).mono ?_
  rintro e w' ⟨rfl, rfl⟩
  go_wp2_with fail
  refine (upRef_any n k _).mono ?_
  rintro e w' ⟨rfl, rfl⟩
  have h1 : (upF n k == upF n k) = true := by simp
  go_wp2_with fail
  refine (down_any n k _).mono ?_
  rintro e w' ⟨rfl, rfl⟩
  go_wp2_with fail
  refine (downRef_any n k _).mono ?_
  rintro e w' ⟨rfl, rfl⟩
  have h2 : (downF n k == downF n k) = true := by simp
  go_wp2_with fail
  refine (lives_any _).mono ?_
  rintro e w4 ⟨rfl, b4⟩
  go_wp2_with fail
  go_ret
  exact ⟨rfl, b4⟩

theorem near_facts {n to : Int} (h : roundsB n to = true) : upF n to % to = 0 ∧ downF n to % to = 0 ∧ n ≤ upF n to ∧ upF n to - n < to ∧ downF n to ≤ n ∧ n - downF n to < to ∧ 0 ≤ upF n to ∧ 0 ≤ downF n to ∧ upF n to ≤ 1152921505680588800 := by
  have hb := rounds_and.1 h
  obtain ⟨g1, g2, g3, g4⟩ := hb
  have hm := mod_bd (n := n) g3
  have e1 := Int.emod_add_mul_ediv n to
  have hd : (n - n % to) % to = 0 := by
    rw [show n - n % to = to * (n / to) from by omega]; exact Int.mul_emod_right _ _
  have hq : 0 ≤ n - n % to := by
    have := Int.mul_nonneg (by omega : 0 ≤ to) (Int.ediv_nonneg g1 (by omega : 0 ≤ to)); omega
  unfold upF downF
  rw [if_pos h, if_pos h]
  by_cases hz : n % to = 0
  · rw [if_pos hz]
    refine ⟨hz, hd, by omega, by omega, by omega, by omega, by omega, hq, by omega⟩
  · rw [if_neg hz]
    refine ⟨?_, hd, by omega, by omega, by omega, by omega, by omega, hq, by omega⟩
    rw [Int.add_emod, hd]; simp

set_option maxHeartbeats 400000 in
theorem NumNear_walk (w : World) (n : Int) (hn : (Lit.int .i64 n).wf = true) (k : Int) (hk : (Lit.int .i64 k).wf = true) :
    Calls Try.prog 9 #[.int .i64 n, .int .i64 k] w fun e w' => e = .returned (.bool true) ∧ Below w.heap.size w w' := by
  by_cases hr : roundsB n k = true
  · obtain ⟨g1, g2, g3, g4⟩ := rounds_and.1 hr
    obtain ⟨f1, f2, f3, f4, f5, f6, f7, f8, f9⟩ := near_facts hr
    clear hr
    generalize hu : upF n k = u at *
    generalize hd : downF n k = d at *
    have HU := hid hu; have HD := hid hd; clear hu hd
    go_enter Try.func9, Try.ntmps9
    go_wp2_with fail
    refine (up_any n k _).mono ?_
    rintro e w' ⟨rfl, rfl⟩
    rw [HU.out]
    go_wp2_with fail
    refine (down_any n k _).mono ?_
    rintro e w' ⟨rfl, rfl⟩
    rw [HD.out]
    go_wp2_with fail
    refine (lives_any _).mono ?_
    rintro e w4 ⟨rfl, b4⟩
    go_wp2_with fail
    go_ret
    exact ⟨rfl, b4⟩
  · have E : Hid (upF n k = n) := by show _ = _; rw [upF, if_neg hr]
    have E2 : Hid (downF n k = n) := by show _ = _; rw [downF, if_neg hr]
    have hnn : ¬ (0 ≤ n ∧ n ≤ 1152921504606846976 ∧ 1 ≤ k ∧ k ≤ 1073741824) := fun h => hr (rounds_and.2 h)
    clear hr
    have hcase : n < 0 ∨ (0 ≤ n ∧ 1152921504606846976 < n) ∨ (0 ≤ n ∧ n ≤ 1152921504606846976 ∧ k < 1) ∨ (0 ≤ n ∧ n ≤ 1152921504606846976 ∧ 1 ≤ k ∧ 1073741824 < k) := by omega
    clear hnn
    have hnne : (n == n) = true := by simp
    rcases hcase with h1 | ⟨h1, h2⟩ | ⟨h1, h2, h3⟩ | ⟨h1, h2, h3, h4⟩
    all_goals
      go_enter Try.func9, Try.ntmps9
      go_wp2_with fail
      refine (up_any n k _).mono ?_
      rintro e w' ⟨rfl, rfl⟩
      rw [E.out]
      go_wp2_with fail
      refine (down_any n k _).mono ?_
      rintro e w' ⟨rfl, rfl⟩
      rw [E2.out]
      go_wp2_with fail
      refine (lives_any _).mono ?_
      rintro e w4 ⟨rfl, b4⟩
      go_wp2_with fail
      go_ret
      exact ⟨rfl, b4⟩

theorem rotF_small {x : Nat} {m : Int} (h : 0 ≤ m) (h32 : m < 32) : rotF x m = rotN m.toNat x := by
  rw [rotF, if_neg (by omega), Int.emod_eq_of_lt h h32]
theorem rotF_twice {x : Nat} (hx : x < 4294967296) {a b : Int} (ha : 0 ≤ a) (ha2 : a < 32) (hb : 0 ≤ b) (hb2 : b < 32) : rotF (rotF x a) b = rotF x (a + b) := by
  rw [rotF_small ha ha2, rotF_small hb hb2, ← rotN_add]
  rw [rotF, if_neg (by omega)]
  by_cases h : a + b < 32
  · rw [Int.emod_eq_of_lt (by omega) h]; congr 1; omega
  · have e : a.toNat + b.toNat = 32 + ((a + b) % 32).toNat := by omega
    rw [e, rotN_add, rotN_32 hx]

set_option maxHeartbeats 400000 in
theorem NumTurns_walk (w : World) (x : Int) (hx : (Lit.int .u32 x).wf = true) (n : Int) (hn : (Lit.int .i64 n).wf = true) (k : Int) (hk : (Lit.int .i64 k).wf = true) :
    Calls Try.prog 10 #[.int .u32 x, .int .i64 n, .int .i64 k] w fun e w' => e = .returned (.bool true) ∧ Below w.heap.size w w' := by
  have hx2 := u32_bd hx
  obtain ⟨X, rfl⟩ := Int.eq_ofNat_of_zero_le hx2.1
  have hX : X < 4294967296 := by omega
  have hn9 := i64_bd hn
  have hk9 := i64_bd hk
  clear hx hn hk
  by_cases hneg : n < 0 ∨ k < 0
  · have hc : n < 0 ∨ (0 ≤ n ∧ k < 0) := by omega
    clear hneg
    have hrr : ((rotF X n : Int) == (rotF X n : Int)) = true := by simp
    rcases hc with h | ⟨h, h'⟩
    all_goals
      go_enter Try.func10, Try.ntmps10
      go_wp2_with fail
      refine (rotate_any X n _ hX hn9).mono ?_
      rintro e w' ⟨rfl, rfl⟩
      go_wp2_with fail
      refine (rotateRef_any X n _ hX hn9).mono ?_
      rintro e w' ⟨rfl, rfl⟩
      go_wp2_with fail
      refine (lives_any _).mono ?_
      rintro e w4 ⟨rfl, b4⟩
      go_wp2_with fail
      go_ret
      exact ⟨rfl, b4⟩
  · have h0 : 0 ≤ n := by omega
    have h1 : 0 ≤ k := by omega
    clear hneg
    have hlt : rotF X (n % 32) < 4294967296 := rotN_lt hX _
    have e3 : rotF (rotF X (n % 32)) (k % 32) = rotF X (n % 32 + k % 32) := rotF_twice hX (by omega) (by omega) (by omega) (by omega)
    have e4 : rotF X 32 = X := rfl
    have E3 := hid e3; have E4 := hid e4; clear e3 e4
    have hrr : ((rotF X n : Int) == (rotF X n : Int)) = true := by simp
    have hss : ((rotF X (n % 32 + k % 32) : Int) == (rotF X (n % 32 + k % 32) : Int)) = true := by simp
    have hxx : ((X : Int) == (X : Int)) = true := by simp
    go_enter Try.func10, Try.ntmps10
    go_wp2_with fail
    refine (rotate_any X (n % 32) _ hX (by omega)).mono ?_
    rintro e w' ⟨rfl, rfl⟩
    go_wp2_with fail
    refine (rotate_any (rotF X (n % 32)) (k % 32) _ hlt (by omega)).mono ?_
    rintro e w' ⟨rfl, rfl⟩
    rw [E3.out]
    go_wp2_with fail
    refine (rotate_any X n _ hX hn9).mono ?_
    rintro e w' ⟨rfl, rfl⟩
    go_wp2_with fail
    refine (rotateRef_any X n _ hX hn9).mono ?_
    rintro e w' ⟨rfl, rfl⟩
    go_wp2_with fail
    refine (rotate_any X (n % 32 + k % 32) _ hX (by omega)).mono ?_
    rintro e w' ⟨rfl, rfl⟩
    go_wp2_with fail
    refine (rotate_any X 32 _ hX (by omega)).mono ?_
    rintro e w' ⟨rfl, rfl⟩
    rw [E4.out]
    go_wp2_with fail
    refine (lives_any _).mono ?_
    rintro e w4 ⟨rfl, b4⟩
    go_wp2_with fail
    go_ret
    exact ⟨rfl, b4⟩

theorem ofLE_le (k n : Nat) (h : n < 256 ^ k) : ofLE (le k n) = n := by
  induction k generalizing n with
  | zero => simp [le, ofLE] at *; omega
  | succ k ih =>
    have : n / 256 < 256 ^ k := by rw [Nat.pow_succ] at h; omega
    simp only [le, ofLE, ih _ this]
    simp; omega

theorem fits_pow {n k : Int} (h : fitsB n k = true) (hn : n ≤ 9223372036854775807) : n.toNat < 256 ^ k.toNat ∧ widthB k = true := by
  have hw := fitsB_width h
  by_cases k1 : k = 1
  · subst k1; simp [fitsB] at h; simp [widthB]; omega
  by_cases k2 : k = 2
  · subst k2; simp [fitsB] at h; simp [widthB]; omega
  by_cases k4 : k = 4
  · subst k4; simp [fitsB] at h; simp [widthB]; omega
  by_cases k8 : k = 8
  · subst k8; simp [widthB]; omega
  rw [fitsB_else n k1 k2 k4 k8] at h; cases h

theorem get_put {n k : Int} (h : fitsB n k = true) (hn : n ≤ 9223372036854775807) : getF (putF [] n k) 0 k = some n.toNat := by
  obtain ⟨h1, h2⟩ := fits_pow h hn
  have hw := fitsB_width h
  have e : putF [] n k = le k.toNat n.toNat := by simp [putF, h]
  rw [e]
  unfold getF
  rw [if_pos ⟨h2, by omega, by simp [le_length]; omega⟩]
  have e2 : ((le k.toNat n.toNat).drop (0 : Int).toNat).take k.toNat = le k.toNat n.toNat := by
    simp; exact List.take_of_length_le (by simp [le_length])
  rw [e2, ofLE_le _ _ h1, if_pos (by omega)]

theorem put_inj {n m k : Int} (h1 : fitsB n k = true) (h2 : fitsB m k = true) (hn : n ≤ 9223372036854775807) (hm : m ≤ 9223372036854775807) : decide (putF [] n k = putF [] m k) = decide (n = m) := by
  rw [decide_eq_decide]
  constructor
  · intro h
    have g1 := get_put h1 hn
    have g2 := get_put h2 hm
    rw [h, g2] at g1
    have := (fitsB_width h1).1
    have := (fitsB_width h2).1
    have := Option.some.inj g1
    omega
  · rintro rfl; rfl

set_option maxHeartbeats 400000 in
theorem round_both (w : World) (n m k : Int) (P1 P2 : List UInt8) (hn0 : 0 ≤ n) (H1 : Hid (fitsB n k = true)) (H2 : Hid (fitsB m k = true)) (HG : Hid (getF P1 0 k = some n.toNat)) (hL : ((P1.length : Int) != k) = false)
    (s : Bool) (HS : Hid (decide (P1 = P2) = s)) (hb : (n == m) = s)
    (p1 : ∀ w, Calls Try.prog 14 #[.slice none 0 0, .int .i64 n, .int .i64 k] w (RetB w P1)) (p2 : ∀ w, Calls Try.prog 14 #[.slice none 0 0, .int .i64 m, .int .i64 k] w (RetB w P2)) :
    Calls Try.prog 6 #[.int .i64 n, .int .i64 m, .int .i64 k] w fun e w' => e = .returned (.bool true) ∧ Below w.heap.size w w' := by
  have hnn : ((n.toNat : Int) != n) = false := by simp; omega
  cases s
  all_goals
    go_enter Try.func6, Try.ntmps6
    go_wp2_with fail
    refine (fits_any _ _ _).mono ?_
    rintro e w' ⟨rfl, rfl⟩
    rw [H1.out]
    go_wp2_with fail
    refine (fits_any _ _ _).mono ?_
    rintro e w' ⟨rfl, rfl⟩
    rw [H2.out]
    go_wp2_with fail
    refine (p1 w).mono ?_
    rintro e w1 ⟨a1, c1, rfl, o1, b1⟩
    go_wp2_with fail
    refine (p2 w1).mono ?_
    rintro e w2 ⟨a2, c2, rfl, o2, b2⟩
    go_wp2_with fail
    refine (get_any a1 c1 P1 0 k w2 (o1.mono b2).row (rowB_len o1.row)).mono ?_
    rintro e w' ⟨rfl, rfl⟩
    rw [HG.out]
    unfold getV
    go_wp2_with fail
    refine (same_any a1 a2 c1 c2 P1 P2 w2 (o1.mono b2).row o2.row (rowB_len o1.row) (rowB_len o2.row)).mono ?_
    rintro e w3 ⟨rfl, b3⟩
    rw [HS.out]
    go_wp2_with fail
    refine (lives_any _).mono ?_
    rintro e w4 ⟨rfl, b4⟩
    go_wp2_with fail
    go_ret
    exact ⟨rfl, kept_trans (kept_trans (kept_trans b1 b2) b3) b4⟩

set_option maxHeartbeats 400000 in
theorem round_one (w : World) (n m k : Int) (P1 P2 : List UInt8) (hn0 : 0 ≤ n) (H1 : Hid (fitsB n k = true)) (H2 : Hid (fitsB m k = false)) (HG : Hid (getF P1 0 k = some n.toNat)) (hL : ((P1.length : Int) != k) = false)
    (p1 : ∀ w, Calls Try.prog 14 #[.slice none 0 0, .int .i64 n, .int .i64 k] w (RetB w P1)) (p2 : ∀ w, Calls Try.prog 14 #[.slice none 0 0, .int .i64 m, .int .i64 k] w (RetB w P2)) :
    Calls Try.prog 6 #[.int .i64 n, .int .i64 m, .int .i64 k] w fun e w' => e = .returned (.bool true) ∧ Below w.heap.size w w' := by
  have hnn : ((n.toNat : Int) != n) = false := by simp; omega
  go_enter Try.func6, Try.ntmps6
  go_wp2_with fail
  refine (fits_any _ _ _).mono ?_
  rintro e w' ⟨rfl, rfl⟩
  rw [H1.out]
  go_wp2_with fail
  refine (fits_any _ _ _).mono ?_
  rintro e w' ⟨rfl, rfl⟩
  rw [H2.out]
  go_wp2_with fail
  refine (p1 w).mono ?_
  rintro e w1 ⟨a1, c1, rfl, o1, b1⟩
  go_wp2_with fail
  refine (p2 w1).mono ?_
  rintro e w2 ⟨a2, c2, rfl, o2, b2⟩
  go_wp2_with fail
  refine (get_any a1 c1 P1 0 k w2 (o1.mono b2).row (rowB_len o1.row)).mono ?_
  rintro e w' ⟨rfl, rfl⟩
  rw [HG.out]
  unfold getV
  go_wp2_with fail
  refine (lives_any _).mono ?_
  rintro e w4 ⟨rfl, b4⟩
  go_wp2_with fail
  go_ret
  exact ⟨rfl, kept_trans (kept_trans b1 b2) b4⟩

set_option maxHeartbeats 400000 in
theorem round_none (w : World) (n m k : Int) (b : Bool) (P1 P2 : List UInt8) (H1 : Hid (fitsB n k = false)) (H2 : Hid (fitsB m k = b))
    (p1 : ∀ w, Calls Try.prog 14 #[.slice none 0 0, .int .i64 n, .int .i64 k] w (RetB w P1)) (p2 : ∀ w, Calls Try.prog 14 #[.slice none 0 0, .int .i64 m, .int .i64 k] w (RetB w P2)) :
    Calls Try.prog 6 #[.int .i64 n, .int .i64 m, .int .i64 k] w fun e w' => e = .returned (.bool true) ∧ Below w.heap.size w w' := by
  go_enter Try.func6, Try.ntmps6
  go_wp2_with fail
  refine (fits_any _ _ _).mono ?_
  rintro e w' ⟨rfl, rfl⟩
  rw [H1.out]
  go_wp2_with fail
  refine (fits_any _ _ _).mono ?_
  rintro e w' ⟨rfl, rfl⟩
  rw [H2.out]
  go_wp2_with fail
  refine (p1 w).mono ?_
  rintro e w1 ⟨a1, c1, rfl, o1, b1⟩
  go_wp2_with fail
  refine (p2 w1).mono ?_
  rintro e w2 ⟨a2, c2, rfl, o2, b2⟩
  go_wp2_with fail
  refine (lives_any _).mono ?_
  rintro e w4 ⟨rfl, b4⟩
  go_wp2_with fail
  go_ret
  exact ⟨rfl, kept_trans (kept_trans b1 b2) b4⟩

theorem NumRound_walk (w : World) (n : Int) (hn : (Lit.int .i64 n).wf = true) (m : Int) (hm : (Lit.int .i64 m).wf = true) (k : Int) (hk : (Lit.int .i64 k).wf = true) :
    Calls Try.prog 6 #[.int .i64 n, .int .i64 m, .int .i64 k] w fun e w' => e = .returned (.bool true) ∧ Below w.heap.size w w' := by
  have hn9 := i64_bd hn
  have hm9 := i64_bd hm
  have p1 : ∀ w, Calls Try.prog 14 #[.slice none 0 0, .int .i64 n, .int .i64 k] w (RetB w (putF [] n k)) := fun w => put_any none 0 [] n k w (Row.nil _ _) (by simp) hn9.2
  have p2 : ∀ w, Calls Try.prog 14 #[.slice none 0 0, .int .i64 m, .int .i64 k] w (RetB w (putF [] m k)) := fun w => put_any none 0 [] m k w (Row.nil _ _) (by simp) hm9.2
  by_cases h1 : fitsB n k = true
  · have hw := fitsB_width h1
    have hL : (((putF [] n k).length : Int) != k) = false := by simp [putF, h1, le_length]; omega
    by_cases h2 : fitsB m k = true
    · refine round_both w n m k _ _ hw.1 h1 h2 (get_put h1 hn9.2) hL (decide (n = m)) (show _ = _ from put_inj h1 h2 hn9.2 hm9.2) (by rw [Bool.eq_iff_iff]; simp) p1 p2
    · exact round_one w n m k _ _ hw.1 h1 (show _ = _ by simpa using h2) (get_put h1 hn9.2) hL p1 p2
  · exact round_none w n m k _ _ _ (show _ = _ by simpa using h1) (show _ = _ from rfl) p1 p2

end Go.Proofs.Ytlbinnopaogleaa
