import Derived.Test.YtlbinnopaogleaaNumM
namespace Go.Proofs.Ytlbinnopaogleaa
open Go.RowKit
set_option linter.unusedSimpArgs false
set_option linter.unusedVariables false

theorem length_splice' {α : Type} (L : List α) (off : Nat) (cs : List α) (h : off + cs.length ≤ L.length) : (splice L off cs).length = L.length := length_splice L off cs h

theorem map_splice {α β : Type} (f : α → β) (L : List α) (off : Nat) (cs : List α) : (splice L off cs).map f = splice (L.map f) off (cs.map f) := by
  simp [splice]

theorem getElem?_splice {α : Type} (L : List α) (off : Nat) (cs : List α) (h : off + cs.length ≤ L.length) (i : Nat) :
    (splice L off cs)[i]? = if off ≤ i ∧ i < off + cs.length then cs[i - off]? else L[i]? := by
  unfold splice
  have h1 : (L.take off).length = off := by simp; omega
  by_cases a : i < off
  · rw [List.getElem?_append_left (by omega), List.getElem?_take, if_pos a, if_neg (by omega)]
  · rw [List.getElem?_append_right (by omega), h1]
    by_cases b : i < off + cs.length
    · rw [List.getElem?_append_left (by omega), if_pos (by omega)]
    · rw [List.getElem?_append_right (by omega), List.getElem?_drop, if_neg (by omega)]
      congr 1; omega

theorem bAt_splice {L cs : List UInt8} {off : Nat} (h : off + cs.length ≤ L.length) (i : Nat) :
    bAt (splice L off cs) i = if off ≤ i ∧ i < off + cs.length then bAt cs (i - off) else bAt L i := by
  unfold bAt
  simp only [List.getD_eq_getElem?_getD, getElem?_splice L off cs h]
  split <;> rfl

theorem get_zero (n : Nat) (at_ k : Int) : (getF (List.replicate n 0) at_ k).isSome = (widthB k && decide (0 ≤ at_) && decide (at_ + k ≤ n)) := by
  have h0 : ∀ m j, ofLE (((List.replicate n (0 : UInt8)).drop m).take j) = 0 := by
    intro m j
    have : ∀ l : List UInt8, (∀ x ∈ l, x = 0) → ofLE l = 0 := by
      intro l h
      induction l with
      | nil => rfl
      | cons x l ih => simp [ofLE, h x (List.mem_cons_self ..), ih (fun y hy => h y (List.mem_cons_of_mem _ hy))]
    exact this _ (fun x hx => (List.mem_replicate.1 (List.mem_of_mem_drop (List.mem_of_mem_take hx))).2)
  unfold getF
  simp only [h0, List.length_replicate]
  by_cases hc : widthB k = true ∧ 0 ≤ at_ ∧ at_ + k ≤ n
  · rw [if_pos hc]; simp [hc]
  · rw [if_neg hc]
    cases hw : widthB k
    · simp
    · have h3 : ¬ (0 ≤ at_ ∧ at_ + k ≤ n) := fun h => hc ⟨hw, h⟩
      simp; omega

theorem fits_widthB {n k : Int} (h : fitsB n k = true) : widthB k = true := by
  by_cases k1 : k = 1
  · simp [widthB, k1]
  by_cases k2 : k = 2
  · simp [widthB, k2]
  by_cases k4 : k = 4
  · simp [widthB, k4]
  by_cases k8 : k = 8
  · simp [widthB, k8]
  rw [fitsB_else n k1 k2 k4 k8] at h; cases h

set_option maxHeartbeats 1000000 in
theorem sets_no (w : World) (a : Option Addr) (c : Nat) (xs : List UInt8) (r : RowB w a c xs) (at_ n k : Int) (hn : n ≤ 9223372036854775807) (hk : -9223372036854775808 ≤ k)
    (hC : ¬ (fitsB n k = true ∧ 0 ≤ at_ ∧ at_ + k ≤ (xs.take 100).length)) (hB : (fitsB n k && (getF (List.replicate (xs.take 100).length 0) at_ k).isSome) = false) :
    Calls Try.prog 5 #[.slice a xs.length c, .int .i64 at_, .int .i64 n, .int .i64 k] w fun e w' => e = .returned (.bool true) ∧ Below w.heap.size w w' := by
  have t1 : True := trivial
  have hl := rowB_len r
  have r2 := rowB_take r 100
  have h100 := len100 xs
  have HB := hid hB; clear hB
  go_enter Try.func5, Try.ntmps5
  go_wp2_with fail
  refine (few_any a c xs w r hl).mono ?_
  rintro e w' ⟨rfl, rfl⟩
  generalize xs.take 100 = ys at *
  go_wp2_with (first
    | (at_builtin; have _t := t1; refine wpl_append rfl (.tmp 19) (.tmp 20) rfl E8 w.heap.size rfl rfl (Own.nil _ _ _ _) r2 (byteV_one ys) (by omega) (by omega) (Nat.le_refl _) ?_; clear t1; intro a1 c1 w1 hown hgrow b1; simp only [Nat.zero_add, List.nil_append] at hown))
  refine (setNot_any _ _ _ _ _ _ _ (by omega) hC).mono ?_
  rintro e w' ⟨rfl, rfl⟩
  clear hgrow
  go_wp2_with fail
  refine (fitsRef_any _ _ _).mono ?_
  rintro e w' ⟨rfl, rfl⟩
  have hz : (List.replicate ys.length (0 : UInt8)).length = ys.length := by simp
  go_wp2_with (first
    | (at_make; refine wpl_make rfl (.tmp 32) (.tmp 32) rfl Try.underlying22 info8 rfl (n := ys.length) rfl rfl rfl rfl (by omega) (by omega) ?_; intro w2 hblk b2))
  have hrz : RowB w2 (some ⟨w1.heap.size, 0, none⟩) ys.length (List.replicate ys.length 0) := by
    have := (Own.of_blk (B := w1.heap.size) (sz := 1) (n := ys.length) (c := ys.length) hblk (Nat.le_refl _) (Nat.le_refl _) (by unfold maxLen; omega) (by simp)).row
    rw [List.take_of_length_le (by simp)] at this
    unfold RowB
    rw [hz, show (List.replicate ys.length (0 : UInt8)).map byteV = List.replicate ys.length (.int .u8 0) from by simp [byteV]]
    exact this
  have hget := getRef_any (some ⟨w1.heap.size, 0, none⟩) ys.length (List.replicate ys.length 0) at_ k w2 hrz (by rw [hz]; omega) hk
  rw [hz] at hget
  clear hz
  refine hget.mono ?_
  rintro e w' ⟨rfl, rfl⟩
  clear hget
  generalize hg : getF (List.replicate ys.length 0) at_ k = g at *
  clear hg
  unfold getV
  have r3 := (r2.mono b1).mono b2
  have r4 := hown.mono b2
  have hbb := kept_trans b1 b2
  clear r r2 hblk hrz
  generalize hf : fitsB n k = f at *
  generalize hs : g.isSome = s at *
  clear hf hs
  have hput := putRef_any none 0 [] n k
  have HP := hid hput; clear hput
  have H := HB.out
  clear hC
  cases f <;> cases s <;> first | (exfalso; revert H; simp; done) | skip
  all_goals
    clear H
    go_wp2_with fail
    refine (HP.out w2 (Row.nil _ _) (by simp) hn).mono ?_
    rintro e w3 ⟨a3, c3, rfl, o3, b3⟩
    have r5 := r3.mono b3
    have r6 := (r4.mono b3).row
    clear r3 r4 hown
    go_wp2_with fail
    go_loop [15, 16] (fun i _ => ∃ j : Nat, j ≤ ys.length ∧ i = .int .i64 j) (fun i _ => ys.length - (intOf i).toNat)
    case atStart => exact ⟨0, Nat.zero_le _, rfl⟩
    case round =>
      obtain ⟨j, hj, rfl⟩ := hrel
      by_cases hlt : j < ys.length
      · obtain ⟨ba, oa, rfl, hba, hca⟩ := r5.bytes (by omega)
        obtain ⟨bo, oo, rfl, hbo, hco⟩ := r6.bytes (by omega)
        have ca := hca j hlt
        have co := hco j hlt
        have hne : ((bAt ys j : Int) != (bAt ys j : Int)) = false := by simp
        clear hca hco r5 r6
        go_wp2
        go_round
        case rel => exact ⟨j + 1, by omega, by go_num⟩
        case measure => simp [intOf]; omega
      · obtain rfl : j = ys.length := by omega
        go_wp2_with fail
        refine (lives_any _).mono ?_
        rintro e w4 ⟨rfl, b4⟩
        go_wp2_with fail
        go_ret
        exact ⟨rfl, kept_trans (kept_trans hbb b3) b4⟩

theorem own_bytes {w : World} {B g c : Nat} {xs : List UInt8} (h : OwnB w B (some ⟨g, 0, none⟩) c xs) : ∃ Z : List Value, Blk w g 5 (xs.map byteV ++ Z) ∧ B ≤ g ∧ xs.length + Z.length ≤ 9223372036854775807 ∧ xs.length + Z.length = c := by
  obtain ⟨L, h1, h2, h3, h4, h5, h6⟩ := Own.blk h
  refine ⟨L.drop xs.length, ?_, h3, ?_, ?_⟩
  · have : L = xs.map byteV ++ L.drop xs.length := by
      rw [Nat.mul_one] at h4
      rw [← h4, List.take_append_drop]
    rw [← this]; exact h1
  · unfold maxLen at h6; simp; omega
  · simp; omega

theorem splice_append {α : Type} (A Z cs : List α) (off : Nat) (h : off + cs.length ≤ A.length) : splice (A ++ Z) off cs = splice A off cs ++ Z := by
  unfold splice
  rw [List.take_append_of_le_length (by omega), List.drop_append_of_le_length (by omega)]
  simp

theorem blk_row {w : World} {g c : Nat} {xs : List UInt8} {Z : List Value} (h : Blk w g 5 (xs.map byteV ++ Z)) (hc : xs.length + Z.length = c) (hl : c ≤ 9223372036854775807) : RowB w (some ⟨g, 0, none⟩) c xs := by
  have := (Own.of_blk (B := 0) (sz := 1) (n := xs.length) (c := c) h (Nat.zero_le _) (by omega) (by unfold maxLen; omega) (by simp; omega)).row
  rw [List.take_left' (by simp)] at this
  exact this

set_option maxHeartbeats 1000000 in
theorem sets_yes (w : World) (a : Option Addr) (c : Nat) (xs : List UInt8) (r : RowB w a c xs) (A N K : Nat) (hn : N ≤ 9223372036854775807)
    (hf : fitsB N K = true) (h1 : A + K ≤ (xs.take 100).length) (hB : (getF (List.replicate (xs.take 100).length 0) A K).isSome = true) :
    Calls Try.prog 5 #[.slice a xs.length c, .int .i64 A, .int .i64 N, .int .i64 K] w fun e w' => e = .returned (.bool true) ∧ Below w.heap.size w w' := by
  have t1 : True := trivial
  have hl := rowB_len r
  have r2 := rowB_take r 100
  have h100 := len100 xs
  have HB := hid hB; clear hB
  have hK := fitsB_width hf
  have hput : putF [] N K = le K N := by simp [putF, hf]
  have HP := hid hput; clear hput
  have HF := hid hf; clear hf
  go_enter Try.func5, Try.ntmps5
  go_wp2_with fail
  refine (few_any a c xs w r hl).mono ?_
  rintro e w' ⟨rfl, rfl⟩
  generalize xs.take 100 = ys at *
  go_wp2_with (first
    | (at_builtin; have _t := t1; refine wpl_append rfl (.tmp 19) (.tmp 20) rfl E8 w.heap.size rfl rfl (Own.nil _ _ _ _) r2 (byteV_one ys) (by omega) (by omega) (Nat.le_refl _) ?_; clear t1; intro a1 c1 w1 hown hgrow b1; simp only [Nat.zero_add, List.nil_append] at hown))
  obtain ⟨g, o', rfl, _, _⟩ := hown.row.at (by omega)
  have ho' : o' = 0 := by
    rcases hown.2 with ⟨h, _⟩ | ⟨_, _, _, h, _⟩ <;> cases h; rfl
  subst ho'
  obtain ⟨Z, hblk, hBg, hZ, hZc⟩ := own_bytes hown
  have hls : (ys.map byteV ++ Z).length = ys.length + Z.length := by simp
  have hset := set_any g c1 ys.length (ys.map byteV ++ Z) A K N w1 hblk (by omega) (by omega) (by omega) (by omega) HF.out (by omega) (by omega)
  simp only [Int.toNat_natCast] at hset
  rw [splice_append _ _ _ _ (by simp [le_length]; omega), ← map_splice] at hset
  refine hset.mono ?_
  rintro e w1' ⟨rfl, hblk1, hgrow1⟩
  clear hset hgrow hown hblk hls
  have b1' : Below w.heap.size w w1' := b1.grown hgrow1 b1.size (fun k hk => by cases hk; exact hBg)
  have hsl : (splice ys A (le K N)).length = ys.length := length_splice _ _ _ (by simp [le_length]; omega)
  have rown := blk_row hblk1 (c := c1) (by omega) (by omega)
  have hbat : ∀ j, bAt (splice ys A (le K N)) j = if A ≤ j ∧ j < A + K then bAt (le K N) (j - A) else bAt ys j := fun j => by
    rw [bAt_splice (by simp [le_length]; omega), le_length]
  have r2' := r2.mono b1'
  clear hblk1 hgrow1 r r2
  generalize splice ys A (le K N) = zs at *
  have HZ := hid hbat; clear hbat
  go_wp2_with fail
  refine (fitsRef_any _ _ _).mono ?_
  rintro e w' ⟨rfl, rfl⟩
  rw [HF.out]
  have hz : (List.replicate ys.length (0 : UInt8)).length = ys.length := by simp
  have HSL := hid hsl; clear hsl
  go_wp2_with (first
    | (at_make; refine wpl_make rfl (.tmp 32) (.tmp 32) rfl Try.underlying22 info8 rfl (n := ys.length) rfl rfl rfl rfl (by omega) (by omega) ?_; intro w2 hblk b2))
  have hrz : RowB w2 (some ⟨w1'.heap.size, 0, none⟩) ys.length (List.replicate ys.length 0) := by
    have := (Own.of_blk (B := w1'.heap.size) (sz := 1) (n := ys.length) (c := ys.length) hblk (Nat.le_refl _) (Nat.le_refl _) (by unfold maxLen; omega) (by simp)).row
    rw [List.take_of_length_le (by simp)] at this
    unfold RowB
    rw [hz, show (List.replicate ys.length (0 : UInt8)).map byteV = List.replicate ys.length (.int .u8 0) from by simp [byteV]]
    exact this
  have hget := getRef_any (some ⟨w1'.heap.size, 0, none⟩) ys.length (List.replicate ys.length 0) A K w2 hrz (by rw [hz]; omega) (by omega)
  rw [hz] at hget
  clear hz
  refine hget.mono ?_
  rintro e w' ⟨rfl, rfl⟩
  clear hget
  generalize hg : getF (List.replicate ys.length 0) A K = go at *
  clear hg
  unfold getV
  rw [HB.out]
  have r3 := r2'.mono b2
  have r4 := rown.mono b2
  have hbb := kept_trans b1' b2
  clear r2' hblk hrz rown
  go_wp2_with fail
  refine (putRef_any none 0 [] N K w2 (Row.nil _ _) (by simp) (by omega)).mono ?_
  rw [HP.out]
  rintro e w3 ⟨a3, c3, rfl, o3, b3⟩
  have r5 := r3.mono b3
  have r6 := r4.mono b3
  have r7 := o3.row
  have hll : (le K N).length = K := le_length _ _
  clear r3 r4 o3
  have HLL := hid hll
  rw [hll]
  clear hll
  go_wp2_with fail
  go_loop [15, 16] (fun i _ => ∃ j : Nat, j ≤ ys.length ∧ i = .int .i64 j) (fun i _ => ys.length - (intOf i).toNat)
  case atStart => exact ⟨0, Nat.zero_le _, rfl⟩
  case round =>
    obtain ⟨j, hj, rfl⟩ := hrel
    by_cases hlt : j < ys.length
    · obtain ⟨ba, oa, rfl, hba, hca⟩ := r5.bytes (by omega)
      obtain ⟨bo, oo, ebo, hbo, hco⟩ := r6.bytes (by rw [HSL.out]; omega)
      cases ebo
      obtain ⟨bw, ow, rfl, hbw, hcw⟩ := r7.bytes (by rw [HLL.out]; omega)
      have ca := hca j hlt
      have co := hco j (by rw [HSL.out]; exact hlt)
      rw [Nat.zero_add] at co
      have hbj := HZ.out j
      have hcw' := fun (h : j - A < K) => hcw (j - A) (by rw [HLL.out]; exact h)
      clear hca hco hcw r5 r6 r7
      by_cases hin : A ≤ j ∧ j < A + K
      · rw [if_pos hin] at hbj
        rw [hbj] at co
        have cw := hcw' (by omega)
        clear hbj hcw'
        have hne : ((bAt (le K N) (j - A) : Int) != (bAt (le K N) (j - A) : Int)) = false := by simp
        have e1 : ((j : Int) - (A : Int)).toNat = j - A := by omega
        obtain ⟨i1, i2⟩ := hin
        have d1 : decide (A ≤ j) = true := decide_eq_true i1
        have d2 : decide ((j : Int) < (A : Int) + (K : Int)) = true := decide_eq_true (by omega)
        have d3 : (j : Int) < (A : Int) + (K : Int) := by omega
        go_wp2
        go_round
        case rel => exact ⟨j + 1, by omega, by go_num⟩
        case measure => simp [intOf]; omega
      · rw [if_neg hin] at hbj
        rw [hbj] at co
        clear hbj hcw'
        have hne : ((bAt ys j : Int) != (bAt ys j : Int)) = false := by simp
        have hin' : j < A ∨ A + K ≤ j := by omega
        clear hin
        rcases hin' with h | h
        all_goals
          first
            | (have d1 : decide (A ≤ j) = false := decide_eq_false (by omega))
            | (have d1 : decide (A ≤ j) = true := decide_eq_true (by omega)
               have d2 : decide ((j : Int) < (A : Int) + (K : Int)) = false := decide_eq_false (by omega)
               have d3 : (A : Int) + (K : Int) ≤ (j : Int) := by omega)
          go_wp2
          go_round
          case rel => exact ⟨j + 1, by omega, by go_num⟩
          case measure => simp [intOf]; omega
    · obtain rfl : j = ys.length := by omega
      go_wp2_with fail
      refine (lives_any _).mono ?_
      rintro e w4 ⟨rfl, b4⟩
      go_wp2_with fail
      go_ret
      exact ⟨rfl, kept_trans (kept_trans hbb b3) b4⟩

theorem NumSets_walk (w : World) (a : Option Addr) (c : Nat) (xs : List UInt8) (r : RowB w a c xs) (at_ : Int) (hat : (Lit.int .i64 at_).wf = true) (n : Int) (hn : (Lit.int .i64 n).wf = true) (k : Int) (hk : (Lit.int .i64 k).wf = true) :
    Calls Try.prog 5 #[.slice a xs.length c, .int .i64 at_, .int .i64 n, .int .i64 k] w fun e w' => e = .returned (.bool true) ∧ Below w.heap.size w w' := by
  have hn9 := i64_bd hn
  have hk9 := i64_bd hk
  have hz := get_zero (xs.take 100).length at_ k
  by_cases hC : fitsB n k = true ∧ 0 ≤ at_ ∧ at_ + k ≤ (xs.take 100).length
  · have hw := fitsB_width hC.1
    have hz2 : (getF (List.replicate (xs.take 100).length 0) at_ k).isSome = true := by
      rw [hz, fits_widthB hC.1]; simp only [Bool.true_and, Bool.and_eq_true, decide_eq_true_eq]; exact hC.2
    obtain ⟨N, rfl⟩ := Int.eq_ofNat_of_zero_le hw.1
    obtain ⟨K, rfl⟩ := Int.eq_ofNat_of_zero_le (by omega : 0 ≤ k)
    obtain ⟨A, rfl⟩ := Int.eq_ofNat_of_zero_le hC.2.1
    exact sets_yes w a c xs r A N K (by omega) hC.1 (by omega) hz2
  · refine sets_no w a c xs r at_ n k hn9.2 hk9.1 hC ?_
    rw [hz]
    cases hf : fitsB n k
    · rfl
    · have := fits_widthB hf
      have h3 : ¬ (0 ≤ at_ ∧ at_ + k ≤ (xs.take 100).length) := fun h => hC ⟨hf, h⟩
      rw [this]
      have h4 : (decide (0 ≤ at_) && decide (at_ + k ≤ ((xs.take 100).length : Int))) = false := by
        by_cases a1 : 0 ≤ at_
        · rw [decide_eq_false (fun h => h3 ⟨a1, h⟩), Bool.and_false]
        · rw [decide_eq_false a1, Bool.false_and]
      rw [Bool.true_and, Bool.true_and, h4]

end Go.Proofs.Ytlbinnopaogleaa
