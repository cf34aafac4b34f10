/- The document's memory: bounds, bytes told, a cell compared, a cell kept. -/
import Derived.Test.YtcgekooahahjpaaPmM
namespace Go.Proofs.Ytcgekooahahjpaa
open Go.RowKit
set_option linter.unusedSimpArgs false
set_option linter.unusedVariables false

theorem withinR_any {w : World} {g v d a : Nat} {M : MemM} (h : MemR w g v d a M) (at_ n : Int) (ha : -9223372036854775808 ≤ at_ ∧ at_ ≤ 9223372036854775807) (hn : -9223372036854775808 ≤ n ∧ n ≤ 9223372036854775807) :
    Calls Try.prog 40 #[.pointer (some ⟨g, 0, none⟩), .int .i64 at_, .int .i64 n] w fun e w' => e = .returned (.bool (inM M at_ n)) ∧ w = w' := by
  have hl := h.1.2.2.2.2
  obtain ⟨c0, c1, c2⟩ := h.cells
  clear h
  unfold inM
  generalize M.V.length = L at *
  by_cases h1 : 0 ≤ at_
  · have d1 : decide (0 ≤ at_) = true := decide_eq_true h1
    by_cases h2 : 0 ≤ n
    · have d2 : decide (0 ≤ n) = true := decide_eq_true h2
      by_cases h4 : at_ ≤ (L : Int)
      · have d4 : decide (at_ ≤ (L : Int)) = true := decide_eq_true h4
        have e1 : IntKind.i64.wrap ((L : Int) - at_) = (L : Int) - at_ := IntWalk.i64_in _ (by omega)
        by_cases h3 : n ≤ (L : Int) - at_
        · have d3 : decide (n ≤ (L : Int) - at_) = true := decide_eq_true h3
          rw [decide_eq_true ⟨h1, h2, by omega⟩]
          go_enter Try.func40, Try.ntmps40
          go_wp2
          go_ret
          exact ⟨rfl, rfl⟩
        · have d3 : decide (n ≤ (L : Int) - at_) = false := decide_eq_false h3
          rw [decide_eq_false (fun q => h3 (by omega))]
          go_enter Try.func40, Try.ntmps40
          go_wp2
          go_ret
          exact ⟨rfl, rfl⟩
      · have d4 : decide (at_ ≤ (L : Int)) = false := decide_eq_false h4
        rw [decide_eq_false (fun q => h4 (by omega))]
        go_enter Try.func40, Try.ntmps40
        go_wp2
        go_ret
        exact ⟨rfl, rfl⟩
    · have d2 : decide (0 ≤ n) = false := decide_eq_false h2
      rw [decide_eq_false (fun q => h2 q.2.1)]
      go_enter Try.func40, Try.ntmps40
      go_wp2
      go_ret
      exact ⟨rfl, rfl⟩
  · have d1 : decide (0 ≤ at_) = false := decide_eq_false h1
    rw [decide_eq_false (fun q => h1 q.1)]
    go_enter Try.func40, Try.ntmps40
    go_wp2
    go_ret
    exact ⟨rfl, rfl⟩

set_option maxHeartbeats 1000000 in
theorem loadR_any {w : World} {g v d a : Nat} {M : MemM} (h : MemR w g v d a M) (at_ n : Int) (ha : -9223372036854775808 ≤ at_ ∧ at_ ≤ 9223372036854775807) (hn : -9223372036854775808 ≤ n ∧ n ≤ 9223372036854775807) :
    Calls Try.prog 30 #[.pointer (some ⟨g, 0, none⟩), .int .i64 at_, .int .i64 n, .bool false] w (LoadP M.V M at_ n w) := by
  have HW := hid (withinR_any h at_ n ha hn)
  by_cases hi : inM M at_ n = true
  · have hE : LoadP M.V M at_ n w = fun e w' => ∃ a c, e = .returned (.tuple #[.slice a n.toNat c, .int .i64 0]) ∧ OwnB w' w.heap.size a c ((M.V.drop at_.toNat).take n.toNat) ∧ Below w.heap.size w w' := by
      funext e w'; unfold LoadP; rw [if_pos hi]
    rw [hE]
    clear hE
    rw [hi] at HW
    obtain ⟨a0, n0, rfl, rfl, hl⟩ := inM_true hi
    rw [show ((a0 : Int)).toNat = a0 from rfl, show ((n0 : Int)).toNat = n0 from rfl]
    obtain ⟨c0, c1, c2⟩ := h.cells
    have hVl := h.1.2.2.2.2
    have e1 : IntKind.i64.wrap ((a0 : Int) + n0) = (a0 : Int) + n0 := IntWalk.i64_in _ (by omega)
    have f1 : (0 ≤ (a0 : Int) + n0) = True := eq_true (by omega)
    have f2 : ((a0 : Int) + n0 ≤ (M.V.length : Int)) = True := eq_true (by omega)
    have f3 : ((a0 : Int) + n0).toNat = a0 + n0 := by omega
    have f5 : ((a0 : Int) ≤ (M.V.length : Int)) = True := eq_true (by omega)
    have f6 : (a0 ≤ M.V.length) = True := eq_true (by omega)
    have f7 : (a0 + n0 ≤ M.V.length) = True := eq_true (by omega)
    have f8 : (a0 ≤ a0 + n0) = True := eq_true (by omega)
    have hyl : ((M.V.drop a0).take n0).length = n0 := by simp; omega
    obtain ⟨dp, hdp⟩ : ∃ dp, (if M.V.length = a0 then (some ⟨v, 0, none⟩ : Option Addr) else some ⟨v, a0, none⟩) = dp := ⟨_, rfl⟩
    have hrow : Row w 1 dp n0 (M.V.length - a0) (((M.V.drop a0).take n0).map byteV) := by
      by_cases h4 : M.V.length = a0
      · rw [if_pos h4] at hdp
        obtain rfl : n0 = 0 := by omega
        exact ⟨by simp, Nat.zero_le _, by unfold maxLen; omega, (fun q => by rw [q] at hdp; cases hdp), fun q => absurd q (by omega)⟩
      · rw [if_neg h4] at hdp
        rw [← hdp, List.map_take, List.map_drop]
        exact row_mid h.2.2.2.1 a0 n0 (M.V.length - a0) (by omega) (by omega) (by simp; omega)
    have HR := hid hrow
    generalize (M.V.drop a0).take n0 = ys at *
    have HY := hid hyl
    clear hyl h hi hrow
    go_enter Try.func30, Try.ntmps30
    go_wp2_with (first
      | (go_at_call 40; refine HW.out.mono ?_; rintro e w1 ⟨rfl, rfl⟩)
      | (at_builtin; refine wpl_append rfl (.tmp 30) (.tmp 39) rfl E8 w.heap.size rfl rfl (Own.nil _ _ _ _) HR.out (byteV_one ys) (by omega) (by omega) (Nat.le_refl _) ?_; intro a2 c2 w2 o2 g2 b2; have O2 := hid o2; have B2 := hid b2; clear o2 g2 b2))
    go_ret2
    refine ⟨a2, c2, by simp, ?_, B2.out⟩
    have := O2.out
    unfold OwnB
    rw [HY.out]
    simpa using this
  · have hE : LoadP M.V M at_ n w = fun e w' => e = .returned (.tuple #[.slice none 0 0, .int .i64 1]) ∧ w = w' := by
      funext e w'; unfold LoadP; rw [if_neg hi]
    rw [hE]
    clear hE
    rw [show inM M at_ n = false by simpa using hi] at HW
    clear hi h
    go_enter Try.func30, Try.ntmps30
    go_wp2_with (first | (go_at_call 40; refine HW.out.mono ?_; rintro e w1 ⟨rfl, rfl⟩))
    go_ret2
    exact ⟨rfl, rfl⟩

theorem dirtyB_get (V D : List UInt8) (k : Nat) : dirtyB V D k = true ↔ cell8 V k ≠ cell8 D k := by simp [dirtyB]
theorem cell8_eq {V D : List UInt8} {k : Nat} (hl : D.length = V.length) (h : 8 * k + 8 ≤ V.length) : cell8 V k = cell8 D k ↔ ∀ i, i < 8 → bAt V (8 * k + i) = bAt D (8 * k + i) := by
  have h1 := cell8_len (X := V) h
  have h2 := cell8_len (X := D) (k := k) (by omega)
  constructor
  · intro e i hi
    have a := cell8_get (X := V) (k := k) hi
    have b := cell8_get (X := D) (k := k) hi
    unfold bAt
    rw [← a, ← b, e]
  · intro q
    refine list8_ext (by omega) fun i hi => ?_
    rw [h2] at hi
    rw [cell8_get hi, cell8_get hi]
    exact UInt8.toNat_inj.1 (q i hi)
theorem blk_byte {w : World} {g : Nat} {X : List UInt8} (h : Blk w g 5 (X.map byteV)) {i : Nat} (hi : i < X.length) : w.cell? ⟨g, i, none⟩ = some (.int .u8 (bAt X i : Int)) := by
  rw [h.cell (i := i) (by simpa using hi)]
  simp [byteV, bAt_eq hi]

set_option maxHeartbeats 2000000 in
theorem dirtyR_any {w : World} {g v d a : Nat} {M : MemM} (h : MemR w g v d a M) (k : Nat) (hk : k < M.A.length) :
    Calls Try.prog 41 #[.pointer (some ⟨g, 0, none⟩), .int .i64 (k : Int)] w fun e w' => e = .returned (.bool (dirtyB M.V M.D k)) ∧ Below w.heap.size w w' := by
  have hVl := h.1.2.2.2.2
  have hAl := h.1.2.1
  have hDl := h.1.1
  have hk8 : 8 * k + 8 ≤ M.V.length := by omega
  have e0 : IntKind.i64.wrap (8 * (k : Int)) = ((8 * k : Nat) : Int) := by rw [IntWalk.i64_in _ (by omega)]; omega
  have hq := cell8_eq hDl hk8
  have hdb := dirtyB_get M.V M.D k
  have HQ := hid hq; have HDB := hid hdb; have H := hid h; have HDL := hid hDl
  clear h hq hdb hDl hAl
  generalize hdd : dirtyB M.V M.D k = db at *
  generalize h8 : 8 * k = q at *
  have e1 : IntKind.i64.wrap ((q : Int) + 8) = (q : Int) + 8 := IntWalk.i64_in _ (by omega)
  clear h8 hdd
  go_enter Try.func41, Try.ntmps41
  go_wp2
  go_loopw [5] (fun i wr => ∃ j : Nat, j ≤ 8 ∧ i = .int .i64 (q + j : Nat) ∧ (∀ i, i < j → bAt M.V (q + i) = bAt M.D (q + i)) ∧ Below w.heap.size w wr) (fun i _ => q + 8 - (intOf i).toNat)
  case atStart => exact ⟨0, by omega, rfl, fun i hi => absurd hi (by omega), Below.refl _ _⟩
  case round =>
    obtain ⟨j, hj, rfl, hp, br⟩ := hrel
    have HP := hid hp
    have hm := H.out.mono br
    obtain ⟨c0, c1, c2⟩ := hm.cells
    have i0 : ((q + j : Nat) : Int) = (q : Int) + j := by omega
    by_cases hjc : j < 8
    · have cv := blk_byte hm.2.2.2.1 (i := q + j) (by omega)
      have cd := blk_byte hm.2.2.2.2.1 (i := q + j) (by have := HDL.out; omega)
      have i1 : ((q + j : Nat) : Int) < (q : Int) + 8 := by omega
      have i2 : ((q + j : Nat) : Int) < (M.V.length : Int) := by omega
      have i3 : q + j < M.V.length := by omega
      have e3 : IntKind.i64.wrap (((q + j : Nat) : Int) + 1) = ((q + j : Nat) : Int) + 1 := IntWalk.i64_in _ (by omega)
      have BR := hid br
      clear hm hp i0 br
      generalize hx : bAt M.V (q + j) = x at *
      generalize hy : bAt M.D (q + j) = y at *
      have HX := hid hx; have HY := hid hy
      clear hx hy
      generalize hK : q + j = K at *
      have HK := hid hK
      clear hK
      by_cases hxy : x = y
      · subst hxy
        go_wp2_with fail
        go_quiet (fail)
        go_wp2
        go_roundw
        case rel =>
          have hK := HK.out
          refine ⟨j + 1, by omega, by go_num, fun i hi => ?_, bel_drewN BR.out _⟩
          rcases Nat.lt_succ_iff_lt_or_eq.1 hi with q1 | rfl
          · exact HP.out i q1
          · rw [hK, HX.out, HY.out]
        case measure => have hK := HK.out; simp [intOf]; omega
      · have hne : ((x : Int) != (y : Int)) = true := by simp; omega
        have HNE := hid hxy
        clear hxy
        go_wp2_with fail
        go_quiet (fail)
        go_wp2
        go_ret
        refine ⟨ret_bool ?_, bel_drewN BR.out _⟩
        refine (HDB.out.2 (fun e => HNE.out ?_)).symm
        have := HQ.out.1 e j hjc
        rw [HK.out, HX.out, HY.out] at this
        exact this
    · obtain rfl : j = 8 := by omega
      clear hm hp
      go_wp2
      go_ret
      refine ⟨ret_bool ?_, br⟩
      have : ¬ (db = true) := fun e => (HDB.out.1 e) (HQ.out.2 HP.out)
      simpa using this
end Go.Proofs.Ytcgekooahahjpaa
