/- Merged: PmM PmN PmO PmQ. -/
import Derived.Test.YtcackliabemecaaGreatDoorPmMc
import Derived.BigRegion
/- The document's memory: made, read. -/
namespace Go.Proofs.YtcackliabemecaaGreatDoor
open Go.RowKit
set_option linter.unusedSimpArgs false
set_option linter.unusedVariables false
set_option maxRecDepth 100000

def boolV (b : Bool) : Value := .bool b
theorem rep_mapB (n : Nat) : List.replicate n (Value.bool false) = (tabF n fun _ => false).map .bool := by
  apply List.ext_getElem
  · simp [tabF]
  · intro i h1 h2; simp [tabF]
theorem MemR.cells {w : World} {g v d a : Nat} {M : MemM} (h : MemR w g v d a M) :
    w.cell? ⟨g, 0, none⟩ = some (.slice (some ⟨v, 0, none⟩) M.V.length M.V.length) ∧ w.cell? ⟨g, 1, none⟩ = some (.slice (some ⟨d, 0, none⟩) M.V.length M.V.length) ∧ w.cell? ⟨g, 2, none⟩ = some (.slice (some ⟨a, 0, none⟩) M.A.length M.A.length) :=
  ⟨h.2.2.1.cell (i := 0) (by simp), h.2.2.1.cell (i := 1) (by simp), h.2.2.1.cell (i := 2) (by simp)⟩
theorem MemR.mono {w w' : World} {g v d a : Nat} {M : MemM} (h : MemR w g v d a M) (b : Below w.heap.size w w') : MemR w' g v d a M := h.turns (X := fun _ => False) (Turns.of_below b) id id id id

/-- what New tells -/
def NewR (w : World) (n : Int) (e : Ending) (w' : World) : Prop :=
  if validM n then ∃ g v d a, e = .returned (.pointer (some ⟨g, 0, none⟩)) ∧ MemR w' g v d a (newM n.toNat) ∧ (w.heap.size ≤ g ∧ w.heap.size ≤ v ∧ w.heap.size ≤ d ∧ w.heap.size ≤ a) ∧ Below w.heap.size w w' else e = .returned (.pointer none) ∧ w = w'

set_option maxHeartbeats 4000000 in
theorem newR_any (n : Int) (w : World) (hn : -9223372036854775808 ≤ n ∧ n ≤ 9223372036854775807) : Calls Tryz.prog 19 #[.int .i64 n] w (NewR w n) := by
  by_cases h : validM n
  · obtain ⟨n, rfl⟩ : ∃ m : Nat, n = (m : Int) := ⟨n.toNat, by have := h.1; omega⟩
    have HN := hid h
    obtain ⟨h1, h2, h3⟩ := h
    have d1 : decide ((n : Int) < 64) = false := decide_eq_false (by omega)
    have d2 : decide (1048576 < (n : Int)) = false := decide_eq_false (by omega)
    have e1 : (n : Int).tmod 64 = 0 := by rw [Int.tmod_eq_emod_of_nonneg (by omega)]; exact h3
    have e2 : (n : Int).tdiv 8 = ((n / 8 : Nat) : Int) := rfl
    have e3 : IntKind.i64.wrap ((n / 8 : Nat) : Int) = ((n / 8 : Nat) : Int) := IntWalk.i64_in _ (by omega)
    have hz : IntKind.i64.wrap 0 = 0 := rfl
    have h8 : n / 8 ≤ 200000 := by omega
    have hnn : n ≤ 1048576 := by omega
    obtain ⟨w1, hw1⟩ : ∃ w1, w1 = w.alloc (.cells #[.slice none 0 0, .slice none 0 0, .slice none 0 0] 61) := ⟨_, rfl⟩
    have k1 : Blk w1 w.heap.size 61 [.slice none 0 0, .slice none 0 0, .slice none 0 0] := by rw [hw1]; exact blk_newO rfl _ _
    have b1 : Below w.heap.size w w1 := by rw [hw1]; exact albO w _
    have K1 := hid k1; have B1 := hid b1; have HW1 := hid hw1
    clear h3 k1 b1 hw1 h1 h2
    generalize hN8 : n / 8 = N at *
    go_enter Tryz.func19, Tryz.ntmps19
    go_wp2_with (first
      | (at_make; (try rw [← HW1.out]); refine wpl_make rfl (.tmp 18) (.tmp 18) rfl Tryz.underlying26 (bytes := 1) (z := .int .u8 0) (by kernel_rfl) rfl rfl rfl rfl rfl (by omega) (by omega) ?_; intro w2 k2 b2; have K2 := hid k2; have B2 := hid b2; have G2 := hid (K1.out.mono b2); have f0 := G2.out.frozen 0; have z0 := G2.out.cell (i := 0) (by simp); clear k2 b2)
      | (at_make; refine wpl_make rfl (.tmp 23) (.tmp 23) rfl Tryz.underlying26 (bytes := 1) (z := .int .u8 0) (by kernel_rfl) rfl rfl rfl rfl rfl (by omega) (by omega) ?_; intro w3 k3 b3; have K3 := hid k3; have B3 := hid b3; have G3 := hid ((G2.out.set 0 _).mono b3); have V3 := hid ((K2.out.setOtherS (blk_ne K2.out G2.out (by decide)) 0 _).mono b3); have f1 := G3.out.frozen 1; have z1 := G3.out.cell (i := 1) (by simp); clear k3 b3)
      | (at_make; refine wpl_make rfl (.tmp 29) (.tmp 29) rfl Tryz.underlying59 (bytes := 1) (z := .bool false) (by kernel_rfl) rfl rfl rfl rfl rfl (by omega) (by omega) ?_; intro w4 k4 b4; have K4 := hid k4; have B4 := hid b4; have G4 := hid ((G3.out.set 1 _).mono b4); have V4 := hid ((V3.out.setOtherS (blk_ne V3.out G3.out (by decide)) 1 _).mono b4); have D4 := hid ((K3.out.setOtherS (blk_ne K3.out G3.out (by decide)) 1 _).mono b4); have f2 := G4.out.frozen 2; have z2 := G4.out.cell (i := 2) (by simp); clear k4 b4))
    go_ret
    have sw : ∀ (X : World) (q : Addr) (u : Value), (X.setCell q u).heap.size = X.heap.size := fun X q u => by simp [World.setCell]
    have g4 := G4.out; have v4 := V4.out; have d4 := D4.out; have k4 := K4.out; have hn := HN.out
    rw [sw] at d4 k4
    have sz1 := B1.out.size; have sz2 := B2.out.size; have sz3 := B3.out.size; have sz4 := B4.out.size
    rw [sw] at sz3 sz4
    have g1 := K1.out.lt; have l2 := K2.out.lt; have l3 := K3.out.lt
    rw [sw] at l3
    have bb : Below w.heap.size w (w4.setCell ⟨w.heap.size, 2, none⟩ (.slice (some ⟨w3.heap.size, 0, none⟩) N N)) := by
      have q2 := (below_trans B1.out B2.out sz1).setCell (p := ⟨w.heap.size, 0, none⟩) (Nat.le_refl _) (.slice (some ⟨w1.heap.size, 0, none⟩) n n)
      have q3 := (below_trans q2 B3.out (by rw [sw]; omega)).setCell (p := ⟨w.heap.size, 1, none⟩) (Nat.le_refl _) (.slice (some ⟨w2.heap.size, 0, none⟩) n n)
      exact (below_trans q3 B4.out (by rw [sw]; omega)).setCell (p := ⟨w.heap.size, 2, none⟩) (Nat.le_refl _) _
    unfold NewR
    rw [if_pos hn]
    refine ⟨w.heap.size, w1.heap.size, w2.heap.size, w3.heap.size, rfl, ⟨newM_ok hn, by omega, ?_, ?_, ?_, ?_⟩, ⟨Nat.le_refl _, by omega, by omega, by omega⟩, bb⟩
    · have := g4.set 2 (.slice (some ⟨w3.heap.size, 0, none⟩) N N)
      simp only [newM, List.length_replicate, Int.toNat_natCast, tabF_len, hN8]
      exact this
    · rw [rep_map] at v4; exact v4.setOtherS (by omega) 2 _
    · rw [rep_map] at d4; exact d4.setOtherS (by omega) 2 _
    · rw [rep_mapB] at k4
      simp only [newM, Int.toNat_natCast, hN8]
      exact k4.setOtherS (by omega) 2 _
  · have hE : NewR w n (.returned (.pointer none)) w := by unfold NewR; rw [if_neg h]; exact ⟨rfl, rfl⟩
    have HE := hid hE
    clear hE
    by_cases h1 : 64 ≤ n
    · have d1 : decide (n < 64) = false := decide_eq_false (by omega)
      by_cases h2 : n ≤ 1048576
      · have d2 : decide (1048576 < n) = false := decide_eq_false (by omega)
        have h3 : ¬ n % 64 = 0 := fun q => h ⟨h1, h2, q⟩
        have e1 : n.tmod 64 = n % 64 := Int.tmod_eq_emod_of_nonneg (by omega)
        have e2 : IntKind.i64.wrap (n % 64) = n % 64 := IntWalk.i64_in _ (by omega)
        clear h
        generalize n % 64 = r at *
        have d3 : (r != 0) = true := by simpa using h3
        go_enter Tryz.func19, Tryz.ntmps19
        go_wp2
        go_ret
        exact HE.out
      · have d2 : decide (1048576 < n) = true := decide_eq_true (by omega)
        go_enter Tryz.func19, Tryz.ntmps19
        go_wp2
        go_ret
        exact HE.out
    · have d1 : decide (n < 64) = true := decide_eq_true (by omega)
      go_enter Tryz.func19, Tryz.ntmps19
      go_wp2
      go_ret
      exact HE.out
end Go.Proofs.YtcackliabemecaaGreatDoor
/- The document's memory: bounds, bytes told, a cell compared, a cell kept. -/
namespace Go.Proofs.YtcackliabemecaaGreatDoor
open Go.RowKit
set_option linter.unusedSimpArgs false
set_option linter.unusedVariables false
set_option maxRecDepth 100000

theorem withinR_any {w : World} {g v d a : Nat} {M : MemM} (h : MemR w g v d a M) (at_ n : Int) (ha : -9223372036854775808 ≤ at_ ∧ at_ ≤ 9223372036854775807) (hn : -9223372036854775808 ≤ n ∧ n ≤ 9223372036854775807) :
    Calls Tryz.prog 36 #[.pointer (some ⟨g, 0, none⟩), .int .i64 at_, .int .i64 n] w fun e w' => e = .returned (.bool (inM M at_ n)) ∧ w = w' := by
  have hl := h.1.2.2.2.2
  obtain ⟨c0, c1, c2⟩ := h.cells
  clear h
  unfold inM
  generalize M.V.length = L at *
  by_cases h1 : 0 ≤ at_
  · have d1 : decide (0 ≤ at_) = true := decide_eq_true h1
    by_cases h2 : 0 ≤ n
    · have d2 : decide (0 ≤ n) = true := decide_eq_true h2
      by_cases h4 : at_ ≤ (L : Int)
      · have d4 : decide (at_ ≤ (L : Int)) = true := decide_eq_true h4
        have e1 : IntKind.i64.wrap ((L : Int) - at_) = (L : Int) - at_ := IntWalk.i64_in _ (by omega)
        by_cases h3 : n ≤ (L : Int) - at_
        · have d3 : decide (n ≤ (L : Int) - at_) = true := decide_eq_true h3
          rw [decide_eq_true ⟨h1, h2, by omega⟩]
          go_enter Tryz.func36, Tryz.ntmps36
          go_wp2
          go_ret
          exact ⟨rfl, rfl⟩
        · have d3 : decide (n ≤ (L : Int) - at_) = false := decide_eq_false h3
          rw [decide_eq_false (fun q => h3 (by omega))]
          go_enter Tryz.func36, Tryz.ntmps36
          go_wp2
          go_ret
          exact ⟨rfl, rfl⟩
      · have d4 : decide (at_ ≤ (L : Int)) = false := decide_eq_false h4
        rw [decide_eq_false (fun q => h4 (by omega))]
        go_enter Tryz.func36, Tryz.ntmps36
        go_wp2
        go_ret
        exact ⟨rfl, rfl⟩
    · have d2 : decide (0 ≤ n) = false := decide_eq_false h2
      rw [decide_eq_false (fun q => h2 q.2.1)]
      go_enter Tryz.func36, Tryz.ntmps36
      go_wp2
      go_ret
      exact ⟨rfl, rfl⟩
  · have d1 : decide (0 ≤ at_) = false := decide_eq_false h1
    rw [decide_eq_false (fun q => h1 q.1)]
    go_enter Tryz.func36, Tryz.ntmps36
    go_wp2
    go_ret
    exact ⟨rfl, rfl⟩

set_option maxHeartbeats 1000000 in
theorem loadR_any {w : World} {g v d a : Nat} {M : MemM} (h : MemR w g v d a M) (at_ n : Int) (ha : -9223372036854775808 ≤ at_ ∧ at_ ≤ 9223372036854775807) (hn : -9223372036854775808 ≤ n ∧ n ≤ 9223372036854775807) :
    Calls Tryz.prog 45 #[.pointer (some ⟨g, 0, none⟩), .int .i64 at_, .int .i64 n, .bool false] w (LoadP M.V M at_ n w) := by
  have HW := hid (withinR_any h at_ n ha hn)
  by_cases hi : inM M at_ n = true
  · have hE : LoadP M.V M at_ n w = fun e w' => ∃ a c, e = .returned (.tuple #[.slice a n.toNat c, .int .i64 0]) ∧ OwnB w' w.heap.size a c ((M.V.drop at_.toNat).take n.toNat) ∧ Below w.heap.size w w' := by
      funext e w'; unfold LoadP; rw [if_pos hi]
    rw [hE]
    clear hE
    rw [hi] at HW
    obtain ⟨a0, n0, rfl, rfl, hl⟩ := inM_true hi
    rw [show ((a0 : Int)).toNat = a0 from rfl, show ((n0 : Int)).toNat = n0 from rfl]
    obtain ⟨c0, c1, c2⟩ := h.cells
    have hVl := h.1.2.2.2.2
    have e1 : IntKind.i64.wrap ((a0 : Int) + n0) = (a0 : Int) + n0 := IntWalk.i64_in _ (by omega)
    have f1 : (0 ≤ (a0 : Int) + n0) = True := eq_true (by omega)
    have f2 : ((a0 : Int) + n0 ≤ (M.V.length : Int)) = True := eq_true (by omega)
    have f3 : ((a0 : Int) + n0).toNat = a0 + n0 := by omega
    have f5 : ((a0 : Int) ≤ (M.V.length : Int)) = True := eq_true (by omega)
    have f6 : (a0 ≤ M.V.length) = True := eq_true (by omega)
    have f7 : (a0 + n0 ≤ M.V.length) = True := eq_true (by omega)
    have f8 : (a0 ≤ a0 + n0) = True := eq_true (by omega)
    have hyl : ((M.V.drop a0).take n0).length = n0 := by simp; omega
    obtain ⟨dp, hdp⟩ : ∃ dp, (if M.V.length = a0 then (some ⟨v, 0, none⟩ : Option Addr) else some ⟨v, a0, none⟩) = dp := ⟨_, rfl⟩
    have hrow : Row w 1 dp n0 (M.V.length - a0) (((M.V.drop a0).take n0).map byteV) := by
      by_cases h4 : M.V.length = a0
      · rw [if_pos h4] at hdp
        obtain rfl : n0 = 0 := by omega
        exact ⟨by simp, Nat.zero_le _, by unfold maxLen; omega, (fun q => by rw [q] at hdp; cases hdp), fun q => absurd q (by omega)⟩
      · rw [if_neg h4] at hdp
        rw [← hdp, List.map_take, List.map_drop]
        exact row_mid h.2.2.2.1 a0 n0 (M.V.length - a0) (by omega) (by omega) (by simp; omega)
    have HR := hid hrow
    generalize (M.V.drop a0).take n0 = ys at *
    have HY := hid hyl
    clear hyl h hi hrow
    go_enter Tryz.func45, Tryz.ntmps45
    go_wp2_with (first
      | (go_at_call 36; refine HW.out.mono ?_; rintro e w1 ⟨rfl, rfl⟩)
      | (at_builtin; refine wpl_append rfl (.tmp 30) (.tmp 39) rfl E8 w.heap.size rfl rfl (Own.nil _ _ _ _) HR.out (byteV_one ys) (by omega) (by omega) (Nat.le_refl _) ?_; intro a2 c2 w2 o2 g2 b2; have O2 := hid o2; have B2 := hid b2; clear o2 g2 b2))
    go_ret2
    refine ⟨a2, c2, by simp, ?_, B2.out⟩
    have := O2.out
    unfold OwnB
    rw [HY.out]
    simpa using this
  · have hE : LoadP M.V M at_ n w = fun e w' => e = .returned (.tuple #[.slice none 0 0, .int .i64 1]) ∧ w = w' := by
      funext e w'; unfold LoadP; rw [if_neg hi]
    rw [hE]
    clear hE
    rw [show inM M at_ n = false by simpa using hi] at HW
    clear hi h
    go_enter Tryz.func45, Tryz.ntmps45
    go_wp2_with (first | (go_at_call 36; refine HW.out.mono ?_; rintro e w1 ⟨rfl, rfl⟩))
    go_ret2
    exact ⟨rfl, rfl⟩

theorem dirtyB_get (V D : List UInt8) (k : Nat) : dirtyB V D k = true ↔ cell8 V k ≠ cell8 D k := by simp [dirtyB]
theorem cell8_eq {V D : List UInt8} {k : Nat} (hl : D.length = V.length) (h : 8 * k + 8 ≤ V.length) : cell8 V k = cell8 D k ↔ ∀ i, i < 8 → bAt V (8 * k + i) = bAt D (8 * k + i) := by
  have h1 := cell8_len (X := V) h
  have h2 := cell8_len (X := D) (k := k) (by omega)
  constructor
  · intro e i hi
    have a := cell8_get (X := V) (k := k) hi
    have b := cell8_get (X := D) (k := k) hi
    unfold bAt
    rw [← a, ← b, e]
  · intro q
    refine list8_ext (by omega) fun i hi => ?_
    rw [h2] at hi
    rw [cell8_get hi, cell8_get hi]
    exact UInt8.toNat_inj.1 (q i hi)
theorem blk_byte {w : World} {g : Nat} {X : List UInt8} (h : Blk w g 5 (X.map byteV)) {i : Nat} (hi : i < X.length) : w.cell? ⟨g, i, none⟩ = some (.int .u8 (bAt X i : Int)) := by
  rw [h.cell (i := i) (by simpa using hi)]
  simp [byteV, bAt_eq hi]

set_option maxHeartbeats 2000000 in
theorem dirtyR_any {w : World} {g v d a : Nat} {M : MemM} (h : MemR w g v d a M) (k : Nat) (hk : k < M.A.length) :
    Calls Tryz.prog 59 #[.pointer (some ⟨g, 0, none⟩), .int .i64 (k : Int)] w fun e w' => e = .returned (.bool (dirtyB M.V M.D k)) ∧ Below w.heap.size w w' := by
  have hVl := h.1.2.2.2.2
  have hAl := h.1.2.1
  have hDl := h.1.1
  have hk8 : 8 * k + 8 ≤ M.V.length := by omega
  have e0 : IntKind.i64.wrap (8 * (k : Int)) = ((8 * k : Nat) : Int) := by rw [IntWalk.i64_in _ (by omega)]; omega
  have hq := cell8_eq hDl hk8
  have hdb := dirtyB_get M.V M.D k
  have HQ := hid hq; have HDB := hid hdb; have H := hid h; have HDL := hid hDl
  clear h hq hdb hDl hAl
  generalize hdd : dirtyB M.V M.D k = db at *
  generalize h8 : 8 * k = q at *
  have e1 : IntKind.i64.wrap ((q : Int) + 8) = (q : Int) + 8 := IntWalk.i64_in _ (by omega)
  clear h8 hdd
  go_enter Tryz.func59, Tryz.ntmps59
  go_wp2
  go_loopw [5] (fun i wr => ∃ j : Nat, j ≤ 8 ∧ i = .int .i64 (q + j : Nat) ∧ (∀ i, i < j → bAt M.V (q + i) = bAt M.D (q + i)) ∧ Below w.heap.size w wr) (fun i _ => q + 8 - (intOf i).toNat)
  case atStart => exact ⟨0, by omega, rfl, fun i hi => absurd hi (by omega), Below.refl _ _⟩
  case round =>
    obtain ⟨j, hj, rfl, hp, br⟩ := hrel
    have HP := hid hp
    have hm := H.out.mono br
    obtain ⟨c0, c1, c2⟩ := hm.cells
    have i0 : ((q + j : Nat) : Int) = (q : Int) + j := by omega
    by_cases hjc : j < 8
    · have cv := blk_byte hm.2.2.2.1 (i := q + j) (by omega)
      have cd := blk_byte hm.2.2.2.2.1 (i := q + j) (by have := HDL.out; omega)
      have i1 : ((q + j : Nat) : Int) < (q : Int) + 8 := by omega
      have i2 : ((q + j : Nat) : Int) < (M.V.length : Int) := by omega
      have i3 : q + j < M.V.length := by omega
      have e3 : IntKind.i64.wrap (((q + j : Nat) : Int) + 1) = ((q + j : Nat) : Int) + 1 := IntWalk.i64_in _ (by omega)
      have BR := hid br
      clear hm hp i0 br
      generalize hx : bAt M.V (q + j) = x at *
      generalize hy : bAt M.D (q + j) = y at *
      have HX := hid hx; have HY := hid hy
      clear hx hy
      generalize hK : q + j = K at *
      have HK := hid hK
      clear hK
      by_cases hxy : x = y
      · subst hxy
        go_wp2_with fail
        go_quiet (fail)
        go_wp2
        go_roundw
        case rel =>
          have hK := HK.out
          refine ⟨j + 1, by omega, by go_num, fun i hi => ?_, bel_drewN BR.out _⟩
          rcases Nat.lt_succ_iff_lt_or_eq.1 hi with q1 | rfl
          · exact HP.out i q1
          · rw [hK, HX.out, HY.out]
        case measure => have hK := HK.out; simp [intOf]; omega
      · have hne : ((x : Int) != (y : Int)) = true := by simp; omega
        have HNE := hid hxy
        clear hxy
        go_wp2_with fail
        go_quiet (fail)
        go_wp2
        go_ret
        refine ⟨ret_bool ?_, bel_drewN BR.out _⟩
        refine (HDB.out.2 (fun e => HNE.out ?_)).symm
        have := HQ.out.1 e j hjc
        rw [HK.out, HX.out, HY.out] at this
        exact this
    · obtain rfl : j = 8 := by omega
      clear hm hp
      go_wp2
      go_ret
      refine ⟨ret_bool ?_, br⟩
      have : ¬ (db = true) := fun e => (HDB.out.1 e) (HQ.out.2 HP.out)
      simpa using this
end Go.Proofs.YtcackliabemecaaGreatDoor
/- The document's memory: a cell kept, a fence, a line evicted. -/
namespace Go.Proofs.YtcackliabemecaaGreatDoor
open Go.RowKit
set_option linter.unusedSimpArgs false
set_option linter.unusedVariables false
set_option maxRecDepth 100000

theorem byteV_bAt (V : List UInt8) {i : Nat} (h : i < V.length) : byteV V[i] = .int .u8 (bAt V i : Int) := by simp [byteV, bAt_eq h]
/-- one byte more of a cell -/
theorem splice_step (V D : List UInt8) (q j : Nat) (hV : q + j < V.length) (hD : q + j < D.length) :
    ((splice D q ((V.drop q).take j)).map byteV).set (q + j) (.int .u8 (bAt V (q + j) : Int)) = (splice D q ((V.drop q).take (j + 1))).map byteV := by
  have hl : ((V.drop q).take j).length = j := by simp; omega
  have hs := splice_set D q ((V.drop q).take j) V[q + j] (by rw [hl]; exact hD)
  rw [hl] at hs
  rw [← byteV_bAt V hV, ← List.map_set, hs]
  congr 2
  rw [List.take_add_one, List.getElem?_drop, List.getElem?_eq_getElem hV]
  rfl
theorem blk_bool {w : World} {a : Nat} {A : List Bool} (h : Blk w a 4 (A.map .bool)) {k : Nat} (hk : k < A.length) : w.cell? ⟨a, k, none⟩ = some (.bool (A.getD k false)) := by
  rw [h.cell (i := k) (by simpa using hk)]; simp [hk]
theorem MemR.setD {w w' : World} {g v d a : Nat} {M : MemM} {D : List UInt8} {A : List Bool} (h : MemR w g v d a M) (t : Turns (fun k => k = d ∨ k = a) w w') (hd : Blk w' d 5 (D.map byteV)) (ha : Blk w' a 4 (A.map .bool)) (hD : D.length = M.D.length) (hA : A.length = M.A.length) : MemR w' g v d a ⟨M.V, D, A⟩ := by
  obtain ⟨_, h1, h2, h3, h4, h5, h6, h7, h8, h9⟩ := ref_apart h
  obtain ⟨⟨l1, l2, l3, l4, l5⟩, hne, hg, hv, _, _⟩ := h
  refine ⟨⟨hD.trans l1, by show A.length * 8 = M.V.length; rw [hA]; exact l2, l3, l4, l5⟩, hne, ?_, t.blk hv (by omega), hd, ha⟩
  have := t.blk hg (by omega)
  rw [← hA] at this
  exact this

set_option maxHeartbeats 2000000 in
theorem keepR_any {w : World} {g v d a : Nat} {M : MemM} (h : MemR w g v d a M) (k : Nat) (hk : k < M.A.length) :
    Calls Tryz.prog 43 #[.pointer (some ⟨g, 0, none⟩), .int .i64 (k : Int)] w fun e w' => (∃ x, e = .returned x) ∧ MemR w' g v d a ⟨M.V, mixF (fun i => i == k) M.V M.D, M.A.set k false⟩ ∧ Turns (fun b => b = d ∨ b = a) w w' := by
  obtain ⟨av, ag1, ag2, ap1, ap2, ap3, gl, vl, dl, al⟩ := ref_apart h
  have hVl := h.1.2.2.2.2
  have hAl := h.1.2.1
  have hDl := h.1.1
  have hk8 : 8 * k + 8 ≤ M.V.length := by omega
  have e0 : IntKind.i64.wrap (8 * (k : Int)) = ((8 * k : Nat) : Int) := by rw [IntWalk.i64_in _ (by omega)]; omega
  have hmx := splice_mix hDl (k := k) (by omega)
  unfold cell8 at hmx
  rw [← hmx]
  have H := hid h; have HDL := hid hDl
  have hst := fun j (hj : j < 8) => splice_step M.V M.D (8 * k) j (by omega) (by omega)
  have HST := hid hst
  clear h hDl hAl hmx hst
  generalize h8 : 8 * k = q at *
  have e1 : IntKind.i64.wrap ((q : Int) + 8) = (q : Int) + 8 := IntWalk.i64_in _ (by omega)
  clear h8
  go_enter Tryz.func43, Tryz.ntmps43
  go_wp2
  go_loopw [4] (fun i wr => ∃ j : Nat, j ≤ 8 ∧ i = .int .i64 (q + j : Nat) ∧ Blk wr d 5 ((splice M.D q ((M.V.drop q).take j)).map byteV) ∧ Turns (fun b => b = d) w wr) (fun i _ => q + 8 - (intOf i).toNat)
  case atStart => exact ⟨0, by omega, rfl, by simpa [splice] using H.out.2.2.2.2.1, Turns.refl _ _⟩
  case round =>
    obtain ⟨j, hj, rfl, hb, ht⟩ := hrel
    have hg := ht.blk H.out.2.2.1 ag2
    have hv := ht.blk H.out.2.2.2.1 av
    have c0 : wr.cell? ⟨g, 0, none⟩ = some (.slice (some ⟨v, 0, none⟩) M.V.length M.V.length) := hg.cell (i := 0) (by simp)
    have c1 : wr.cell? ⟨g, 1, none⟩ = some (.slice (some ⟨d, 0, none⟩) M.V.length M.V.length) := hg.cell (i := 1) (by simp)
    have c2 : wr.cell? ⟨g, 2, none⟩ = some (.slice (some ⟨a, 0, none⟩) M.A.length M.A.length) := hg.cell (i := 2) (by simp)
    have c2f := hg.frozen 2
    have i0 : ((q + j : Nat) : Int) = (q : Int) + j := by omega
    by_cases hjc : j < 8
    · have cv := blk_byte hv (i := q + j) (by omega)
      have hlen : (splice M.D q ((M.V.drop q).take j)).length = M.V.length := by
        rw [length_splice _ _ _ (by have := HDL.out; simp; omega)]; exact HDL.out
      have cd := blk_byte hb (i := q + j) (by omega)
      have fd := hb.frozen (q + j)
      have i1 : ((q + j : Nat) : Int) < (q : Int) + 8 := by omega
      have i2 : ((q + j : Nat) : Int) < (M.V.length : Int) := by omega
      have i3 : q + j < M.V.length := by omega
      have e3 : IntKind.i64.wrap (((q + j : Nat) : Int) + 1) = ((q + j : Nat) : Int) + 1 := IntWalk.i64_in _ (by omega)
      have hnew := hb.set (q + j) (.int .u8 (bAt M.V (q + j) : Int))
      rw [HST.out j hjc] at hnew
      have HB := hid hnew; have HT := hid ht
      clear hg hv hb ht i0 hlen hnew
      generalize hx : bAt M.V (q + j) = x at *
      generalize hK : q + j = K at *
      have HK := hid hK
      clear hK hx
      go_wp2_with fail
      go_region
      all_goals
        go_wp2
        go_roundw
        case rel => have hK := HK.out; exact ⟨j + 1, by omega, by go_num, HB.out, (HT.out.setCell (p := ⟨d, K, none⟩) rfl _).drew⟩
        case measure => have hK := HK.out; simp [intOf]; omega
    · obtain rfl : j = 8 := by omega
      have ha := ht.blk H.out.2.2.2.2.2 ap3
      obtain ⟨z, hz⟩ : ∃ z, wr.cell? ⟨a, k, none⟩ = some z := ⟨_, ha.cell (i := k) (by simpa using hk)⟩
      have hf := ha.frozen k
      have i1 : (k : Int) < (M.A.length : Int) := by omega
      have HA := hid ha; have HB := hid hb; have HT := hid ht
      clear ha hb ht hg hv i0
      go_wp2
      go_end0
      have t1 : Turns (fun b => b = a) wr (wr.setCell ⟨a, k, none⟩ (.bool false)) := (Turns.refl (fun b => b = a) wr).setCell (p := ⟨a, k, none⟩) rfl _
      have t2 : Turns (fun b => b = d ∨ b = a) w (wr.setCell ⟨a, k, none⟩ (.bool false)) := (HT.out.mono (fun _ q => .inl q)).trans (t1.mono (fun _ q => .inr q))
      have hA := HA.out.set k (.bool false)
      rw [← List.map_set] at hA
      exact ⟨⟨_, rfl⟩, H.out.setD t2 (t1.blk HB.out ap3.symm) hA (by rw [length_splice _ _ _ (by have := HDL.out; simp; omega)]) (by simp), t2⟩

/-! ### a fence -/
set_option maxHeartbeats 2000000 in
theorem fenceR_any {w : World} {g v d a : Nat} {M : MemM} (h : MemR w g v d a M) :
    Calls Tryz.prog 56 #[.pointer (some ⟨g, 0, none⟩)] w fun e w' => (∃ x, e = .returned x) ∧ MemR w' g v d a (fenceM M) ∧ Turns (fun b => b = d ∨ b = a) w w' := by
  have hVl := h.1.2.2.2.2
  have hAl := h.1.2.1
  have hN : M.A.length ≤ 200000 := by omega
  have H := hid h
  have hf : fenceM M = ⟨M.V, mixF (fun k => M.A.getD k false) M.V M.D, tabF M.A.length fun _ => false⟩ := rfl
  rw [hf]
  clear h hf hAl
  go_enter Tryz.func56, Tryz.ntmps56
  go_wp2
  go_loopw [2] (fun i wr => ∃ k : Nat, k ≤ M.A.length ∧ i = .int .i64 k ∧ MemR wr g v d a ⟨M.V, mixF (fun i => decide (i < k) && M.A.getD i false) M.V M.D, tabF M.A.length fun i => !decide (i < k) && M.A.getD i false⟩ ∧ Turns (fun b => b = d ∨ b = a) w wr) (fun i _ => M.A.length - (intOf i).toNat)
  case atStart =>
    refine ⟨0, by omega, rfl, ?_, Turns.refl _ _⟩
    rw [mixF_congr (g := fun _ => false) (fun k _ => by simp), mixF_none, tabF_congr (g := fun k => M.A.getD k false) (fun k _ => by simp), tabF_self]
    exact H.out
  case round =>
    obtain ⟨k, hk, rfl, hm, ht⟩ := hrel
    obtain ⟨c0, c1, c2⟩ := hm.cells
    have hl : (tabF M.A.length fun i => !decide (i < k) && M.A.getD i false).length = M.A.length := tabF_len _ _
    by_cases hkl : k < M.A.length
    · have ca : wr.cell? ⟨a, k, none⟩ = some (.bool (M.A.getD k false)) := by
        rw [blk_bool hm.2.2.2.2.2 (by show k < (tabF _ _).length; rw [tabF_len]; exact hkl)]
        show some (Value.bool ((tabF _ _).getD k false)) = _
        rw [tabF_get _ hkl]; simp
      simp only [hl] at c2
      have HK := hid (keepR_any hm k (by rw [hl]; exact hkl))
      have HM := hid hm; have HT := hid ht
      have i1 : (k : Int) < (M.A.length : Int) := by omega
      have e3 : IntKind.i64.wrap ((k : Int) + 1) = (k : Int) + 1 := IntWalk.i64_in _ (by omega)
      clear hm ht hl
      by_cases hb : M.A.getD k false = true
      · rw [hb] at ca
        have HBT := hid hb
        clear hb
        go_wp2_with (first
          | (go_at_call 43; refine HK.out.mono ?_; rintro e w2 ⟨⟨z, rfl⟩, m2, t2⟩; have M2 := hid m2; have T2 := hid t2; clear m2 t2))
        go_roundw
        case rel =>
          refine ⟨k + 1, by omega, by go_num, ?_, HT.out.trans T2.out⟩
          have := M2.out
          rw [mixF_setA, tabF_set] at this
          rw [mixF_congr (g := fun i => decide (i < k) && M.A.getD i false || i == k) (fun i _ => ?_), tabF_congr (g := fun i => if i = k then false else !decide (i < k) && M.A.getD i false) (fun i _ => ?_)]
          · exact this
          · by_cases e : i = k
            · subst e; simp
            · have : (i < k + 1) ↔ (i < k) := by omega
              simp [e, this]
          · by_cases e : i = k
            · subst e; rw [HBT.out]; simp
            · have : (i < k + 1) ↔ (i < k) := by omega
              simp [e, this]
        case measure => simp [intOf]; omega
      · rw [show M.A.getD k false = false by simpa using hb] at ca
        have HBT := hid (show M.A.getD k false = false by simpa using hb)
        clear hb
        go_wp2
        go_roundw
        case rel =>
          refine ⟨k + 1, by omega, by go_num, ?_, HT.out⟩
          have := HM.out
          rw [mixF_congr (g := fun i => decide (i < k) && M.A.getD i false) (fun i _ => ?_), tabF_congr (g := fun i => !decide (i < k) && M.A.getD i false) (fun i _ => ?_)]
          · exact this
          · by_cases e : i = k
            · subst e; rw [HBT.out]; simp
            · have : (i < k + 1) ↔ (i < k) := by omega
              simp [this]
          · by_cases e : i = k
            · subst e; rw [HBT.out]; simp
            · have : (i < k + 1) ↔ (i < k) := by omega
              simp [this]
        case measure => simp [intOf]; omega
    · obtain rfl : k = M.A.length := by omega
      simp only [hl] at c2
      have HM := hid hm; have HT := hid ht
      clear hm ht hl
      go_wp2
      go_end0
      refine ⟨⟨_, rfl⟩, ?_, HT.out⟩
      have hm := HM.out
      have h8 := hm.1.1
      rw [mixF_congr (g := fun k => M.A.getD k false) (fun k hk => ?_), tabF_congr (g := fun _ => false) (fun k hk => by simp [hk])] at hm
      · exact hm
      · have : k < M.A.length := by have := H.out.1.2.1; have := H.out.1.1; omega
        simp [this]
end Go.Proofs.YtcackliabemecaaGreatDoor
/- The document's memory: bytes stored. -/
namespace Go.Proofs.YtcackliabemecaaGreatDoor
open Go.RowKit
set_option linter.unusedSimpArgs false
set_option linter.unusedVariables false
set_option maxRecDepth 100000

theorem splice_stepB (V b : List UInt8) (q j : Nat) (hb : j < b.length) (hV : q + b.length ≤ V.length) :
    ((splice V q (b.take j)).map byteV).set (q + j) (.int .u8 (bAt b j : Int)) = (splice V q (b.take (j + 1))).map byteV := by
  have hl : (b.take j).length = j := by simp; omega
  have hs := splice_set V q (b.take j) b[j] (by rw [hl]; omega)
  rw [hl] at hs
  rw [← byteV_bAt b hb, ← List.map_set, hs]
  congr 2
  rw [List.take_add_one, List.getElem?_eq_getElem hb]
  rfl
theorem inT_succ (q j i : Nat) : inT q (j + 1) 8 i = (inT q j 8 i || i == (q + j) / 8) := by
  rw [Bool.eq_iff_iff]
  simp only [inT, decide_eq_true_eq, Bool.or_eq_true, beq_iff_eq]
  omega

/-- what Store does -/
def StoreR (g v d a : Nat) (M : MemM) (at_ : Int) (b : List UInt8) (w : World) (e : Ending) (w' : World) : Prop :=
  if inM M at_ b.length = true then e = .returned (.int .i64 0) ∧ MemR w' g v d a (storeM M at_.toNat b) ∧ Turns (fun k => k = v ∨ k = a) w w' else e = .returned (.int .i64 1) ∧ w = w'

set_option maxHeartbeats 4000000 in
theorem storeR_any {w : World} {g v d a : Nat} {M : MemM} (h : MemR w g v d a M) (at_ : Int) (hat : -9223372036854775808 ≤ at_ ∧ at_ ≤ 9223372036854775807) (ab : Option Addr) (c : Nat) (b : List UInt8) (hr : RowB w ab c b) (hs : 0 < b.length → ∀ k, (∃ off, ab = some ⟨k, off, none⟩) → k ≠ v ∧ k ≠ a) :
    Calls Tryz.prog 26 #[.pointer (some ⟨g, 0, none⟩), .int .i64 at_, .slice ab b.length c] w (StoreR g v d a M at_ b w) := by
  have hbl := rowB_len hr
  have HW := hid (withinR_any h at_ b.length hat (by omega))
  by_cases hi : inM M at_ b.length = true
  · have hE : StoreR g v d a M at_ b w = fun e w' => e = .returned (.int .i64 0) ∧ MemR w' g v d a (storeM M at_.toNat b) ∧ Turns (fun k => k = v ∨ k = a) w w' := by
      funext e w'; unfold StoreR; rw [if_pos hi]
    rw [hE]
    rw [hi] at HW
    clear hE
    obtain ⟨q, n0, rfl, hn0, hl⟩ := inM_true hi
    obtain rfl : b.length = n0 := by omega
    rw [show ((q : Int)).toNat = q from rfl]
    obtain ⟨av, ag1, ag2, ap1, ap2, ap3, gl, vl, dl, al⟩ := ref_apart h
    have hVl := h.1.2.2.2.2
    have hAl := h.1.2.1
    have hf : storeM M q b = ⟨splice M.V q b, M.D, tabF M.A.length fun k => M.A.getD k false && !inT q b.length 8 k⟩ := rfl
    rw [hf]
    obtain ⟨c0, c1, c2⟩ := h.cells
    have H := hid h; have HR := hid hr; have HS := hid hs
    have hst := fun j (hj : j < b.length) => splice_stepB M.V b q j hj hl
    have HST := hid hst
    clear h hr hs hf hst hi hn0 hat
    go_enter Tryz.func26, Tryz.ntmps26
    go_wp2_with (first | (go_at_call 36; refine HW.out.mono ?_; rintro e w1 ⟨rfl, rfl⟩))
    go_loopw [8] (fun i wr => ∃ j : Nat, j ≤ b.length ∧ i = .int .i64 j ∧ Blk wr v 5 ((splice M.V q (b.take j)).map byteV) ∧ Blk wr a 4 ((tabF M.A.length fun k => M.A.getD k false && !inT q j 8 k).map .bool) ∧ Turns (fun k => k = v ∨ k = a) w wr) (fun i _ => b.length - (intOf i).toNat)
    case atStart =>
      refine ⟨0, by omega, rfl, by simpa [splice] using H.out.2.2.2.1, ?_, Turns.refl _ _⟩
      rw [tabF_congr (g := fun k => M.A.getD k false) (fun k _ => by simp [inT]), tabF_self]
      exact H.out.2.2.2.2.2
    case round =>
      obtain ⟨j, hj, rfl, hv, ha, ht⟩ := hrel
      have hg := ht.blk H.out.2.2.1 (by omega)
      have k0 : wr.cell? ⟨g, 0, none⟩ = some (.slice (some ⟨v, 0, none⟩) M.V.length M.V.length) := hg.cell (i := 0) (by simp)
      by_cases hjb : j < b.length
      · have rb := ht.row HR.out (fun hn k hk => by have := HS.out hn k hk; omega)
        obtain ⟨bb, bo, rfl, hbb, cb⟩ := Row.bytes rb (by omega)
        have cbj := cb j hjb
        have hlv : (splice M.V q (b.take j)).length = M.V.length := length_splice _ _ _ (by simp; omega)
        have cv := blk_byte hv (i := q + j) (by omega)
        have fv := hv.frozen (q + j)
        have i1 : (j : Int) < (b.length : Int) := by omega
        have i2 : ((q + j : Nat) : Int) < (M.V.length : Int) := by omega
        have i3 : q + j < M.V.length := by omega
        have e1 : IntKind.i64.wrap ((q : Int) + j) = ((q + j : Nat) : Int) := by rw [IntWalk.i64_in _ (by omega)]; omega
        have e2 : IntKind.i64.wrap ((j : Int) + 1) = (j : Int) + 1 := IntWalk.i64_in _ (by omega)
        have e3 : ((q + j : Nat) : Int).tdiv 8 = (((q + j) / 8 : Nat) : Int) := rfl
        have e4 : IntKind.i64.wrap (((q + j) / 8 : Nat) : Int) = (((q + j) / 8 : Nat) : Int) := IntWalk.i64_in _ (by omega)
        have hKA : (q + j) / 8 < M.A.length := by omega
        have hnew := hv.set (q + j) (.int .u8 (bAt b j : Int))
        rw [HST.out j hjb] at hnew
        have hin := inT_succ q j
        have hg2 := hg.setOtherS ag1 (q + j) (.int .u8 (bAt b j : Int))
        have ha2 := ha.setOtherS ap2 (q + j) (.int .u8 (bAt b j : Int))
        have HB := hid hnew; have HT := hid ht; have HIN := hid hin
        clear rb cb hv ht hg ha hnew hin hlv
        generalize bAt b j = x at *
        generalize hK : q + j = K at *
        have HK := hid hK
        clear hK
        generalize hKK : K / 8 = L at *
        have HKK := hid hKK
        clear hKK
        have g2 : (wr.setCell ⟨v, K, none⟩ (.int .u8 x)).cell? ⟨g, 2, none⟩ = some (.slice (some ⟨a, 0, none⟩) M.A.length M.A.length) := hg2.cell (i := 2) (by simp)
        have ca := blk_bool ha2 (k := L) (by rw [tabF_len]; exact hKA)
        have fa := ha2.frozen L
        have i5 : (L : Int) < (M.A.length : Int) := by omega
        have hnA := ha2.set L (.bool false)
        rw [← List.map_set, tabF_set] at hnA
        have HA := hid hnA
        clear hg2 ha2 hnA
        go_wp2_with fail
        go_region
        all_goals
          go_wp2
          go_roundw
          case rel =>
            have hK := HK.out
            refine ⟨j + 1, by omega, by go_num, HB.out.setOtherS ap2.symm L (.bool false), ?_, ((HT.out.setCell (p := ⟨v, K, none⟩) (.inl rfl) _).setCell (p := ⟨a, L, none⟩) (.inr rfl) _).drew⟩
            have := HA.out
            rw [tabF_congr (g := fun i => if i = L then false else M.A.getD i false && !inT q j 8 i) (fun i _ => ?_)]
            · exact this
            · rw [HIN.out i]
              by_cases e : i = L
              · subst e; simp
              · rw [if_neg e, show (i == L) = false from by simpa using e]; simp
          case measure => simp [intOf]; omega
      · obtain rfl : j = b.length := by omega
        have HV := hid hv; have HA := hid ha; have HT := hid ht; have HG := hid hg
        clear hv ha ht hg
        go_wp2
        go_ret
        have hsl : (splice M.V q b).length = M.V.length := length_splice _ _ _ hl
        have hv := HV.out
        rw [List.take_length] at hv
        obtain ⟨l1, l2, l3, l4, l5⟩ := H.out.1
        refine ⟨rfl, ⟨⟨?_, ?_, ?_, ?_, ?_⟩, av, ?_, hv, HT.out.blk H.out.2.2.2.2.1 (by omega), HA.out⟩, HT.out⟩
        · show M.D.length = (splice M.V q b).length; rw [hsl]; exact l1
        · show (tabF _ _).length * 8 = (splice M.V q b).length; rw [hsl, tabF_len]; exact l2
        · show (splice M.V q b).length % 64 = 0; rw [hsl]; exact l3
        · show 64 ≤ (splice M.V q b).length; rw [hsl]; exact l4
        · show (splice M.V q b).length ≤ 1048576; rw [hsl]; exact l5
        · have := HG.out
          rw [← hsl, ← tabF_len M.A.length fun k => M.A.getD k false && !inT q b.length 8 k] at this
          exact this
  · have hE : StoreR g v d a M at_ b w = fun e w' => e = .returned (.int .i64 1) ∧ w = w' := by
      funext e w'; unfold StoreR; rw [if_neg hi]
    rw [hE]
    rw [show inM M at_ b.length = false by simpa using hi] at HW
    clear hE hi h hr
    go_enter Tryz.func26, Tryz.ntmps26
    go_wp2_with (first | (go_at_call 36; refine HW.out.mono ?_; rintro e w1 ⟨rfl, rfl⟩))
    go_ret
    exact ⟨rfl, rfl⟩
end Go.Proofs.YtcackliabemecaaGreatDoor
