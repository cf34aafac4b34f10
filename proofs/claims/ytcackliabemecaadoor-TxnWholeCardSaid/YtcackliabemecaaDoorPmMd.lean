/- Merged: PmM PmN PmO PmQ. -/
import Derived.Test.YtcackliabemecaaDoorPmMc
import Derived.BigRegion
/- The document's memory: made, read. -/
namespace Go.Proofs.YtcackliabemecaaDoor
open Go.RowKit
set_option linter.unusedSimpArgs false
set_option linter.unusedVariables false
set_option maxRecDepth 100000

def boolV (b : Bool) : Value := .bool b
theorem EBm : ElemT Tryd.prog 86 4 1 1 := elemT Tryd.underlying86 (z := .bool false) (by kernel_rfl) rfl (by omega)
theorem rep_mapB (n : Nat) : List.replicate n (Value.bool false) = (tabF n fun _ => false).map .bool := by
  apply List.ext_getElem
  · simp [tabF]
  · intro i h1 h2; simp [tabF]
theorem MemR.cells {w : World} {g v d a : Nat} {M : MemM} (h : MemR w g v d a M) :
    w.cell? ⟨g, 0, none⟩ = some (.slice (some ⟨v, 0, none⟩) M.V.length M.V.length) ∧ w.cell? ⟨g, 1, none⟩ = some (.slice (some ⟨d, 0, none⟩) M.V.length M.V.length) ∧ w.cell? ⟨g, 2, none⟩ = some (.slice (some ⟨a, 0, none⟩) M.A.length M.A.length) :=
  ⟨h.2.2.1.cell (i := 0) (by simp), h.2.2.1.cell (i := 1) (by simp), h.2.2.1.cell (i := 2) (by simp)⟩
theorem MemR.mono {w w' : World} {g v d a : Nat} {M : MemM} (h : MemR w g v d a M) (b : Below w.heap.size w w') : MemR w' g v d a M := h.turns (X := fun _ => False) (Turns.of_below b) id id id id

/-- what New tells -/
def NewR (w : World) (n : Int) (e : Ending) (w' : World) : Prop :=
  if validM n then ∃ g v d a, e = .returned (.pointer (some ⟨g, 0, none⟩)) ∧ MemR w' g v d a (newM n.toNat) ∧ (w.heap.size ≤ g ∧ w.heap.size ≤ v ∧ w.heap.size ≤ d ∧ w.heap.size ≤ a) ∧ Below w.heap.size w w' else e = .returned (.pointer none) ∧ w = w'

set_option maxHeartbeats 4000000 in
theorem newR_any (n : Int) (w : World) (hn : -9223372036854775808 ≤ n ∧ n ≤ 9223372036854775807) : Calls Tryd.prog 23 #[.int .i64 n] w (NewR w n) := by
  by_cases h : validM n
  · obtain ⟨n, rfl⟩ : ∃ m : Nat, n = (m : Int) := ⟨n.toNat, by have := h.1; omega⟩
    have HN := hid h
    obtain ⟨h1, h2, h3⟩ := h
    have d1 : decide ((n : Int) < 64) = false := decide_eq_false (by omega)
    have d2 : decide (1048576 < (n : Int)) = false := decide_eq_false (by omega)
    have e1 : (n : Int).tmod 64 = 0 := by rw [Int.tmod_eq_emod_of_nonneg (by omega)]; exact h3
    have e2 : (n : Int).tdiv 8 = ((n / 8 : Nat) : Int) := rfl
    have e3 : IntKind.i64.wrap ((n / 8 : Nat) : Int) = ((n / 8 : Nat) : Int) := IntWalk.i64_in _ (by omega)
    have hz : IntKind.i64.wrap 0 = 0 := rfl
    have h8 : n / 8 ≤ 200000 := by omega
    have hnn : n ≤ 1048576 := by omega
    obtain ⟨w1, hw1⟩ : ∃ w1, w1 = w.alloc (.cells #[.slice none 0 0, .slice none 0 0, .slice none 0 0] 88) := ⟨_, rfl⟩
    have k1 : Blk w1 w.heap.size 88 [.slice none 0 0, .slice none 0 0, .slice none 0 0] := by rw [hw1]; exact blk_newO rfl _ _
    have b1 : Below w.heap.size w w1 := by rw [hw1]; exact albO w _
    have K1 := hid k1; have B1 := hid b1; have HW1 := hid hw1
    clear h3 k1 b1 hw1 h1 h2
    generalize hN8 : n / 8 = N at *
    go_enter Tryd.func23, Tryd.ntmps23
    go_wp2_with (first
      | (at_make; (try rw [← HW1.out]); refine wpl_make rfl (.tmp 18) (.tmp 18) rfl Tryd.underlying22 (bytes := 1) (z := .int .u8 0) (by kernel_rfl) rfl rfl rfl rfl rfl (by omega) (by omega) ?_; intro w2 k2 b2; have K2 := hid k2; have B2 := hid b2; have G2 := hid (K1.out.mono b2); have f0 := G2.out.frozen 0; have z0 := G2.out.cell (i := 0) (by simp); clear k2 b2)
      | (at_make; refine wpl_make rfl (.tmp 23) (.tmp 23) rfl Tryd.underlying22 (bytes := 1) (z := .int .u8 0) (by kernel_rfl) rfl rfl rfl rfl rfl (by omega) (by omega) ?_; intro w3 k3 b3; have K3 := hid k3; have B3 := hid b3; have G3 := hid ((G2.out.set 0 _).mono b3); have V3 := hid ((K2.out.setOtherS (blk_ne K2.out G2.out (by decide)) 0 _).mono b3); have f1 := G3.out.frozen 1; have z1 := G3.out.cell (i := 1) (by simp); clear k3 b3)
      | (at_make; refine wpl_make rfl (.tmp 29) (.tmp 29) rfl Tryd.underlying86 (bytes := 1) (z := .bool false) (by kernel_rfl) rfl rfl rfl rfl rfl (by omega) (by omega) ?_; intro w4 k4 b4; have K4 := hid k4; have B4 := hid b4; have G4 := hid ((G3.out.set 1 _).mono b4); have V4 := hid ((V3.out.setOtherS (blk_ne V3.out G3.out (by decide)) 1 _).mono b4); have D4 := hid ((K3.out.setOtherS (blk_ne K3.out G3.out (by decide)) 1 _).mono b4); have f2 := G4.out.frozen 2; have z2 := G4.out.cell (i := 2) (by simp); clear k4 b4))
    go_ret
    have sw : ∀ (X : World) (q : Addr) (u : Value), (X.setCell q u).heap.size = X.heap.size := fun X q u => by simp [World.setCell]
    have g4 := G4.out; have v4 := V4.out; have d4 := D4.out; have k4 := K4.out; have hn := HN.out
    rw [sw] at d4 k4
    have sz1 := B1.out.size; have sz2 := B2.out.size; have sz3 := B3.out.size; have sz4 := B4.out.size
    rw [sw] at sz3 sz4
    have g1 := K1.out.lt; have l2 := K2.out.lt; have l3 := K3.out.lt
    rw [sw] at l3
    have bb : Below w.heap.size w (w4.setCell ⟨w.heap.size, 2, none⟩ (.slice (some ⟨w3.heap.size, 0, none⟩) N N)) := by
      have q2 := (below_trans B1.out B2.out sz1).setCell (p := ⟨w.heap.size, 0, none⟩) (Nat.le_refl _) (.slice (some ⟨w1.heap.size, 0, none⟩) n n)
      have q3 := (below_trans q2 B3.out (by rw [sw]; omega)).setCell (p := ⟨w.heap.size, 1, none⟩) (Nat.le_refl _) (.slice (some ⟨w2.heap.size, 0, none⟩) n n)
      exact (below_trans q3 B4.out (by rw [sw]; omega)).setCell (p := ⟨w.heap.size, 2, none⟩) (Nat.le_refl _) _
    unfold NewR
    rw [if_pos hn]
    refine ⟨w.heap.size, w1.heap.size, w2.heap.size, w3.heap.size, rfl, ⟨newM_ok hn, by omega, ?_, ?_, ?_, ?_⟩, ⟨Nat.le_refl _, by omega, by omega, by omega⟩, bb⟩
    · have := g4.set 2 (.slice (some ⟨w3.heap.size, 0, none⟩) N N)
      simp only [newM, List.length_replicate, Int.toNat_natCast, tabF_len, hN8]
      exact this
    · rw [rep_map] at v4; exact v4.setOtherS (by omega) 2 _
    · rw [rep_map] at d4; exact d4.setOtherS (by omega) 2 _
    · rw [rep_mapB] at k4
      simp only [newM, Int.toNat_natCast, hN8]
      exact k4.setOtherS (by omega) 2 _
  · have hE : NewR w n (.returned (.pointer none)) w := by unfold NewR; rw [if_neg h]; exact ⟨rfl, rfl⟩
    have HE := hid hE
    clear hE
    by_cases h1 : 64 ≤ n
    · have d1 : decide (n < 64) = false := decide_eq_false (by omega)
      by_cases h2 : n ≤ 1048576
      · have d2 : decide (1048576 < n) = false := decide_eq_false (by omega)
        have h3 : ¬ n % 64 = 0 := fun q => h ⟨h1, h2, q⟩
        have e1 : n.tmod 64 = n % 64 := Int.tmod_eq_emod_of_nonneg (by omega)
        have e2 : IntKind.i64.wrap (n % 64) = n % 64 := IntWalk.i64_in _ (by omega)
        clear h
        generalize n % 64 = r at *
        have d3 : (r != 0) = true := by simpa using h3
        go_enter Tryd.func23, Tryd.ntmps23
        go_wp2
        go_ret
        exact HE.out
      · have d2 : decide (1048576 < n) = true := decide_eq_true (by omega)
        go_enter Tryd.func23, Tryd.ntmps23
        go_wp2
        go_ret
        exact HE.out
    · have d1 : decide (n < 64) = true := decide_eq_true (by omega)
      go_enter Tryd.func23, Tryd.ntmps23
      go_wp2
      go_ret
      exact HE.out
end Go.Proofs.YtcackliabemecaaDoor
/- The document's memory: bounds, bytes told, a cell compared, a cell kept. -/
namespace Go.Proofs.YtcackliabemecaaDoor
open Go.RowKit
set_option linter.unusedSimpArgs false
set_option linter.unusedVariables false
set_option maxRecDepth 100000

theorem dirtyB_get (V D : List UInt8) (k : Nat) : dirtyB V D k = true ↔ cell8 V k ≠ cell8 D k := by simp [dirtyB]
theorem cell8_eq {V D : List UInt8} {k : Nat} (hl : D.length = V.length) (h : 8 * k + 8 ≤ V.length) : cell8 V k = cell8 D k ↔ ∀ i, i < 8 → bAt V (8 * k + i) = bAt D (8 * k + i) := by
  have h1 := cell8_len (X := V) h
  have h2 := cell8_len (X := D) (k := k) (by omega)
  constructor
  · intro e i hi
    have a := cell8_get (X := V) (k := k) hi
    have b := cell8_get (X := D) (k := k) hi
    unfold bAt
    rw [← a, ← b, e]
  · intro q
    refine list8_ext (by omega) fun i hi => ?_
    rw [h2] at hi
    rw [cell8_get hi, cell8_get hi]
    exact UInt8.toNat_inj.1 (q i hi)
theorem blk_byte {w : World} {g : Nat} {X : List UInt8} (h : Blk w g 5 (X.map byteV)) {i : Nat} (hi : i < X.length) : w.cell? ⟨g, i, none⟩ = some (.int .u8 (bAt X i : Int)) := by
  rw [h.cell (i := i) (by simpa using hi)]
  simp [byteV, bAt_eq hi]

theorem byteV_bAt (V : List UInt8) {i : Nat} (h : i < V.length) : byteV V[i] = .int .u8 (bAt V i : Int) := by simp [byteV, bAt_eq h]
/-- one byte more of a cell -/
theorem splice_step (V D : List UInt8) (q j : Nat) (hV : q + j < V.length) (hD : q + j < D.length) :
    ((splice D q ((V.drop q).take j)).map byteV).set (q + j) (.int .u8 (bAt V (q + j) : Int)) = (splice D q ((V.drop q).take (j + 1))).map byteV := by
  have hl : ((V.drop q).take j).length = j := by simp; omega
  have hs := splice_set D q ((V.drop q).take j) V[q + j] (by rw [hl]; exact hD)
  rw [hl] at hs
  rw [← byteV_bAt V hV, ← List.map_set, hs]
  congr 2
  rw [List.take_add_one, List.getElem?_drop, List.getElem?_eq_getElem hV]
  rfl
theorem blk_bool {w : World} {a : Nat} {A : List Bool} (h : Blk w a 4 (A.map .bool)) {k : Nat} (hk : k < A.length) : w.cell? ⟨a, k, none⟩ = some (.bool (A.getD k false)) := by
  rw [h.cell (i := k) (by simpa using hk)]; simp [hk]
theorem MemR.setD {w w' : World} {g v d a : Nat} {M : MemM} {D : List UInt8} {A : List Bool} (h : MemR w g v d a M) (t : Turns (fun k => k = d ∨ k = a) w w') (hd : Blk w' d 5 (D.map byteV)) (ha : Blk w' a 4 (A.map .bool)) (hD : D.length = M.D.length) (hA : A.length = M.A.length) : MemR w' g v d a ⟨M.V, D, A⟩ := by
  obtain ⟨_, h1, h2, h3, h4, h5, h6, h7, h8, h9⟩ := ref_apart h
  obtain ⟨⟨l1, l2, l3, l4, l5⟩, hne, hg, hv, _, _⟩ := h
  refine ⟨⟨hD.trans l1, by show A.length * 8 = M.V.length; rw [hA]; exact l2, l3, l4, l5⟩, hne, ?_, t.blk hv (by omega), hd, ha⟩
  have := t.blk hg (by omega)
  rw [← hA] at this
  exact this

/-! ### a fence -/
theorem splice_stepB (V b : List UInt8) (q j : Nat) (hb : j < b.length) (hV : q + b.length ≤ V.length) :
    ((splice V q (b.take j)).map byteV).set (q + j) (.int .u8 (bAt b j : Int)) = (splice V q (b.take (j + 1))).map byteV := by
  have hl : (b.take j).length = j := by simp; omega
  have hs := splice_set V q (b.take j) b[j] (by rw [hl]; omega)
  rw [hl] at hs
  rw [← byteV_bAt b hb, ← List.map_set, hs]
  congr 2
  rw [List.take_add_one, List.getElem?_eq_getElem hb]
  rfl
theorem inT_succ (q j i : Nat) : inT q (j + 1) 8 i = (inT q j 8 i || i == (q + j) / 8) := by
  rw [Bool.eq_iff_iff]
  simp only [inT, decide_eq_true_eq, Bool.or_eq_true, beq_iff_eq]
  omega

/-- what Store does -/
def StoreR (g v d a : Nat) (M : MemM) (at_ : Int) (b : List UInt8) (w : World) (e : Ending) (w' : World) : Prop :=
  if inM M at_ b.length = true then e = .returned (.int .i64 0) ∧ MemR w' g v d a (storeM M at_.toNat b) ∧ Turns (fun k => k = v ∨ k = a) w w' else e = .returned (.int .i64 1) ∧ w = w'
