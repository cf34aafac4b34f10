/- The document's memory: made, read. -/
import Derived.Test.YtcgekooahahjpaaPmL
import Derived.BigRegion
namespace Go.Proofs.Ytcgekooahahjpaa
open Go.RowKit
set_option linter.unusedSimpArgs false
set_option linter.unusedVariables false

def boolV (b : Bool) : Value := .bool b
theorem EBm : ElemT Try.prog 53 4 1 1 := elemT Try.underlying53 (z := .bool false) (by kernel_rfl) rfl (by omega)
theorem rep_mapB (n : Nat) : List.replicate n (Value.bool false) = (tabF n fun _ => false).map .bool := by
  apply List.ext_getElem
  · simp [tabF]
  · intro i h1 h2; simp [tabF]
theorem MemR.cells {w : World} {g v d a : Nat} {M : MemM} (h : MemR w g v d a M) :
    w.cell? ⟨g, 0, none⟩ = some (.slice (some ⟨v, 0, none⟩) M.V.length M.V.length) ∧ w.cell? ⟨g, 1, none⟩ = some (.slice (some ⟨d, 0, none⟩) M.V.length M.V.length) ∧ w.cell? ⟨g, 2, none⟩ = some (.slice (some ⟨a, 0, none⟩) M.A.length M.A.length) :=
  ⟨h.2.2.1.cell (i := 0) (by simp), h.2.2.1.cell (i := 1) (by simp), h.2.2.1.cell (i := 2) (by simp)⟩
theorem MemR.mono {w w' : World} {g v d a : Nat} {M : MemM} (h : MemR w g v d a M) (b : Below w.heap.size w w') : MemR w' g v d a M := h.turns (X := fun _ => False) (Turns.of_below b) id id id id

/-- what New tells -/
def NewR (w : World) (n : Int) (e : Ending) (w' : World) : Prop :=
  if validM n then ∃ g v d a, e = .returned (.pointer (some ⟨g, 0, none⟩)) ∧ MemR w' g v d a (newM n.toNat) ∧ (w.heap.size ≤ g ∧ w.heap.size ≤ v ∧ w.heap.size ≤ d ∧ w.heap.size ≤ a) ∧ Below w.heap.size w w' else e = .returned (.pointer none) ∧ w = w'

set_option maxHeartbeats 4000000 in
theorem newR_any (n : Int) (w : World) (hn : -9223372036854775808 ≤ n ∧ n ≤ 9223372036854775807) : Calls Try.prog 10 #[.int .i64 n] w (NewR w n) := by
  by_cases h : validM n
  · obtain ⟨n, rfl⟩ : ∃ m : Nat, n = (m : Int) := ⟨n.toNat, by have := h.1; omega⟩
    have HN := hid h
    obtain ⟨h1, h2, h3⟩ := h
    have d1 : decide ((n : Int) < 64) = false := decide_eq_false (by omega)
    have d2 : decide (1048576 < (n : Int)) = false := decide_eq_false (by omega)
    have e1 : (n : Int).tmod 64 = 0 := by rw [Int.tmod_eq_emod_of_nonneg (by omega)]; exact h3
    have e2 : (n : Int).tdiv 8 = ((n / 8 : Nat) : Int) := rfl
    have e3 : IntKind.i64.wrap ((n / 8 : Nat) : Int) = ((n / 8 : Nat) : Int) := IntWalk.i64_in _ (by omega)
    have hz : IntKind.i64.wrap 0 = 0 := rfl
    have h8 : n / 8 ≤ 200000 := by omega
    have hnn : n ≤ 1048576 := by omega
    obtain ⟨w1, hw1⟩ : ∃ w1, w1 = w.alloc (.cells #[.slice none 0 0, .slice none 0 0, .slice none 0 0] 55) := ⟨_, rfl⟩
    have k1 : Blk w1 w.heap.size 55 [.slice none 0 0, .slice none 0 0, .slice none 0 0] := by rw [hw1]; exact blk_newO rfl _ _
    have b1 : Below w.heap.size w w1 := by rw [hw1]; exact albO w _
    have K1 := hid k1; have B1 := hid b1; have HW1 := hid hw1
    clear h3 k1 b1 hw1 h1 h2
    generalize hN8 : n / 8 = N at *
    go_enter Try.func10, Try.ntmps10
    go_wp2_with (first
      | (at_make; (try rw [← HW1.out]); refine wpl_make rfl (.tmp 18) (.tmp 18) rfl Try.underlying29 (bytes := 1) (z := .int .u8 0) (by kernel_rfl) rfl rfl rfl rfl rfl (by omega) (by omega) ?_; intro w2 k2 b2; have K2 := hid k2; have B2 := hid b2; have G2 := hid (K1.out.mono b2); have f0 := G2.out.frozen 0; have z0 := G2.out.cell (i := 0) (by simp); clear k2 b2)
      | (at_make; refine wpl_make rfl (.tmp 23) (.tmp 23) rfl Try.underlying29 (bytes := 1) (z := .int .u8 0) (by kernel_rfl) rfl rfl rfl rfl rfl (by omega) (by omega) ?_; intro w3 k3 b3; have K3 := hid k3; have B3 := hid b3; have G3 := hid ((G2.out.set 0 _).mono b3); have V3 := hid ((K2.out.setOtherS (blk_ne K2.out G2.out (by decide)) 0 _).mono b3); have f1 := G3.out.frozen 1; have z1 := G3.out.cell (i := 1) (by simp); clear k3 b3)
      | (at_make; refine wpl_make rfl (.tmp 29) (.tmp 29) rfl Try.underlying53 (bytes := 1) (z := .bool false) (by kernel_rfl) rfl rfl rfl rfl rfl (by omega) (by omega) ?_; intro w4 k4 b4; have K4 := hid k4; have B4 := hid b4; have G4 := hid ((G3.out.set 1 _).mono b4); have V4 := hid ((V3.out.setOtherS (blk_ne V3.out G3.out (by decide)) 1 _).mono b4); have D4 := hid ((K3.out.setOtherS (blk_ne K3.out G3.out (by decide)) 1 _).mono b4); have f2 := G4.out.frozen 2; have z2 := G4.out.cell (i := 2) (by simp); clear k4 b4))
    go_ret
    have sw : ∀ (X : World) (q : Addr) (u : Value), (X.setCell q u).heap.size = X.heap.size := fun X q u => by simp [World.setCell]
    have g4 := G4.out; have v4 := V4.out; have d4 := D4.out; have k4 := K4.out; have hn := HN.out
    rw [sw] at d4 k4
    have sz1 := B1.out.size; have sz2 := B2.out.size; have sz3 := B3.out.size; have sz4 := B4.out.size
    rw [sw] at sz3 sz4
    have g1 := K1.out.lt; have l2 := K2.out.lt; have l3 := K3.out.lt
    rw [sw] at l3
    have bb : Below w.heap.size w (w4.setCell ⟨w.heap.size, 2, none⟩ (.slice (some ⟨w3.heap.size, 0, none⟩) N N)) := by
      have q2 := (below_trans B1.out B2.out sz1).setCell (p := ⟨w.heap.size, 0, none⟩) (Nat.le_refl _) (.slice (some ⟨w1.heap.size, 0, none⟩) n n)
      have q3 := (below_trans q2 B3.out (by rw [sw]; omega)).setCell (p := ⟨w.heap.size, 1, none⟩) (Nat.le_refl _) (.slice (some ⟨w2.heap.size, 0, none⟩) n n)
      exact (below_trans q3 B4.out (by rw [sw]; omega)).setCell (p := ⟨w.heap.size, 2, none⟩) (Nat.le_refl _) _
    unfold NewR
    rw [if_pos hn]
    refine ⟨w.heap.size, w1.heap.size, w2.heap.size, w3.heap.size, rfl, ⟨newM_ok hn, by omega, ?_, ?_, ?_, ?_⟩, ⟨Nat.le_refl _, by omega, by omega, by omega⟩, bb⟩
    · have := g4.set 2 (.slice (some ⟨w3.heap.size, 0, none⟩) N N)
      simp only [newM, List.length_replicate, Int.toNat_natCast, tabF_len, hN8]
      exact this
    · rw [rep_map] at v4; exact v4.setOtherS (by omega) 2 _
    · rw [rep_map] at d4; exact d4.setOtherS (by omega) 2 _
    · rw [rep_mapB] at k4
      simp only [newM, Int.toNat_natCast, hN8]
      exact k4.setOtherS (by omega) 2 _
  · have hE : NewR w n (.returned (.pointer none)) w := by unfold NewR; rw [if_neg h]; exact ⟨rfl, rfl⟩
    have HE := hid hE
    clear hE
    by_cases h1 : 64 ≤ n
    · have d1 : decide (n < 64) = false := decide_eq_false (by omega)
      by_cases h2 : n ≤ 1048576
      · have d2 : decide (1048576 < n) = false := decide_eq_false (by omega)
        have h3 : ¬ n % 64 = 0 := fun q => h ⟨h1, h2, q⟩
        have e1 : n.tmod 64 = n % 64 := Int.tmod_eq_emod_of_nonneg (by omega)
        have e2 : IntKind.i64.wrap (n % 64) = n % 64 := IntWalk.i64_in _ (by omega)
        clear h
        generalize n % 64 = r at *
        have d3 : (r != 0) = true := by simpa using h3
        go_enter Try.func10, Try.ntmps10
        go_wp2
        go_ret
        exact HE.out
      · have d2 : decide (1048576 < n) = true := decide_eq_true (by omega)
        go_enter Try.func10, Try.ntmps10
        go_wp2
        go_ret
        exact HE.out
    · have d1 : decide (n < 64) = true := decide_eq_true (by omega)
      go_enter Try.func10, Try.ntmps10
      go_wp2
      go_ret
      exact HE.out
end Go.Proofs.Ytcgekooahahjpaa
