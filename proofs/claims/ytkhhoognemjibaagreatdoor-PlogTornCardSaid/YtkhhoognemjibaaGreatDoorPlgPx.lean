/- Words for PlogPlays, PlogLasts, PlogTorn. (genPlgPy.py) -/
import Derived.Test.YtkhhoognemjibaaGreatDoorPlgXd
namespace Go.Proofs.YtkhhoognemjibaaGreatDoor
open Go.RowKit
set_option linter.unusedSimpArgs false
set_option linter.unusedVariables false
set_option maxRecDepth 100000

theorem fence_all {M : MemM} (h : M.ok) (hl : M.V.length = 1024) : (fenceM (flushU M 0 1024)).D = (fenceM (flushU M 0 1024)).V := by
  have hi : inM M 0 1024 = true := (inM_iff M 0 1024).2 (by omega)
  have e : flushU M 0 1024 = flushM M 0 1024 := by unfold flushU; rw [if_pos hi]; rfl
  rw [e]
  refine fence_warm (flushM_ok h _ _) ?_
  obtain ⟨h1, h2, h3, h4, h5⟩ := h
  intro k hk hd
  change k < (tabF _ _).length at hk
  rw [tabF_len] at hk
  change dirtyB M.V M.D k = true at hd
  show (tabF _ _).getD k false = true
  rw [tabF_get _ hk, hd, Bool.and_true]
  have : inT 0 1024 64 (k / 8) = true := by
    unfold inT
    rw [decide_eq_true_iff]
    omega
  rw [this, Bool.or_true]
theorem RecsP.take {W : World} {B : Nat} {ra : Option Addr} {rc : Nat} {rs : List (Option Addr × Nat × List PtM)} (h : RecsP W B ra rc rs) (n : Nat) : RecsP W B ra rc (rs.take n) := by
  refine ⟨?_, fun r hr => h.i r (List.mem_of_mem_take hr)⟩
  rcases h.o.2 with ⟨hv, _⟩ | ⟨b, cap, cur, hv, hB, hh, rest⟩
  · injection hv with h1 h2 h3
    have e : rs = [] := List.eq_nil_of_length_eq_zero h2
    subst e
    rw [List.take_nil]
    exact h.o
  · injection hv with h1 h2 h3
    subst h1
    obtain ⟨L, hb, hl, hB, ht, hnc, hc⟩ := Own.blk h.o
    have q := Own.of_blk (B := B) (sz := 1) (n := (rs.take n).length) (c := rc) hb hB (by rw [List.length_take]; omega) hc hl
    have e : L.take ((rs.take n).length * 1) = (rs.take n).map recV := by
      rw [Nat.mul_one] at *
      rw [List.map_take, ← ht, List.take_take, List.length_take, Nat.min_comm n]
    rw [e] at q
    exact q
theorem sameRecs_eqn {w : World} {B1 B2 : Nat} {ra rb : Option Addr} {rc rd : Nat} {rs rs' : List (Option Addr × Nat × List PtM)} (n : Nat) (hA : RecsP w B1 ra rc rs) (hBR : RecsP w B2 rb rd rs') (heq : rs.map (·.2.2) = rs'.map (·.2.2)) (hn : rs.length = n) (hn' : rs'.length = n) (hl : n ≤ 1000000) (hk : ∀ L ∈ rs'.map (·.2.2), L.length ≤ 1000000) :
    Calls Tryz.prog 16 #[.slice ra n rc, .slice rb n rd] w fun e w' => e = .returned (.bool true) ∧ Below w.heap.size w w' := by
  have z := sameRecs_eq hA hBR heq (by omega) (fun L hL => hk L (by rw [← heq]; exact hL))
  rw [hn] at z
  exact z
theorem szR (w : World) : (sizeOf 26).run Tryz.prog w = .ok 1 w := by kernel_rfl
theorem elR : Tryz.prog.elem 42 = 26 := by kernel_rfl
theorem unR : Tryz.prog.underlying 42 = some (.slice (Tryz.prog.elem 42)) := by rw [elR]; exact Tryz.underlying42
theorem sliceHR {w : World} {B : Nat} {a : Option Addr} {c : Nat} {rs : List (Option Addr × Nat × List PtM)} (r : RecsP w B a c rs) (hi : Nat) (h2 : hi ≤ rs.length) (W : World) : (Instr.sliceAt 42 (.slice a rs.length c) none (some (.int .i64 (hi : Int))) none).run Tryz.prog W = .ok (.slice a hi c) W := by
  have hc := r.o.row.2.1
  rw [run_sliceAt_slice W _ _ _ _ _ unR, run_slice_h W _ _ _ _ unR _ _ (by omega) (by omega), elR, szR]
  show Result.ok (sliced _ _ _ _ _) W = _
  rw [Int.toNat_natCast]
  unfold sliced
  simp only [Nat.sub_zero, Nat.zero_mul]
  split
  · rfl
  · cases a with
    | none => rfl
    | some p => simp [Addr.add]
theorem callP_13 (args : Array Value) (w : World) : (callFunc 9 args).run Tryz.prog w = .ok (.enter 9 args) w := by
  have h := Tryz.func9
  go_simp
theorem callP_20 (args : Array Value) (w : World) : (callFunc 6 args).run Tryz.prog w = .ok (.enter 6 args) w := by
  have h := Tryz.func6
  go_simp
theorem callP_30 (args : Array Value) (w : World) : (callFunc 8 args).run Tryz.prog w = .ok (.enter 8 args) w := by
  have h := Tryz.func8
  go_simp
theorem callP_1007 (args : Array Value) (w : World) : (callFunc 7 args).run Tryz.prog w = .ok (.enter 7 args) w := by
  have h := Tryz.func7
  go_simp
end Go.Proofs.YtkhhoognemjibaaGreatDoor
