/- txn.New, Drop. -/
import Derived.Test.YtcackliabemecaaDoorTxnA
namespace Go.Proofs.YtcackliabemecaaDoor
open Go.RowKit
set_option linter.unusedSimpArgs false
set_option linter.unusedVariables false
set_option maxRecDepth 100000

def txC (g lg : Nat) (ta : Option Addr) (n tc : Nat) : List Value := [.pointer (some ⟨g, 0, none⟩), .pointer (some ⟨lg, 0, none⟩), .slice ta n tc]
set_option maxHeartbeats 4000000 in
theorem newT_nil (w : World) : Calls Tryd.prog 8 #[.pointer none, .pointer none] w fun e w' => e = .returned (.pointer none) ∧ w = w' := by
  go_enter Tryd.func8, Tryd.ntmps8
  go_wp2
  go_ret
  exact ⟨rfl, rfl⟩
set_option maxHeartbeats 4000000 in
theorem newT_any (w : World) (g lg : Nat) : Calls Tryd.prog 8 #[.pointer (some ⟨g, 0, none⟩), .pointer (some ⟨lg, 0, none⟩)] w fun e w' => ∃ tg, e = .returned (.pointer (some ⟨tg, 0, none⟩)) ∧ Blk w' tg 61 (txC g lg none 0 0) ∧ w.heap.size ≤ tg ∧ Below w.heap.size w w' := by
  go_enter Tryd.func8, Tryd.ntmps8
  go_wp2
  go_ret
  exact ⟨_, rfl, blk_newO rfl _ _, Nat.le_refl _, albO w _⟩
theorem loadPtsP {w : World} {g off : Nat} {q : Option Addr} {n c : Nat} (h : w.cell? ⟨g, off, none⟩ = some (.slice q n c)) : (Instr.loadAt 34 (.pointer (some ⟨g, off, none⟩))).run Tryd.prog w = .ok (.slice q n c) w := by
  have u3 := Tryd.underlying34
  have a3 := Tryd.isAgg34
  have z3 := Tryd.sizeOf34
  go_simp
set_option maxHeartbeats 4000000 in
theorem drop_any {w : World} {tg g lg n tc : Nat} {ta : Option Addr} (h : Blk w tg 61 (txC g lg ta n tc)) : Calls Tryd.prog 34 #[.pointer (some ⟨tg, 0, none⟩)] w fun e w' => (∃ x, e = .returned x) ∧ Blk w' tg 61 (txC g lg none 0 0) ∧ Turns (fun k => k = tg) w w' := by
  have c2 : w.cell? ⟨tg, 2, none⟩ = some (.slice ta n tc) := h.cell (i := 2) (by show 2 < 3; omega)
  have f2 := h.frozen 2
  have HB := hid h
  go_enter Tryd.func34, Tryd.ntmps34
  go_wp2
  go_end0
  exact ⟨⟨_, rfl⟩, HB.out.set 2 _, (Turns.refl (fun k => k = tg) w).setCell (p := ⟨tg, 2, none⟩) rfl _⟩
theorem ownPt_empty (w : World) : OwnPt (w.alloc (.cells #[] 37)) w.heap.size (some ⟨w.heap.size, 0, none⟩) 0 [] := by
  refine ⟨rfl, .inr ⟨w.heap.size, 0, #[], rfl, Nat.le_refl _, ?_, Nat.le_refl _, Nat.zero_le _, rfl, rfl⟩⟩
  exact heap_alloc_new w _
set_option maxHeartbeats 2000000 in
theorem clonePts_any {w : World} {a : Option Addr} {c : Nat} {P : List PtM} (h : RowPt w a c P) (hl : P.length ≤ 1000) :
    Calls Tryd.prog 25 #[.slice a P.length c] w fun e w' => ∃ la lc, e = .returned (.slice la P.length lc) ∧ OwnPt w' w.heap.size la lc P ∧ Below w.heap.size w w' := by
  have qT : ∀ (w : World) (a : Option Addr) (n c n' c' : Nat), (binOp .eql 34 (.slice a n c) (.slice none n' c')).run Tryd.prog w = .ok (.bool a.isNone) w := fun w a n c n' c' => Lib.run_eql_slice_nil w _ _ a n c n' c' Tryd.underlying34
  cases a with
  | none =>
    have hc : c = 0 := h.2.2.2.1 rfl
    have hl : P = [] := List.eq_nil_of_length_eq_zero (by have := h.2.1; omega)
    subst hl
    clear h hc
    go_enter Tryd.func25, Tryd.ntmps25
    go_wp2
    go_ret
    exact ⟨none, 0, rfl, Own.nil _ _ _ _, Below.refl _ _⟩
  | some ad =>
    have HO := hid (ownPt_empty w)
    have HR := hid (h.mono (albO w (.cells #[] 37)))
    have B0 := hid (albO w (.cells #[] 37))
    clear h
    go_enter Tryd.func25, Tryd.ntmps25
    go_wp2_with (at_builtin; (refine wpl_append rfl (.tmp 5) (.tmp 6) rfl EPt w.heap.size rfl rfl HO.out HR.out (pts_one P) (by show (0 + _) * 24 ≤ _; omega) (by show 0 + _ ≤ _; omega) (by simp) ?_); intro a2 c2 w2 o2 g2 b2; have O2 := hid o2; have B2 := hid (B0.out.trans b2); clear o2 g2 b2)
    go_ret
    exact ⟨a2, c2, by simp, by have := O2.out; simpa using this, B2.out⟩
set_option maxHeartbeats 2000000 in
theorem patches_any {w : World} {tg g lg tc : Nat} {ta : Option Addr} {P : List PtM} (h : Blk w tg 61 (txC g lg ta P.length tc)) (hr : RowPt w ta tc P) (hl : P.length ≤ 1000) :
    Calls Tryd.prog 7 #[.pointer (some ⟨tg, 0, none⟩)] w fun e w' => ∃ la lc, e = .returned (.slice la P.length lc) ∧ OwnPt w' w.heap.size la lc P ∧ Below w.heap.size w w' := by
  have c2 : w.cell? ⟨tg, 2, none⟩ = some (.slice ta P.length tc) := h.cell (i := 2) (by show 2 < 3; omega)
  have HC := hid (clonePts_any hr hl)
  clear h hr
  go_enter Tryd.func7, Tryd.ntmps7
  go_wp2_with (go_at_call 25; refine HC.out.mono ?_; rintro e w1 ⟨la, lc, rfl, o1, b1⟩; have O1 := hid o1; have B1 := hid b1; clear o1 b1)
  go_ret
  exact ⟨la, lc, rfl, O1.out, B1.out⟩
end Go.Proofs.YtcackliabemecaaDoor
