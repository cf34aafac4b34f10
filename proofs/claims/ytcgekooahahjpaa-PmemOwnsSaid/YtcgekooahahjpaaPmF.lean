/- A memory read, its dirty cells, a fence. -/
import Derived.Test.YtcgekooahahjpaaPmE
namespace Go.Proofs.Ytcgekooahahjpaa
open Go.RowKit
set_option linter.unusedSimpArgs false
set_option linter.unusedVariables false

/-- what Load and Lasts tell of the bytes X -/
def LoadP (X : List UInt8) (M : MemM) (at_ n : Int) (w : World) (e : Ending) (w' : World) : Prop :=
  if inM M at_ n = true then ∃ a c, e = .returned (.tuple #[.slice a n.toNat c, .int .i64 0]) ∧ OwnB w' w.heap.size a c ((X.drop at_.toNat).take n.toNat) ∧ Below w.heap.size w w' else e = .returned (.tuple #[.slice none 0 0, .int .i64 1]) ∧ w = w'
theorem inM_true {M : MemM} {at_ n : Int} (h : inM M at_ n = true) : ∃ a m : Nat, at_ = a ∧ n = m ∧ a + m ≤ M.V.length := by
  have := of_decide_eq_true h
  exact ⟨at_.toNat, n.toNat, by omega, by omega, by omega⟩
theorem inM_mk {M : MemM} {a m : Nat} (h : a + m ≤ M.V.length) : inM M a m = true := decide_eq_true ⟨by omega, by omega, by omega⟩

set_option maxHeartbeats 1000000 in
theorem load_any {w : World} {g v d p : Nat} {M : MemM} (h : MemP w g v d p M) (at_ n : Int) (ha : -9223372036854775808 ≤ at_ ∧ at_ ≤ 9223372036854775807) (hn : -9223372036854775808 ≤ n ∧ n ≤ 9223372036854775807) :
    Calls Try.prog 17 #[.pointer (some ⟨g, 0, none⟩), .int .i64 at_, .int .i64 n] w (LoadP M.V M at_ n w) := by
  have HW := hid (within_any h at_ n ha hn)
  by_cases hi : inM M at_ n = true
  · have hE : LoadP M.V M at_ n w = fun e w' => ∃ a c, e = .returned (.tuple #[.slice a n.toNat c, .int .i64 0]) ∧ OwnB w' w.heap.size a c ((M.V.drop at_.toNat).take n.toNat) ∧ Below w.heap.size w w' := by
      funext e w'; unfold LoadP; rw [if_pos hi]
    rw [hE]
    clear hE
    rw [hi] at HW
    obtain ⟨a0, n0, rfl, rfl, hl⟩ := inM_true hi
    rw [show ((a0 : Int)).toNat = a0 from rfl, show ((n0 : Int)).toNat = n0 from rfl]
    obtain ⟨c0, c1, c2⟩ := h.cells
    have hVl := h.1.2.2.2.2
    have e1 : IntKind.i64.wrap ((a0 : Int) + n0) = (a0 : Int) + n0 := IntWalk.i64_in _ (by omega)
    have f1 : (0 ≤ (a0 : Int) + n0) = True := eq_true (by omega)
    have f2 : ((a0 : Int) + n0 ≤ (M.V.length : Int)) = True := eq_true (by omega)
    have f3 : ((a0 : Int) + n0).toNat = a0 + n0 := by omega
    have f5 : ((a0 : Int) ≤ (M.V.length : Int)) = True := eq_true (by omega)
    have f6 : (a0 ≤ M.V.length) = True := eq_true (by omega)
    have f7 : (a0 + n0 ≤ M.V.length) = True := eq_true (by omega)
    have f8 : (a0 ≤ a0 + n0) = True := eq_true (by omega)
    have hyl : ((M.V.drop a0).take n0).length = n0 := by simp; omega
    by_cases h4 : M.V.length = a0
    · obtain rfl : n0 = 0 := by omega
      have HC : Hid (Calls Try.prog 38 #[.slice (some ⟨v, 0, none⟩) 0 0] w (RetB w [])) := cloneM_any (some ⟨v, 0, none⟩) 0 [] w ⟨rfl, Nat.le_refl _, Nat.zero_le _, (fun h => by cases h), fun h => absurd h (by simp)⟩ (by simp)
      rw [List.take_zero]
      clear hyl h hi f1 f2 f3 f5 f6 f7 f8 e1
      subst h4
      have e1 : IntKind.i64.wrap (M.V.length : Int) = (M.V.length : Int) := IntWalk.i64_in _ (by omega)
      go_enter Try.func17, Try.ntmps17
      go_wp2_with (first | (go_at_call 33; refine HW.out.mono ?_; rintro e w1 ⟨rfl, rfl⟩) | (go_at_call 38; refine HC.out.mono ?_; rintro e w1 ⟨a1, k1, rfl, o1, b1⟩))
      go_ret2
      exact ⟨a1, k1, rfl, o1, b1⟩
    · have hrow : RowB w (some ⟨v, a0, none⟩) (M.V.length - a0) ((M.V.drop a0).take n0) := by
        have := row_mid h.2.2.2.1 a0 n0 (M.V.length - a0) (by omega) (by omega) (by simp; omega)
        rw [← List.map_drop, ← List.map_take] at this
        unfold RowB
        rw [hyl]; exact this
      have hc := cloneM_any _ _ _ w hrow (by omega)
      rw [hyl] at hc
      have HC := hid hc
      have f4 : (M.V.length = a0) = False := eq_false h4
      generalize (M.V.drop a0).take n0 = ys at *
      have HY := hid hyl
      clear hyl h hi hc hrow h4
      go_enter Try.func17, Try.ntmps17
      go_wp2_with (first | (go_at_call 33; refine HW.out.mono ?_; rintro e w1 ⟨rfl, rfl⟩) | (go_at_call 38; refine HC.out.mono ?_; rintro e w1 ⟨a1, k1, rfl, o1, b1⟩))
      go_ret2
      exact ⟨a1, k1, (by rw [HY.out]; rfl), o1, b1⟩
  · have hE : LoadP M.V M at_ n w = fun e w' => e = .returned (.tuple #[.slice none 0 0, .int .i64 1]) ∧ w = w' := by
      funext e w'; unfold LoadP; rw [if_neg hi]
    rw [hE]
    clear hE
    rw [show inM M at_ n = false by simpa using hi] at HW
    clear hi h
    go_enter Try.func17, Try.ntmps17
    go_wp2_with (first | (go_at_call 33; refine HW.out.mono ?_; rintro e w1 ⟨rfl, rfl⟩))
    go_ret2
    exact ⟨rfl, rfl⟩
set_option maxHeartbeats 1000000 in
theorem lasts_any {w : World} {g v d p : Nat} {M : MemM} (h : MemP w g v d p M) (at_ n : Int) (ha : -9223372036854775808 ≤ at_ ∧ at_ ≤ 9223372036854775807) (hn : -9223372036854775808 ≤ n ∧ n ≤ 9223372036854775807) :
    Calls Try.prog 20 #[.pointer (some ⟨g, 0, none⟩), .int .i64 at_, .int .i64 n] w (LoadP M.D M at_ n w) := by
  have HW := hid (within_any h at_ n ha hn)
  by_cases hi : inM M at_ n = true
  · have hE : LoadP M.D M at_ n w = fun e w' => ∃ a c, e = .returned (.tuple #[.slice a n.toNat c, .int .i64 0]) ∧ OwnB w' w.heap.size a c ((M.D.drop at_.toNat).take n.toNat) ∧ Below w.heap.size w w' := by
      funext e w'; unfold LoadP; rw [if_pos hi]
    rw [hE]
    clear hE
    rw [hi] at HW
    obtain ⟨a0, n0, rfl, rfl, hl⟩ := inM_true hi
    rw [show ((a0 : Int)).toNat = a0 from rfl, show ((n0 : Int)).toNat = n0 from rfl]
    obtain ⟨c0, c1, c2⟩ := h.cells
    have hVl := h.1.2.2.2.2
    have hDl := h.1.1
    have e1 : IntKind.i64.wrap ((a0 : Int) + n0) = (a0 : Int) + n0 := IntWalk.i64_in _ (by omega)
    have f1 : (0 ≤ (a0 : Int) + n0) = True := eq_true (by omega)
    have f2 : ((a0 : Int) + n0 ≤ (M.V.length : Int)) = True := eq_true (by omega)
    have f3 : ((a0 : Int) + n0).toNat = a0 + n0 := by omega
    have f5 : ((a0 : Int) ≤ (M.V.length : Int)) = True := eq_true (by omega)
    have f6 : (a0 ≤ M.V.length) = True := eq_true (by omega)
    have f7 : (a0 + n0 ≤ M.V.length) = True := eq_true (by omega)
    have f8 : (a0 ≤ a0 + n0) = True := eq_true (by omega)
    have hyl : ((M.D.drop a0).take n0).length = n0 := by simp; omega
    have HD := hid hDl
    by_cases h4 : M.V.length = a0
    · obtain rfl : n0 = 0 := by omega
      have HC : Hid (Calls Try.prog 38 #[.slice (some ⟨d, 0, none⟩) 0 0] w (RetB w [])) := cloneM_any (some ⟨d, 0, none⟩) 0 [] w ⟨rfl, Nat.le_refl _, Nat.zero_le _, (fun h => by cases h), fun h => absurd h (by simp)⟩ (by simp)
      rw [List.take_zero]
      clear hyl h hi hDl f1 f2 f3 f5 f6 f7 f8 e1
      subst h4
      have e1 : IntKind.i64.wrap (M.V.length : Int) = (M.V.length : Int) := IntWalk.i64_in _ (by omega)
      go_enter Try.func20, Try.ntmps20
      go_wp2_with (first | (go_at_call 33; refine HW.out.mono ?_; rintro e w1 ⟨rfl, rfl⟩) | (go_at_call 38; refine HC.out.mono ?_; rintro e w1 ⟨a1, k1, rfl, o1, b1⟩))
      go_ret2
      exact ⟨a1, k1, rfl, o1, b1⟩
    · have hrow : RowB w (some ⟨d, a0, none⟩) (M.V.length - a0) ((M.D.drop a0).take n0) := by
        have := row_mid h.2.2.2.2.1 a0 n0 (M.V.length - a0) (by omega) (by omega) (by simp; omega)
        rw [← List.map_drop, ← List.map_take] at this
        unfold RowB
        rw [hyl]; exact this
      have hc := cloneM_any _ _ _ w hrow (by omega)
      rw [hyl] at hc
      have HC := hid hc
      have f4 : (M.V.length = a0) = False := eq_false h4
      generalize (M.D.drop a0).take n0 = ys at *
      have HY := hid hyl
      clear hyl h hi hc hrow h4 hDl
      go_enter Try.func20, Try.ntmps20
      go_wp2_with (first | (go_at_call 33; refine HW.out.mono ?_; rintro e w1 ⟨rfl, rfl⟩) | (go_at_call 38; refine HC.out.mono ?_; rintro e w1 ⟨a1, k1, rfl, o1, b1⟩))
      go_ret2
      exact ⟨a1, k1, (by rw [HY.out]; rfl), o1, b1⟩
  · have hE : LoadP M.D M at_ n w = fun e w' => e = .returned (.tuple #[.slice none 0 0, .int .i64 1]) ∧ w = w' := by
      funext e w'; unfold LoadP; rw [if_neg hi]
    rw [hE]
    clear hE
    rw [show inM M at_ n = false by simpa using hi] at HW
    clear hi h
    go_enter Try.func20, Try.ntmps20
    go_wp2_with (first | (go_at_call 33; refine HW.out.mono ?_; rintro e w1 ⟨rfl, rfl⟩))
    go_ret2
    exact ⟨rfl, rfl⟩
end Go.Proofs.Ytcgekooahahjpaa
