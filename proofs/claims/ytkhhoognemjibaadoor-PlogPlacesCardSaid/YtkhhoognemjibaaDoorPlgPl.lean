/- PlogPlaces. -/
import Derived.Test.YtkhhoognemjibaaDoorPlgMf
namespace Go.Proofs.YtkhhoognemjibaaDoor
open Go.RowKit
set_option linter.unusedSimpArgs false
set_option linter.unusedVariables false
set_option maxRecDepth 100000

def placeN (n : Int) : Int := if 4096 < n then n % 4097 else n
theorem pmNew_two (w : World) (n : Int) (hn : i64B n) : Calls Tryd.prog 17 #[.int .i64 n] w fun e w' => ∃ q, e = .returned (.pointer q) ∧ Below w.heap.size w w' ∧ (q = none ∨ ∃ g v d p, q = some ⟨g, 0, none⟩ ∧ MemP w' g v d p (newM n.toNat) ∧ validM n) := by
  refine (newM_any n w hn).mono ?_
  intro e w' z
  unfold NewP at z
  split at z
  · next h =>
    obtain ⟨g, v, d, p, rfl, m, _, b⟩ := z
    exact ⟨_, rfl, b, .inr ⟨g, v, d, p, rfl, m, h⟩⟩
  · obtain ⟨rfl, rfl⟩ := z
    exact ⟨none, rfl, Below.refl _ _, .inl rfl⟩
theorem newL_two {w : World} {g v d p : Nat} {M : MemM} (h : MemP w g v d p M) (at_ size : Int) (ha : i64B at_) (hs : i64B size) (n : Int) (hM : (M.V.length : Int) = n) (hn : n ≤ 1048576) :
    Calls Tryd.prog 18 #[.pointer (some ⟨g, 0, none⟩), .int .i64 at_, .int .i64 size] w fun e w' => ∃ lg, e = .returned (.pointer (if mayL n at_ size then some ⟨lg, 0, none⟩ else none)) ∧ Below w.heap.size w w' := by
  refine (newL_any h at_ size ha hs (by omega)).mono ?_
  intro e w' z
  unfold NewLP at z
  rw [hM] at z
  split at z
  · next h =>
    obtain ⟨lg, rfl, _, _, b⟩ := z
    exact ⟨lg, by rw [if_pos h], b⟩
  · next h =>
    obtain ⟨rfl, rfl⟩ := z
    exact ⟨0, by rw [if_neg h], Below.refl _ _⟩

set_option maxHeartbeats 8000000 in
theorem PlogPlaces_walk (w : World) (n : Int) (wn : (Lit.int .i64 n).wf = true) (at_ : Int) (wa : (Lit.int .i64 at_).wf = true) (size : Int) (ws : (Lit.int .i64 size).wf = true) :
    Calls Tryd.prog 6 #[.int .i64 n, .int .i64 at_, .int .i64 size] w fun e w' => e = .returned (.bool true) ∧ Below w.heap.size w w' := by
  have hn := i64_bd wn
  have ha := i64_bd wa
  have hs := i64_bd ws
  clear wn wa ws
  obtain ⟨N, hN⟩ : ∃ N, N = placeN n := ⟨_, rfl⟩
  have hb : i64B N := by rw [hN]; unfold placeN i64B; split <;> omega
  have HB := hid hb
  have HNew := hid (fun W => pmNew_two W N hb)
  have HNil := hid (fun W => newL_nil W at_ size)
  have HNil2 := hid (fun W => newL_nil W 0 128)
  have HA : Hid (i64B at_) := hid ha
  have HS : Hid (i64B size) := hid hs
  by_cases hbig : 4096 < n
  · have e1 : n.tmod 4097 = N := by rw [hN, placeN, if_pos hbig]; exact Int.tmod_eq_emod_of_nonneg (by omega)
    have e2 : IntKind.i64.wrap N = N := IntWalk.i64_in _ hb
    have d1 : decide (4096 < n) = true := decide_eq_true hbig
    clear hN ha hs hn hb
    go_enter Tryd.func6, Tryd.ntmps6
    go_wp2_with fail
    refine (HNew.out _).mono ?_
    rintro e w1 ⟨q, rfl, b1, hq⟩
    rcases hq with rfl | ⟨g, v, d, p, rfl, m1, hv⟩
    · have B1 := hid b1
      clear b1
      go_wp2_with fail
      refine (HNil.out _).mono ?_
      rintro e w2 ⟨rfl, rfl⟩
      go_wp2_with fail
      refine (HNil2.out _).mono ?_
      rintro e w3 ⟨rfl, rfl⟩
      go_wp2_with fail
      refine (lives08_any _).mono ?_
      rintro e w4 ⟨rfl, b4⟩
      have B4 := hid (kept_trans B1.out b4)
      go_wp2_with fail
      go_ret
      exact ⟨rfl, B4.out⟩
    · have hlen : (((newM N.toNat).V.length : Nat) : Int) = N := by obtain ⟨v1, v2, v3⟩ := hv; simp [newM]; omega
      have hle : N ≤ 1048576 := hv.2.1
      have HL := hid (newL_two m1 at_ size HA.out HS.out N hlen hle)
      have HM := hid (fun W => mayR_any N at_ size W (by omega) HA.out HS.out)
      have B1 := hid b1
      clear b1 m1 hlen hle hv
      by_cases hm : mayL N at_ size
      · have HL2 : Hid (Calls Tryd.prog 18 #[.pointer (some ⟨g, 0, none⟩), .int .i64 at_, .int .i64 size] w1 fun e w' => ∃ lg, e = .returned (.pointer (some ⟨lg, 0, none⟩)) ∧ Below w1.heap.size w1 w') := hid (HL.out.mono fun e w' z => by obtain ⟨lg, z1, z2⟩ := z; rw [if_pos hm] at z1; exact ⟨lg, z1, z2⟩)
        have HM2 : Hid (∀ W, Calls Tryd.prog 19 #[.int .i64 N, .int .i64 at_, .int .i64 size] W fun e w' => e = .returned (.bool true) ∧ W = w') := hid (fun W => (HM.out W).mono fun e w' z => by rw [decide_eq_true hm] at z; exact z)
        clear HL HM hm
        go_wp2_with fail
        refine HL2.out.mono ?_
        rintro e w2 ⟨lg, rfl, b2⟩
        have B2 := hid (kept_trans B1.out b2)
        clear b2
        go_wp2_with fail
        refine (HM2.out _).mono ?_
        rintro e w3 ⟨rfl, rfl⟩
        go_wp2_with fail
        refine (HNil2.out _).mono ?_
        rintro e w3 ⟨rfl, rfl⟩
        go_wp2_with fail
        refine (lives08_any _).mono ?_
        rintro e w4 ⟨rfl, b4⟩
        have B4 := hid (kept_trans B2.out b4)
        go_wp2_with fail
        go_ret
        exact ⟨rfl, B4.out⟩
      · have HL2 : Hid (Calls Tryd.prog 18 #[.pointer (some ⟨g, 0, none⟩), .int .i64 at_, .int .i64 size] w1 fun e w' => e = .returned (.pointer none) ∧ Below w1.heap.size w1 w') := hid (HL.out.mono fun e w' z => by obtain ⟨lg, z1, z2⟩ := z; rw [if_neg hm] at z1; exact ⟨z1, z2⟩)
        have HM2 : Hid (∀ W, Calls Tryd.prog 19 #[.int .i64 N, .int .i64 at_, .int .i64 size] W fun e w' => e = .returned (.bool false) ∧ W = w') := hid (fun W => (HM.out W).mono fun e w' z => by rw [decide_eq_false hm] at z; exact z)
        clear HL HM hm
        go_wp2_with fail
        refine HL2.out.mono ?_
        rintro e w2 ⟨rfl, b2⟩
        have B2 := hid (kept_trans B1.out b2)
        clear b2
        go_wp2_with fail
        refine (HM2.out _).mono ?_
        rintro e w3 ⟨rfl, rfl⟩
        go_wp2_with fail
        refine (HNil2.out _).mono ?_
        rintro e w3 ⟨rfl, rfl⟩
        go_wp2_with fail
        refine (lives08_any _).mono ?_
        rintro e w4 ⟨rfl, b4⟩
        have B4 := hid (kept_trans B2.out b4)
        go_wp2_with fail
        go_ret
        exact ⟨rfl, B4.out⟩
  · have e1 : N = n := by rw [hN, placeN, if_neg hbig]
    have d1 : decide (4096 < n) = false := decide_eq_false hbig
    clear hN ha hs hn hb
    subst e1
    go_enter Tryd.func6, Tryd.ntmps6
    go_wp2_with fail
    refine (HNew.out _).mono ?_
    rintro e w1 ⟨q, rfl, b1, hq⟩
    rcases hq with rfl | ⟨g, v, d, p, rfl, m1, hv⟩
    · have B1 := hid b1
      clear b1
      go_wp2_with fail
      refine (HNil.out _).mono ?_
      rintro e w2 ⟨rfl, rfl⟩
      go_wp2_with fail
      refine (HNil2.out _).mono ?_
      rintro e w3 ⟨rfl, rfl⟩
      go_wp2_with fail
      refine (lives08_any _).mono ?_
      rintro e w4 ⟨rfl, b4⟩
      have B4 := hid (kept_trans B1.out b4)
      go_wp2_with fail
      go_ret
      exact ⟨rfl, B4.out⟩
    · have hlen : (((newM N.toNat).V.length : Nat) : Int) = N := by obtain ⟨v1, v2, v3⟩ := hv; simp [newM]; omega
      have hle : N ≤ 1048576 := hv.2.1
      have HL := hid (newL_two m1 at_ size HA.out HS.out N hlen hle)
      have HM := hid (fun W => mayR_any N at_ size W (by omega) HA.out HS.out)
      have B1 := hid b1
      clear b1 m1 hlen hle hv
      by_cases hm : mayL N at_ size
      · have HL2 : Hid (Calls Tryd.prog 18 #[.pointer (some ⟨g, 0, none⟩), .int .i64 at_, .int .i64 size] w1 fun e w' => ∃ lg, e = .returned (.pointer (some ⟨lg, 0, none⟩)) ∧ Below w1.heap.size w1 w') := hid (HL.out.mono fun e w' z => by obtain ⟨lg, z1, z2⟩ := z; rw [if_pos hm] at z1; exact ⟨lg, z1, z2⟩)
        have HM2 : Hid (∀ W, Calls Tryd.prog 19 #[.int .i64 N, .int .i64 at_, .int .i64 size] W fun e w' => e = .returned (.bool true) ∧ W = w') := hid (fun W => (HM.out W).mono fun e w' z => by rw [decide_eq_true hm] at z; exact z)
        clear HL HM hm
        go_wp2_with fail
        refine HL2.out.mono ?_
        rintro e w2 ⟨lg, rfl, b2⟩
        have B2 := hid (kept_trans B1.out b2)
        clear b2
        go_wp2_with fail
        refine (HM2.out _).mono ?_
        rintro e w3 ⟨rfl, rfl⟩
        go_wp2_with fail
        refine (HNil2.out _).mono ?_
        rintro e w3 ⟨rfl, rfl⟩
        go_wp2_with fail
        refine (lives08_any _).mono ?_
        rintro e w4 ⟨rfl, b4⟩
        have B4 := hid (kept_trans B2.out b4)
        go_wp2_with fail
        go_ret
        exact ⟨rfl, B4.out⟩
      · have HL2 : Hid (Calls Tryd.prog 18 #[.pointer (some ⟨g, 0, none⟩), .int .i64 at_, .int .i64 size] w1 fun e w' => e = .returned (.pointer none) ∧ Below w1.heap.size w1 w') := hid (HL.out.mono fun e w' z => by obtain ⟨lg, z1, z2⟩ := z; rw [if_neg hm] at z1; exact ⟨z1, z2⟩)
        have HM2 : Hid (∀ W, Calls Tryd.prog 19 #[.int .i64 N, .int .i64 at_, .int .i64 size] W fun e w' => e = .returned (.bool false) ∧ W = w') := hid (fun W => (HM.out W).mono fun e w' z => by rw [decide_eq_false hm] at z; exact z)
        clear HL HM hm
        go_wp2_with fail
        refine HL2.out.mono ?_
        rintro e w2 ⟨rfl, b2⟩
        have B2 := hid (kept_trans B1.out b2)
        clear b2
        go_wp2_with fail
        refine (HM2.out _).mono ?_
        rintro e w3 ⟨rfl, rfl⟩
        go_wp2_with fail
        refine (HNil2.out _).mono ?_
        rintro e w3 ⟨rfl, rfl⟩
        go_wp2_with fail
        refine (lives08_any _).mono ?_
        rintro e w4 ⟨rfl, b4⟩
        have B4 := hid (kept_trans B2.out b4)
        go_wp2_with fail
        go_ret
        exact ⟨rfl, B4.out⟩
end Go.Proofs.YtkhhoognemjibaaDoor
