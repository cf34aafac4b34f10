/- The statements of stage 5: their examples, few, Same. -/
import Derived.Test.YtbdfddefkflipaaDoorPthE
import Derived.Test.YtbdfddefkflipaaDoorHashA
namespace Go.Proofs.YtbdfddefkflipaaDoor
open Go.RowKit Go.Shelf
set_option linter.unusedSimpArgs false
set_option linter.unusedVariables false

theorem lv1 (w : World) : Calls Tryd.prog 15 #[.string ⟨#[47, 97, 47, 98, 46, 99]⟩] w fun e w' => ∃ a c, e = .returned (.tuple #[.slice a 2 c, .int .i64 0]) ∧ RowS w' a c [⟨#[97]⟩, ⟨#[98, 46, 99]⟩] ∧ Below w.heap.size w w' :=
  (path_any [47, 97, 47, 98, 46, 99] (by decide) w).mono fun e w' h => by
    rw [show pathO [47, 97, 47, 98, 46, 99] = some [strB [97], strB [98, 46, 99]] by decide +kernel] at h
    obtain ⟨a, c, h1, h2, h3⟩ := h
    exact ⟨a, c, h1, h2.row, h3⟩
theorem lvN (X : List UInt8) (hX : X.length ≤ 1000) (hn : pathO X = none) (w : World) : Calls Tryd.prog 15 #[.string (strB X)] w fun e w' => ∃ a c, e = .returned (.tuple #[.slice a 0 c, .int .i64 15]) ∧ Below w.heap.size w w' :=
  (path_any X hX w).mono fun e w' h => by
    rw [hn] at h
    obtain ⟨a, c, h1, h2, h3⟩ := h
    exact ⟨a, c, h1, h3⟩
theorem lv2 (w : World) : Calls Tryd.prog 15 #[.string ⟨#[47, 97, 47]⟩] w fun e w' => ∃ a c, e = .returned (.tuple #[.slice a 0 c, .int .i64 15]) ∧ Below w.heap.size w w' := lvN [47, 97, 47] (by decide) (by decide +kernel) w
theorem lv3 (w : World) : Calls Tryd.prog 15 #[.string ⟨#[97]⟩] w fun e w' => ∃ a c, e = .returned (.tuple #[.slice a 0 c, .int .i64 15]) ∧ Below w.heap.size w w' := lvN [97] (by decide) (by decide +kernel) w
theorem lv4 (w : World) : Calls Tryd.prog 15 #[.string ⟨#[47, 65]⟩] w fun e w' => ∃ a c, e = .returned (.tuple #[.slice a 0 c, .int .i64 15]) ∧ Below w.heap.size w w' := lvN [47, 65] (by decide) (by decide +kernel) w
theorem lv5 (w : World) : Calls Tryd.prog 18 #[.string ⟨#[47, 97, 47, 98]⟩] w fun e w' => ∃ a c, e = .returned (.tuple #[.slice a 1 c, .string ⟨#[98]⟩, .int .i64 0]) ∧ Below w.heap.size w w' :=
  (parent_any [47, 97, 47, 98] (by decide) w).mono fun e w' h => by
    rw [show pathO [47, 97, 47, 98] = some [strB [97], strB [98]] by decide +kernel] at h
    rcases h with ⟨L, x, a, c, h1, h2, h3, h4, h5⟩ | ⟨h1 | h1, _⟩
    · injection h1 with h1
      match L, h1 with
      | [y], h1 =>
        injection h1 with _ h1
        injection h1 with h1 _
        subst h1
        exact ⟨a, c, h3, h5⟩
      | [], h1 => injection h1 with _ h1; cases h1
      | _ :: _ :: [], h1 => injection h1 with _ h1; injection h1 with _ h1; cases h1
      | _ :: _ :: _ :: _, h1 => injection h1 with _ h1; injection h1 with _ h1; cases h1
    · cases h1
    · injection h1 with h1; cases h1
theorem lv6 (w : World) : Calls Tryd.prog 22 #[.string ⟨#[]⟩] w fun e w' => e = .returned (.int .i64 8) ∧ w = w' :=
  (hash_any ⟨#[]⟩ (by decide) w).mono fun e w' h => by
    have h8 : (hashF [] : Nat) = 8 := by decide +kernel
    rw [show (⟨#[]⟩ : ByteArray).data.toList = [] from rfl, h8] at h
    exact ⟨h.1, by first | exact h.2 | exact h.2.symm⟩

set_option maxHeartbeats 2000000 in
theorem lives5_any (w : World) : Calls Tryd.prog 14 #[] w fun e w' => e = .returned (.bool true) ∧ Below w.heap.size w w' := by
  go_enter Tryd.func14, Tryd.ntmps14
  go_wp2_with (go_at_call 15; fail)
  refine (lv1 _).mono ?_
  rintro e w1 ⟨a1, c1, rfl, r1, b1⟩
  have R1 := hid r1; have B1 := hid b1
  clear r1 b1
  go_wp2_with (go_at_call 15; fail)
  refine (lv2 _).mono ?_
  rintro e w2 ⟨a2, c2, rfl, b2⟩
  have B2 := hid (kept_trans B1.out b2); have R2 := hid (R1.out.mono b2)
  clear b2
  go_wp2_with (go_at_call 15; fail)
  refine (lv3 _).mono ?_
  rintro e w3 ⟨a3, c3, rfl, b3⟩
  have B3 := hid (kept_trans B2.out b3); have R3 := hid (R2.out.mono b3)
  clear b3
  go_wp2_with (go_at_call 15; fail)
  refine (lv4 _).mono ?_
  rintro e w4 ⟨a4, c4, rfl, b4⟩
  have B4 := hid (kept_trans B3.out b4); have R4 := hid (R3.out.mono b4)
  clear b4
  go_wp2_with (go_at_call 18; fail)
  refine (lv5 _).mono ?_
  rintro e w5 ⟨a5, c5, rfl, b5⟩
  have B5 := hid (kept_trans B4.out b5); have R5 := hid (R4.out.mono b5)
  clear b5
  obtain ⟨b, off, rfl, hb, hc⟩ := rowS_cells R5.out (by decide)
  have cc := hc 1 (by decide)
  simp only [List.getElem_cons_succ, List.getElem_cons_zero] at cc
  clear hc
  go_wp2_with (go_at_call 22; fail)
  refine (lv6 _).mono ?_
  rintro e w6 ⟨rfl, rfl⟩
  go_wp2_with fail
  go_ret
  exact ⟨rfl, B5.out⟩

/-- the first 120 bytes -/
def fewL (X : List UInt8) : List UInt8 := X.take 120
theorem fewL_len (X : List UInt8) : (fewL X).length ≤ 1000 := by unfold fewL; rw [List.length_take]; omega
theorem few5_any (s : ByteArray) (w : World) : Calls Tryd.prog 11 #[.string s] w fun e w' => e = .returned (.string (strB (fewL s.data.toList))) ∧ w = w' := by
  have hl : s.data.toList.length = s.size := by simp
  by_cases h : s.size ≤ 120
  · have e : strB (fewL s.data.toList) = s := by unfold fewL; rw [List.take_of_length_le (by omega)]; rfl
    rw [e]
    have d : decide (120 < (s.size : Int)) = false := decide_eq_false (by omega)
    clear e hl
    go_enter Tryd.func11, Tryd.ntmps11
    go_wp2
    go_ret
    exact ⟨rfl, rfl⟩
  · have e : strB (fewL s.data.toList) = s.extract 0 120 := by rw [ext_str]; rfl
    rw [e]
    have d : decide (120 < (s.size : Int)) = true := decide_eq_true (by omega)
    have d2 : (120 : Int) ≤ s.size := by omega
    clear e hl
    go_enter Tryd.func11, Tryd.ntmps11
    go_wp2
    go_ret
    exact ⟨rfl, rfl⟩

set_option maxHeartbeats 1000000 in
theorem sameS_any (L : List ByteArray) (a b : Option Addr) (c d : Nat) (w : World) (ha : RowS w a c L) (hb : RowS w b d L) :
    Calls Tryd.prog 17 #[.slice a L.length c, .slice b L.length d] w fun e w' => e = .returned (.bool true) ∧ Below w.heap.size w w' := by
  have HA := hid ha; have HB := hid hb
  have hl := rowS_len ha
  clear ha hb
  go_enter Tryd.func17, Tryd.ntmps17
  go_wp2_with fail
  go_loopw [5] (fun i wr => ∃ k : Nat, k ≤ L.length ∧ i = .int .i64 k ∧ Below w.heap.size w wr) (fun i _ => L.length - (intOf i).toNat)
  case atStart => exact ⟨0, by omega, rfl, Below.refl _ _⟩
  case round =>
    obtain ⟨k, hk, rfl, hbl⟩ := hrel
    by_cases hk16 : k < L.length
    · obtain ⟨ba, oa, rfl, hba, hca⟩ := rowS_cells (HA.out.mono hbl) (by omega)
      obtain ⟨bb, ob, rfl, hbb, hcb⟩ := rowS_cells (HB.out.mono hbl) (by omega)
      have a0 := hca k hk16
      have b0 := hcb k hk16
      have ik : (k : Int) < L.length := by omega
      have dk : decide ((k : Int) < (L.length : Int)) = true := decide_eq_true ik
      clear hca hcb
      generalize L[k] = x at *
      have HBL := hid hbl
      clear hbl
      go_wp2
      go_quiet (fail)
      go_wp2
      go_roundw
      case rel => exact ⟨k + 1, by omega, by go_num, bel_drewN HBL.out _⟩
      case measure => simp [intOf]; omega
    · obtain rfl : k = L.length := by omega
      have dk : decide ((L.length : Int) < (L.length : Int)) = false := decide_eq_false (by omega)
      go_wp2_with fail
      go_ret
      exact ⟨rfl, hbl⟩
end Go.Proofs.YtbdfddefkflipaaDoor
