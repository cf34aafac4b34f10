/- The statements of stage 5: NamesMay, NamesPaths, NamesHashes. -/
import Derived.Test.YtbdfddefkflipaaDoorPthF
namespace Go.Proofs.YtbdfddefkflipaaDoor
open Go.RowKit Go.Shelf
set_option linter.unusedSimpArgs false
set_option linter.unusedVariables false

set_option maxHeartbeats 1000000 in
theorem NamesMay_walk (w : World) (s : ByteArray) (ws : s.size ≤ maxLen) : Calls Tryd.prog 3 #[.string s] w fun e w' => e = .returned (.bool true) ∧ Below w.heap.size w w' := by
  have HF := hid (fun w1 => few5_any s w1)
  generalize strB (fewL s.data.toList) = q at *
  have H1 := hid (fun w1 => mayN_any q w1)
  have H2 := hid (fun w1 => mayNRef_any q w1)
  generalize mayN q = m at *
  clear ws
  go_enter Tryd.func3, Tryd.ntmps3
  go_wp2_with (first
    | (go_at_call 11; refine (HF.out _).mono ?_; rintro e w1 ⟨rfl, rfl⟩)
    | (go_at_call 12; refine (H1.out _).mono ?_; rintro e w2 ⟨rfl, b2⟩; have B2 := hid b2; clear b2)
    | (go_at_call 13; refine (H2.out _).mono ?_; rintro e w3 ⟨rfl, rfl⟩)
    | (go_at_call 14; refine (lives5_any _).mono ?_; rintro e w4 ⟨rfl, b4⟩; have B4 := hid (kept_trans B2.out b4); clear b4))
  go_ret
  exact ⟨rfl, B4.out⟩

set_option maxHeartbeats 1000000 in
theorem NamesHashes_walk (w : World) (s : ByteArray) (ws : s.size ≤ maxLen) : Calls Tryd.prog 8 #[.string s] w fun e w' => e = .returned (.bool true) ∧ Below w.heap.size w w' := by
  obtain ⟨q, hq, hc⟩ : ∃ q : ByteArray, q.size ≤ 60 ∧ ((s.size ≤ 60 ∧ q = s) ∨ (60 < s.size ∧ s.extract 0 60 = q)) := by
    by_cases h : s.size ≤ 60
    · exact ⟨s, h, .inl ⟨h, rfl⟩⟩
    · exact ⟨s.extract 0 60, by rw [ByteArray.size_extract]; omega, .inr ⟨by omega, rfl⟩⟩
  have H1 := hid (fun w1 => hash_any q (by omega) w1)
  have H2 := hid (fun w1 => hashRef_any q (by omega) w1)
  have hlt := hashF_lt q.data.toList
  generalize hashF q.data.toList = n at *
  have dn : decide ((0 : Int) ≤ n) = true := decide_eq_true (by omega)
  have dn2 : decide ((n : Int) ≤ 15) = true := decide_eq_true (by omega)
  have dn3 : decide ((n : Int) ≥ 0) = true := decide_eq_true (by omega)
  clear ws hq
  rcases hc with ⟨h, rfl⟩ | ⟨h, hx⟩
  · have d : decide (60 < (q.size : Int)) = false := decide_eq_false (by omega)
    go_enter Tryd.func8, Tryd.ntmps8
    go_wp2_with (first
      | (go_at_call 22; refine (H1.out _).mono ?_; rintro e w1 ⟨rfl, rfl⟩)
      | (go_at_call 23; refine (H2.out _).mono ?_; rintro e w2 ⟨rfl, b2⟩; have B2 := hid b2; clear b2)
      | (go_at_call 14; refine (lives5_any _).mono ?_; rintro e w4 ⟨rfl, b4⟩; have B4 := hid (kept_trans B2.out b4); clear b4))
    go_ret
    exact ⟨rfl, B4.out⟩
  · have d : decide (60 < (s.size : Int)) = true := decide_eq_true (by omega)
    have d2 : (60 : Int) ≤ s.size := by omega
    go_enter Tryd.func8, Tryd.ntmps8
    go_wp2_with (first
      | (go_at_call 22; refine (H1.out _).mono ?_; rintro e w1 ⟨rfl, rfl⟩)
      | (go_at_call 23; refine (H2.out _).mono ?_; rintro e w2 ⟨rfl, b2⟩; have B2 := hid b2; clear b2)
      | (go_at_call 14; refine (lives5_any _).mono ?_; rintro e w4 ⟨rfl, b4⟩; have B4 := hid (kept_trans B2.out b4); clear b4))
    go_ret
    exact ⟨rfl, B4.out⟩

set_option maxHeartbeats 1000000 in
theorem NamesPaths_walk (w : World) (s : ByteArray) (ws : s.size ≤ maxLen) : Calls Tryd.prog 4 #[.string s] w fun e w' => e = .returned (.bool true) ∧ Below w.heap.size w w' := by
  have HF := hid (fun w1 => few5_any s w1)
  have hX := fewL_len s.data.toList
  generalize fewL s.data.toList = X at *
  have H1 := fun w1 => path_any X hX w1
  have H2 := fun w1 => pathRef_any X hX w1
  unfold PathP at H1 H2
  generalize pathO X = o at *
  have HS := fun a b c d w1 h1 h2 => sameS_any (o.getD []) a b c d w1 h1 h2
  generalize erO o = er at *
  generalize o.getD [] = L at *
  have H1 := hid H1; have H2 := hid H2; have HS := hid HS
  clear ws hX
  go_enter Tryd.func4, Tryd.ntmps4
  go_wp2_with (first
    | (go_at_call 11; refine (HF.out _).mono ?_; rintro e w1 ⟨rfl, rfl⟩)
    | (go_at_call 15; refine (H1.out _).mono ?_; rintro e w2 ⟨a2, c2, rfl, o2, b2⟩; have B2 := hid b2; have O2 := hid o2; clear b2 o2)
    | (go_at_call 16; refine (H2.out _).mono ?_; rintro e w3 ⟨a3, c3, rfl, o3, b3⟩; have B3 := hid (kept_trans B2.out b3); have R2 := hid (O2.out.mono b3).row; have R3 := hid o3.row; clear b3 o3)
    | (go_at_call 17; refine (HS.out _ _ _ _ _ R2.out R3.out).mono ?_; rintro e w4 ⟨rfl, b4⟩; have B4 := hid (kept_trans B3.out b4); clear b4)
    | (go_at_call 14; refine (lives5_any _).mono ?_; rintro e w5 ⟨rfl, b5⟩; have B5 := hid (kept_trans B4.out b5); clear b5))
  go_ret
  exact ⟨rfl, B5.out⟩
end Go.Proofs.YtbdfddefkflipaaDoor
