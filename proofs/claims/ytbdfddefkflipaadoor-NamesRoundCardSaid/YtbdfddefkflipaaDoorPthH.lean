/- The statements of stage 5: NamesParents. -/
import Derived.Test.YtbdfddefkflipaaDoorPthG
namespace Go.Proofs.YtbdfddefkflipaaDoor
open Go.RowKit Go.Shelf
set_option linter.unusedSimpArgs false
set_option linter.unusedVariables false

theorem rowS_head {w : World} {ad : Addr} {c : Nat} {A B : List ByteArray} (h : RowS w (some ad) c (A ++ B)) : RowS w (some ad) c A := by
  obtain ⟨h1, h2, h3, h4, h5⟩ := h
  have hl : (A ++ B).length = A.length + B.length := List.length_append
  refine ⟨by simp, by omega, h3, (fun h => by cases h), fun hn => ?_⟩
  obtain ⟨b', o', e', hb', hc'⟩ := h5 (by omega)
  refine ⟨b', o', e', hb', fun j u hu => hc' j u ?_⟩
  rw [List.map_append, List.getElem?_append_left (by have := (List.getElem?_eq_some_iff.1 hu).1; exact this)]
  exact hu
theorem parent_some (X : List UInt8) (hX : X.length ≤ 1000) {A : List ByteArray} {x : ByteArray} (ho : pathO X = some (A ++ [x])) (w : World) :
    Calls Tryd.prog 18 #[.string (strB X)] w fun e w' => ∃ a, e = .returned (.tuple #[.slice a A.length A.length, .string x, .int .i64 0]) ∧ RowS w' a A.length A ∧ Below w.heap.size w w' :=
  (parent_any X hX w).mono fun e w' h => by
    rw [ho] at h
    rcases h with ⟨L, y, a, c, h1, h2, h3, h4, h5⟩ | ⟨h1 | h1, _⟩
    · injection h1 with h1
      obtain ⟨rfl, h6⟩ := List.append_inj' h1 rfl
      injection h6 with h6 _
      subst h6 h2
      exact ⟨a, h3, h4, h5⟩
    · cases h1
    · injection h1 with h1
      exact absurd h1 (by simp)
theorem parent_none (X : List UInt8) (hX : X.length ≤ 1000) (ho : pathO X = none ∨ pathO X = some []) (w : World) :
    Calls Tryd.prog 18 #[.string (strB X)] w fun e w' => e = .returned (.tuple #[.slice none 0 0, .string ⟨#[]⟩, .int .i64 15]) ∧ Below w.heap.size w w' :=
  (parent_any X hX w).mono fun e w' h => by
    rcases h with ⟨L, y, a, c, h1, h2, h3, h4, h5⟩ | ⟨h1, h2, h3⟩
    · rcases ho with ho | ho
      · rw [ho] at h1; cases h1
      · rw [ho] at h1; injection h1 with h1; exact absurd h1 (by simp)
    · exact ⟨h2, h3⟩
theorem refPath_some (X : List UInt8) (hX : X.length ≤ 1000) {L : List ByteArray} (ho : pathO X = some L) (w : World) :
    Calls Tryd.prog 16 #[.string (strB X)] w fun e w' => ∃ a c, e = .returned (.tuple #[.slice a L.length c, .int .i64 0]) ∧ OwnS w' w.heap.size a c L ∧ Below w.heap.size w w' :=
  (pathRef_any X hX w).mono fun e w' h => by rw [ho] at h; exact h
theorem refPath_none (X : List UInt8) (hX : X.length ≤ 1000) (ho : pathO X = none) (w : World) :
    Calls Tryd.prog 16 #[.string (strB X)] w fun e w' => ∃ a c, e = .returned (.tuple #[.slice a 0 c, .int .i64 15]) ∧ Below w.heap.size w w' :=
  (pathRef_any X hX w).mono fun e w' h => by rw [ho] at h; obtain ⟨a, c, h1, h2, h3⟩ := h; exact ⟨a, c, h1, h3⟩
theorem path_some (X : List UInt8) (hX : X.length ≤ 1000) {L : List ByteArray} (ho : pathO X = some L) (w : World) :
    Calls Tryd.prog 15 #[.string (strB X)] w fun e w' => ∃ a c, e = .returned (.tuple #[.slice a L.length c, .int .i64 0]) ∧ OwnS w' w.heap.size a c L ∧ Below w.heap.size w w' :=
  (path_any X hX w).mono fun e w' h => by rw [ho] at h; exact h

set_option maxHeartbeats 2000000 in
theorem NamesParents_walk (w : World) (s : ByteArray) (ws : s.size ≤ maxLen) : Calls Tryd.prog 5 #[.string s] w fun e w' => e = .returned (.bool true) ∧ Below w.heap.size w w' := by
  have HF := hid (fun w1 => few5_any s w1)
  have hX := fewL_len s.data.toList
  generalize fewL s.data.toList = X at *
  clear ws
  cases ho : pathO X with
  | none =>
    have H1 := hid (fun w1 => parent_none X hX (.inl ho) w1)
    have H2 := hid (fun w1 => refPath_none X hX ho w1)
    clear ho hX
    go_enter Tryd.func5, Tryd.ntmps5
    go_wp2_with (first
      | (go_at_call 11; refine (HF.out _).mono ?_; rintro e w1 ⟨rfl, rfl⟩)
      | (go_at_call 18; refine (H1.out _).mono ?_; rintro e w2 ⟨rfl, b2⟩; have B2 := hid b2; clear b2)
      | (go_at_call 16; refine (H2.out _).mono ?_; rintro e w3 ⟨a3, c3, rfl, b3⟩; have B3 := hid (kept_trans B2.out b3); clear b3)
      | (go_at_call 14; refine (lives5_any _).mono ?_; rintro e w5 ⟨rfl, b5⟩; have B5 := hid (kept_trans B3.out b5); clear b5))
    go_ret
    exact ⟨rfl, B5.out⟩
  | some L =>
    rcases snoc_cases L with rfl | ⟨A, x, rfl⟩
    · have H1 := hid (fun w1 => parent_none X hX (.inr ho) w1)
      have H2 := hid (fun w1 => refPath_some X hX ho w1)
      clear ho hX
      go_enter Tryd.func5, Tryd.ntmps5
      go_wp2_with (first
        | (go_at_call 11; refine (HF.out _).mono ?_; rintro e w1 ⟨rfl, rfl⟩)
        | (go_at_call 18; refine (H1.out _).mono ?_; rintro e w2 ⟨rfl, b2⟩; have B2 := hid b2; clear b2)
        | (go_at_call 16; refine (H2.out _).mono ?_; rintro e w3 ⟨a3, c3, rfl, o3, b3⟩; have B3 := hid (kept_trans B2.out b3); clear b3 o3)
        | (go_at_call 14; refine (lives5_any _).mono ?_; rintro e w5 ⟨rfl, b5⟩; have B5 := hid (kept_trans B3.out b5); clear b5))
      go_ret
      exact ⟨rfl, B5.out⟩
    · have H1 := hid (fun w1 => parent_some X hX ho w1)
      have H2 := fun w1 => refPath_some X hX ho w1
      rw [show (A ++ [x]).length = A.length + 1 by simp] at H2
      have H2 := hid H2
      have HS := hid (fun a b c d w1 h1 h2 => sameS_any A a b c d w1 h1 h2)
      clear ho hX
      go_enter Tryd.func5, Tryd.ntmps5
      go_wp2_with (first
        | (go_at_call 11; refine (HF.out _).mono ?_; rintro e w1 ⟨rfl, rfl⟩)
        | (go_at_call 18; refine (H1.out _).mono ?_; rintro e w2 ⟨a2, rfl, r2, b2⟩; have B2 := hid b2; have R2 := hid r2; clear b2 r2)
        | (go_at_call 16; fail))
      refine (H2.out _).mono ?_
      rintro e w3 ⟨a3, c3, rfl, o3, b3⟩
      have B3 := hid (kept_trans B2.out b3); have R2' := hid (R2.out.mono b3)
      have hrow : RowS w3 a3 c3 (A ++ [x]) := by have := o3.row; exact this
      obtain ⟨g, off, rfl, hg, hc⟩ := rowS_cells hrow (by simp)
      have hlc : A.length + 1 ≤ c3 := by have := hrow.2.1; rw [show (A ++ [x]).length = A.length + 1 by simp] at this; exact this
      have hc9 : c3 ≤ 9223372036854775807 := by have := hrow.2.2.1; unfold maxLen at this; exact this
      have hxe : (A ++ [x])[A.length]'(by simp) = x := by simp
      have HROW := hid hrow
      have R3 := hid (rowS_head hrow)
      have i1 : (A.length : Int) < (A.length : Int) + 1 := by omega
      have i2 : (A.length : Int) ≤ c3 := by omega
      have e0 : (((A.length : Int) + 1) == 0) = false := by rw [beq_eq_false_iff_ne]; omega
      clear hc b3 o3 hrow hxe
      go_wp2_with (go_at_call 17; fail)
      refine (HS.out _ _ _ _ _ R2'.out R3.out).mono ?_
      rintro e w4 ⟨rfl, b4⟩
      have B4 := hid (kept_trans B3.out b4)
      have hrow := HROW.out.mono b4
      obtain ⟨g', off', hge, hg', hc⟩ := rowS_cells hrow (by simp)
      cases hge
      have cx := hc A.length (by simp)
      rw [show (A ++ [x])[A.length]'(by simp) = x by simp] at cx
      clear hc hrow b4
      go_wp2_with (go_at_call 14; refine (lives5_any _).mono ?_; rintro e w5 ⟨rfl, b5⟩; have B5 := hid (kept_trans B4.out b5); clear b5)
      go_ret
      exact ⟨rfl, B5.out⟩
end Go.Proofs.YtbdfddefkflipaaDoor
