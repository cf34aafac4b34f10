import Derived.Test.YtnmblbkbiehodaaInoE
import Derived.Test.YtnmblbkbiehodaaLibZ
namespace Go.Proofs.Ytnmblbkbiehodaa
open Go.RowKit Go.WideShapes
set_option linter.unusedSimpArgs false
set_option linter.unusedVariables false

theorem EI11 : ElemT Try.prog 43 3 1 8 := elemT Try.underlying43 (z := .int .i64 0) (by kernel_rfl) rfl (by omega)
theorem iV_one (xs : List Int) : ∀ u ∈ xs.map iV, u.oneCell' = true := by
  intro u hu
  obtain ⟨x, _, rfl⟩ := List.mem_map.1 hu
  rfl
theorem Own.cut0 {w : World} {B : Nat} {e : TypeId} {sz n c : Nat} {a : Option Addr} {cs : List Value} (h : Own w B e sz a n c cs) (hn : 0 < n) : Own w B e sz a 0 c [] := by
  obtain ⟨h0, h⟩ := h
  rcases h with ⟨hv, hz⟩ | ⟨g', cap, cur, hv, hg, hh, h1, h2, h3, h4⟩
  · omega
  · cases hv
    exact ⟨by simp, .inr ⟨g', c, cur, rfl, hg, hh, Nat.zero_le _, h2, h3, by simp⟩⟩
theorem own_addr {w : World} {B : Nat} {e : TypeId} {sz n c : Nat} {a : Option Addr} {cs : List Value} (h : Own w B e sz a n c cs) (hn : 0 < n) : ∃ g, a = some ⟨g, 0, none⟩ := by
  obtain ⟨h0, h⟩ := h
  rcases h with ⟨hv, hz⟩ | ⟨g', cap, cur, hv, _⟩
  · omega
  · cases hv; exact ⟨g', rfl⟩
set_option maxHeartbeats 2000000 in
theorem grow12 (w : World) : Calls Try.prog 34 #[.slice none 0 0, .int .i64 12] w fun e w' => ∃ a c, e = .returned (.slice a 0 c) ∧ Own w' w.heap.size 3 1 a 0 c [] ∧ Below w.heap.size w w' := by
  have t1 : True := trivial
  go_enter Try.func34, Try.ntmps34
  go_wp2_with (at_builtin; have _t := t1; refine wpl_append_zeros rfl (.tmp 20) (.tmp 21) rfl Try.underlying43 Try.underlying3 (z := .int .i64 0) (bytes := 8) (by kernel_rfl) rfl rfl w.heap.size (k := 12) rfl rfl rfl (Own.nil _ _ _ _) (by omega) (by omega) (Nat.le_refl _) ?_; clear t1; intro a7 c7 w7 o7 g7 b7; have hc7 := o7.row.2.1; have O7 := hid (o7.cut0 (by omega)); obtain ⟨g8, rfl⟩ := own_addr o7 (by omega); have HB7 := hid b7; clear b7 o7 g7)
  go_ret
  exact ⟨_, _, rfl, O7.out, HB7.out⟩

set_option maxHeartbeats 4000000 in
set_option maxRecDepth 100000 in
theorem concat_two (g : Nat) (A B : List Int) (aA aB : Option Addr) (cA cB : Nat) (w : World) (hA : A.length = 4) (hB : B.length = 8) (hg : g < w.heap.size)
    (k0 : w.cell? ⟨g, 0, none⟩ = some (.slice aA 4 cA)) (k1 : w.cell? ⟨g, 1, none⟩ = some (.slice aB 8 cB)) (rA : RowI w aA cA A) (rB : RowI w aB cB B) :
    Calls Try.prog 21 #[.slice (some ⟨g, 0, none⟩) 2 2] w fun e w' => ∃ a c, e = .returned (.slice a 12 c) ∧ Own w' w.heap.size 3 1 a 12 c ((A ++ B).map iV) ∧ Below w.heap.size w w' := by
  have HK0 := hid k0; have HK1 := hid k1; have RA := hid rA; have RB := hid rB; have LA := hid hA; have LB := hid hB
  clear rA rB hA hB
  go_enter Try.func21, Try.ntmps21
  go_wp2_with fail
  go_loopw [3, 11] (fun s i wr => ∃ j : Nat, j ≤ 2 ∧ i = .int .i64 j ∧ ((j = 0 ∧ s = .int .i64 0) ∨ (j = 1 ∧ s = .int .i64 4) ∨ (j = 2 ∧ s = .int .i64 12)) ∧ wr = w) (fun _ i _ => 2 - (intOf i).toNat)
  case atStart => exact ⟨0, by omega, rfl, .inl ⟨rfl, rfl⟩, rfl⟩
  case round =>
  obtain ⟨j, hj, rfl, hs, rfl⟩ := hrel
  rcases hs with ⟨rfl, rfl⟩ | ⟨rfl, rfl⟩ | ⟨rfl, rfl⟩
  · rw [show ((0 : Nat) : Int) = 0 from rfl]
    go_wp2_with fail
    go_roundw
    case rel => exact ⟨1, by omega, rfl, .inr (.inl ⟨rfl, rfl⟩), by first | rfl | trivial⟩
    case measure => simp [intOf]
  · rw [show ((1 : Nat) : Int) = 1 from rfl]
    go_wp2_with fail
    go_roundw
    case rel => exact ⟨2, by omega, rfl, .inr (.inr ⟨rfl, rfl⟩), by first | rfl | trivial⟩
    case measure => simp [intOf]
  · rw [show ((2 : Nat) : Int) = 2 from rfl]
    obtain ⟨wo, hwo⟩ : ∃ x, x = wr := ⟨_, rfl⟩
    subst hwo
    go_wp2_with (go_at_call 34; refine (grow12 _).mono ?_; rintro e w4 ⟨a4, c4, rfl, o4, b4⟩; have O4 := hid o4; have B4 := hid b4; clear o4 b4)
    go_loopw [6, 27] (fun s i wr => ∃ (j n c : Nat) (a : Option Addr) (Z : List Int), j ≤ 2 ∧ i = .int .i64 j ∧ s = .slice a n c ∧ Own wr wo.heap.size 3 1 a n c (Z.map iV) ∧ Below wo.heap.size wo wr ∧ ((j = 0 ∧ n = 0 ∧ Z = []) ∨ (j = 1 ∧ n = 4 ∧ Z = A) ∨ (j = 2 ∧ n = 12 ∧ Z = A ++ B))) (fun _ i _ => 2 - (intOf i).toNat)
    case atStart => exact ⟨0, 0, c4, a4, [], by omega, rfl, rfl, O4.out, B4.out, .inl ⟨rfl, rfl, rfl⟩⟩
    case round =>
    obtain ⟨j, n, c, a, Z, hj2, rfl, rfl, oz, bz, hs⟩ := hrel
    have OZ := hid oz; have BZ := hid bz
    have kk0 := (bz.cell (p := ⟨g, 0, none⟩) hg).trans HK0.out
    have kk1 := (bz.cell (p := ⟨g, 1, none⟩) hg).trans HK1.out
    have t1 : True := trivial
    clear oz bz k0 k1
    rcases hs with ⟨rfl, rfl, rfl⟩ | ⟨rfl, rfl, rfl⟩ | ⟨rfl, rfl, rfl⟩
    · rw [show ((0 : Nat) : Int) = 0 from rfl]
      have RR : Hid (Row wr 1 aA 4 cA (A.map iV)) := by have q := RA.out.mono BZ.out; unfold RowI at q; rw [LA.out] at q; exact q
      go_wp2_with (at_builtin; have _t := t1; refine wpl_append rfl (.tmp 31) (.tmp 32) rfl EI11 wo.heap.size rfl rfl OZ.out RR.out (iV_one A) (by omega) (by omega) BZ.out.size ?_; clear t1; intro a6 c6 w6 o6 g6 b6; have O6 := hid o6; have B6 := hid (below_trans BZ.out b6 (Nat.le_refl _)); clear o6 g6 b6)
      go_roundw
      case rel => exact ⟨1, 4, c6, a6, A, by omega, rfl, rfl, O6.out, B6.out, .inr (.inl ⟨rfl, rfl, rfl⟩)⟩
      case measure => simp [intOf]
    · rw [show ((1 : Nat) : Int) = 1 from rfl]
      have RR : Hid (Row wr 1 aB 8 cB (B.map iV)) := by have q := RB.out.mono BZ.out; unfold RowI at q; rw [LB.out] at q; exact q
      go_wp2_with (at_builtin; have _t := t1; refine wpl_append rfl (.tmp 31) (.tmp 32) rfl EI11 wo.heap.size rfl rfl OZ.out RR.out (iV_one B) (by omega) (by omega) BZ.out.size ?_; clear t1; intro a6 c6 w6 o6 g6 b6; have O6 := hid o6; have B6 := hid (below_trans BZ.out b6 (Nat.le_refl _)); clear o6 g6 b6)
      go_roundw
      case rel => exact ⟨2, 12, c6, a6, Z ++ B, by omega, rfl, rfl, by rw [List.map_append]; exact O6.out, B6.out, .inr (.inr ⟨rfl, rfl, rfl⟩)⟩
      case measure => simp [intOf]
    · rw [show ((2 : Nat) : Int) = 2 from rfl]
      go_wp2_with fail
      go_ret
      exact ⟨_, _, rfl, OZ.out, BZ.out⟩

end Go.Proofs.Ytnmblbkbiehodaa
