import Derived.Test.YtpiebklgpehafaaClockD
namespace Go.Proofs.Ytpiebklgpehafaa
open Go.RowKit Go.WideShapes
set_option linter.unusedSimpArgs false
set_option linter.unusedVariables false

theorem rowI_take {w : World} {a : Option Addr} {c : Nat} {S : List Int} (h : RowI w a c S) (n : Nat) : RowI w a c (S.take n) := by
  obtain ⟨h1, h2, h3, h4, h5⟩ := h
  have hl : (S.take n).length ≤ S.length := List.length_take_le' _ _
  refine ⟨by simp, by omega, h3, h4, fun hn => ?_⟩
  obtain ⟨b, off, e, hlt, hc⟩ := h5 (by omega)
  refine ⟨b, off, e, hlt, fun j u hu => hc j u ?_⟩
  rw [List.map_take, List.getElem?_take] at hu
  split at hu
  · exact hu
  · cases hu

set_option maxHeartbeats 1000000 in
theorem few_any (a : Option Addr) (c : Nat) (S : List Int) (w : World) (ha : RowI w a c S) :
    Calls Try.prog 11 #[.slice a S.length c] w fun e w' => e = .returned (.slice a (S.take 12).length c) ∧ w = w' := by
  have hl := rowI_len ha
  have hcap : S.length ≤ c := ha.2.1
  by_cases h : 12 < S.length
  · obtain ⟨b, off, rfl, _⟩ := rowI_cells ha (by omega)
    have hlen : (S.take 12).length = 12 := by simp; omega
    rw [hlen]
    have h12 : (12 : Nat) ≤ c := by omega
    have h12' : ¬ ((c : Int) < 12) := by omega
    clear ha hlen
    go_enter Try.func11, Try.ntmps11
    go_wp2
    go_ret
    exact ⟨rfl, rfl⟩
  · have hlen : (S.take 12).length = S.length := by simp; omega
    rw [hlen]
    clear ha hlen
    go_enter Try.func11, Try.ntmps11
    go_wp2
    go_ret
    exact ⟨rfl, rfl⟩

theorem row_newI (w : World) (S : List Int) (hl : S.length ≤ 1000) : RowI (w.alloc (.cells (S.map iV).toArray 3)) (some ⟨w.heap.size, 0, none⟩) S.length S := by
  have := row_new w (S.map iV) 3 (by simp; omega)
  rw [List.length_map] at this
  exact this

set_option maxHeartbeats 2000000 in
theorem lives18_any (w : World) : Calls Try.prog 9 #[] w fun e w' => e = .returned (.bool true) ∧ Below w.heap.size w w' := by
  have hok : okP 0 8 2 [1, -1] = true := by decide +kernel
  have s0 : shown 2 (passE (fun _ => 0) 8 [1, -1]) 0 = 9 := by decide +kernel
  have s1 : shown 2 (passE (fun _ => 0) 8 [1, -1]) 1 = 7 := by decide +kernel
  have s2 : (false || [(1 : Int), -1].any (byB 1)) = false := by decide +kernel
  go_enter Try.func9, Try.ntmps9
  go_wp2_with fail
  refine (new_any 2 w).mono ?_
  rintro e w1 (⟨hx, _⟩ | ⟨_, h, g, rfl, k, hh, hg, hh1, hg1, b1⟩)
  · exact absurd ⟨by omega, by omega⟩ hx
  have HP := hid (fun (w2 : World) (r : RowI w2 (some ⟨w1.heap.size, 0, none⟩) 2 [1, -1]) (k2 : Clk w2 h g 2 0 (fun _ => 0) false) => pass_ok h g 2 0 (fun _ => 0) false 8 (some ⟨w1.heap.size, 0, none⟩) 2 [1, -1] w2 k2 r (fun _ b off e => by cases e; omega) hok)
  have ba := (Below.refl w1.heap.size w1).alloc (Nat.le_refl _) (.cells #[.int .i64 1, .int .i64 (-1)] 3)
  have r2 : RowI (w1.alloc (.cells #[.int .i64 1, .int .i64 (-1)] 3)) (some ⟨w1.heap.size, 0, none⟩) 2 [1, -1] := row_newI w1 [1, -1] (by simp)
  have k2 := k.below ba
  have HS0 := hid s0; have HS1 := hid s1; have HS2 := hid s2
  clear s0 s1 s2 hok
  go_wp2_with (first
    | (go_at_call 10; refine (HP.out _ r2 k2).mono ?_; rintro e w3 ⟨rfl, k3, q3⟩)
    | (go_at_call_of 15 (Value.int IntKind.i64 0); refine (show_any h g _ _ _ _ 0 w3 k3).mono ?_; rintro e w4 ⟨rfl, rfl⟩; rw [HS0.out])
    | (go_at_call_of 15 (Value.int IntKind.i64 1); refine (show_any h g _ _ _ _ 1 w3 k3).mono ?_; rintro e w4 ⟨rfl, rfl⟩; rw [HS1.out])
    | (go_at_call 13; refine (true_any h g _ _ _ _ w3 k3).mono ?_; rintro e w4 ⟨rfl, rfl⟩)
    | (go_at_call 14; refine (kept_any h g _ _ _ _ w3 k3).mono ?_; rintro e w4 ⟨rfl, rfl⟩; rw [HS2.out]))
  go_ret
  exact ⟨rfl, q3.below (kept_trans b1 ba) hh hg (by have := b1.size; simp; omega)⟩

end Go.Proofs.Ytpiebklgpehafaa
