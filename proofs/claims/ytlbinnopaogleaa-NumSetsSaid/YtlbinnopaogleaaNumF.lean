import Derived.Test.YtlbinnopaogleaaNumE
namespace Go.Proofs.Ytlbinnopaogleaa
open Go.RowKit
set_option linter.unusedSimpArgs false
set_option linter.unusedVariables false

set_option maxHeartbeats 400000 in
theorem few_any (a : Option Addr) (c : Nat) (xs : List UInt8) (w : World) (ha : RowB w a c xs) (hl : xs.length ≤ 9223372036854775807) :
    Calls Try.prog 12 #[.slice a xs.length c] w fun e w' => e = .returned (.slice a (xs.take 100).length c) ∧ w = w' := by
  have hc : xs.length ≤ c := ha.2.1
  by_cases h : 100 < xs.length
  · have e : Hid ((xs.take 100).length = 100) := by show _ = _; simp; omega
    go_enter Try.func12, Try.ntmps12
    go_wp2
    go_ret
    exact ⟨by rw [e.out]; rfl, rfl⟩
  · have e : Hid ((xs.take 100).length = xs.length) := by show _ = _; simp; omega
    go_enter Try.func12, Try.ntmps12
    go_wp2
    go_ret
    exact ⟨by rw [e.out]; rfl, rfl⟩

set_option maxHeartbeats 400000 in
theorem lives_any (w : World) : Calls Try.prog 18 #[] w fun e w' => e = .returned (.bool true) ∧ Below w.heap.size w w' := by
  have h1 : putF [] 258 4 = [2, 1, 0, 0] := by decide
  have h2 : getF [2, 1, 0, 0] 0 2 = some 258 := by decide
  have c1 := put_any none 0 [] 258 4 w (Row.nil _ _) (by simp) (by omega)
  rw [h1] at c1
  have C1 := hid c1
  clear c1 h1
  have H2 := hid h2
  clear h2
  go_enter Try.func18, Try.ntmps18
  go_wp2_with fail
  refine C1.out.mono ?_
  rintro e w1 ⟨a1, c1, rfl, hown, hbel⟩
  go_wp2_with fail
  refine (get_any a1 c1 [2, 1, 0, 0] 0 2 w1 hown.row (by simp)).mono ?_
  rintro e w' ⟨rfl, rfl⟩
  rw [H2.out]
  unfold getV
  go_wp2_with fail
  refine (same_any a1 _ c1 _ [2, 1, 0, 0] [2, 1, 0, 0] _ (hown.row.alloc _) (row_new w1 [byteV 2, byteV 1, byteV 0, byteV 0] _ (by simp)) (by simp) (by simp)).mono ?_
  rintro e w2 ⟨rfl, hbel2⟩
  go_wp2_with fail
  refine (up_any 65 64 _).mono ?_
  rintro e w' ⟨rfl, rfl⟩
  rw [show upF 65 64 = 128 from by decide]
  go_wp2_with fail
  refine (down_any 65 64 _).mono ?_
  rintro e w' ⟨rfl, rfl⟩
  rw [show downF 65 64 = 64 from by decide]
  go_wp2_with fail
  refine (rotate_any 2147483648 1 _ (by omega) (by omega)).mono ?_
  rintro e w' ⟨rfl, rfl⟩
  rw [show rotF 2147483648 1 = 1 from by decide]
  go_wp2_with fail
  go_ret
  exact ⟨rfl, below_trans (hbel.alloc (by have := hbel.size; omega) _) hbel2 (by simp; have := hbel.size; omega)⟩

end Go.Proofs.Ytlbinnopaogleaa
