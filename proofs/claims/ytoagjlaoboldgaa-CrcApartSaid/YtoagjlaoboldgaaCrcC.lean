import Derived.Test.YtoagjlaoboldgaaCrcB
import Derived.Lib.SlBytesConst
namespace Go.Proofs.Ytoagjlaoboldgaa
open Go.RowKit
set_option linter.unusedSimpArgs false
set_option linter.unusedVariables false

theorem len60 (xs : List UInt8) : (xs.take 60).length ≤ 60 := List.length_take_le _ _

theorem row_newf (w : World) (L : List Value) (e : TypeId) (fr : Nat × Nat) (hl : L.length ≤ 9223372036854775807) : Row (w.alloc (.cells L.toArray e fr)) 1 (some ⟨w.heap.size, 0, none⟩) L.length L.length L := by
  refine ⟨by simp, Nat.le_refl _, by unfold maxLen; omega, fun h => by (cases h), fun _ => ⟨w.heap.size, 0, rfl, by simp, fun j u hu => ?_⟩⟩
  have hh := heap_alloc_new w (.cells L.toArray e fr)
  unfold World.cell?
  rw [show (⟨w.heap.size, 0 + j, none⟩ : Addr).block = w.heap.size from rfl, hh]
  simpa using hu

set_option maxHeartbeats 400000 in
theorem few_any (a : Option Addr) (c : Nat) (xs : List UInt8) (w : World) (ha : RowB w a c xs) :
    Calls Try.prog 7 #[.slice a xs.length c] w fun e w' => e = .returned (.slice a (xs.take 60).length c) ∧ w = w' := by
  have hl := rowB_len ha
  have hc : xs.length ≤ c := ha.2.1
  by_cases h : 60 < xs.length
  · have e : Hid ((xs.take 60).length = 60) := by show _ = _; simp; omega
    go_enter Try.func7, Try.ntmps7
    go_wp2
    go_ret
    exact ⟨by rw [e.out]; rfl, rfl⟩
  · have e : Hid ((xs.take 60).length = xs.length) := by show _ = _; simp; omega
    go_enter Try.func7, Try.ntmps7
    go_wp2
    go_ret
    exact ⟨by rw [e.out]; rfl, rfl⟩

set_option maxHeartbeats 400000 in
theorem lives_any (w : World) : Calls Try.prog 10 #[] w fun e w' => e = .returned (.bool true) ∧ Below w.heap.size w w' := by
  have kc := fun (w : World) (C : Array Value) (n c : Nat) => Lib.run_convert_bytes_const (P := Try.prog) w 22 5 C n c Try.underlying22 Try.underlying5
  have h1 : crcF [49, 50, 51, 52, 53, 54, 55, 56, 57] = 3421780262 := by decide +kernel
  have h2 : crcF [] = 0 := by decide +kernel
  have H1 := hid h1; have H2 := hid h2; clear h1 h2
  go_enter Try.func10, Try.ntmps10
  go_wp2_with fail
  refine (sum_any _ _ [49, 50, 51, 52, 53, 54, 55, 56, 57] _ (row_newf w [byteV 49, byteV 50, byteV 51, byteV 52, byteV 53, byteV 54, byteV 55, byteV 56, byteV 57] _ _ (by simp))).mono ?_
  rintro e w1 ⟨rfl, b1⟩
  rw [H1.out]
  clear kc
  go_wp2_with fail
  refine (sum_any none 0 [] _ (Row.nil _ _)).mono ?_
  rintro e w2 ⟨rfl, b2⟩
  rw [H2.out]
  go_wp2_with fail
  go_ret
  exact ⟨rfl, kept_trans (kept_trans ((Below.refl _ w).alloc (Nat.le_refl _) _) b1) b2⟩

set_option maxHeartbeats 400000 in
theorem CrcSums_walk (w : World) (a : Option Addr) (c : Nat) (xs : List UInt8) (r : RowB w a c xs) :
    Calls Try.prog 3 #[.slice a xs.length c] w fun e w' => e = .returned (.bool true) ∧ Below w.heap.size w w' := by
  have r2 := rowB_take r 60
  have hq := crcF_lt (xs.take 60)
  go_enter Try.func3, Try.ntmps3
  go_wp2_with fail
  refine (few_any a c xs w r).mono ?_
  rintro e w' ⟨rfl, rfl⟩
  generalize xs.take 60 = ys at *
  go_wp2_with fail
  refine (sum_any a c ys _ r2).mono ?_
  rintro e w1 ⟨rfl, b1⟩
  go_wp2_with fail
  refine (sumRef_any a c ys _ (r2.mono b1)).mono ?_
  rintro e w' ⟨rfl, rfl⟩
  have hb : ((crcF ys : Int) == (crcF ys : Int)) = true := by simp
  go_wp2_with fail
  refine (lives_any _).mono ?_
  rintro e w4 ⟨rfl, b4⟩
  go_wp2_with fail
  go_ret
  exact ⟨rfl, kept_trans b1 b4⟩

end Go.Proofs.Ytoagjlaoboldgaa
