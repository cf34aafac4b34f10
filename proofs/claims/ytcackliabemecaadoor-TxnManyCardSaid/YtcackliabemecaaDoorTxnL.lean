/- Many patches, pure (for TxnMany). -/
import Derived.Test.YtcackliabemecaaDoorTxnK
namespace Go.Proofs.YtcackliabemecaaDoor
open Go.RowKit
set_option linter.unusedSimpArgs false
set_option linter.unusedVariables false
set_option maxRecDepth 100000

def manyP (b : List UInt8) (i : Nat) : List PtM := (List.range (min i 64)).map fun (k : Nat) => (⟨(k : Int), b⟩ : PtM)
theorem manyP_len (b : List UInt8) (i : Nat) : (manyP b i).length = min i 64 := by unfold manyP; rw [List.length_map, List.length_range]
theorem manyP_zero (b : List UInt8) : manyP b 0 = [] := rfl
theorem manyP_get {b : List UInt8} {i k : Nat} (h : k < (manyP b i).length) : (manyP b i)[k] = ⟨(k : Int), b⟩ := by
  simp [manyP]
theorem many_ok {b : List UInt8} {i : Nat} (hb : b.length ≤ 3) (hi : i ≤ 70) : okT mem0 (manyP b i) (i : Int) b.length = decide (i < 64) := by
  unfold okT
  rw [manyP_len, mem0_len]
  by_cases h : i < 64
  · rw [decide_eq_true h, decide_eq_true]; omega
  · rw [decide_eq_false h, decide_eq_false]; omega
theorem many_put {b : List UInt8} {i : Nat} (hb : b.length ≤ 3) (hi : i ≤ 70) : putT mem0 (manyP b i) (i : Int) b = manyP b (i + 1) := by
  unfold putT
  rw [many_ok hb hi]
  by_cases h : i < 64
  · rw [decide_eq_true h, if_pos rfl]
    unfold manyP
    rw [show min i 64 = i by omega, show min (i + 1) 64 = i + 1 by omega, List.range_succ, List.map_append]
    rfl
  · rw [decide_eq_false h, if_neg (by decide)]
    unfold manyP
    rw [show min i 64 = 64 by omega, show min (i + 1) 64 = 64 by omega]
theorem many_err {b : List UInt8} {i : Nat} (hb : b.length ≤ 3) (hi : i ≤ 70) : errT mem0 (manyP b i) (i : Int) b.length = if i < 64 then 0 else 1 := by
  unfold errT
  rw [many_ok hb hi]
  by_cases h : i < 64
  · rw [decide_eq_true h, if_pos rfl, if_pos h]
  · rw [decide_eq_false h, if_neg (by decide), if_neg h]
end Go.Proofs.YtcackliabemecaaDoor
