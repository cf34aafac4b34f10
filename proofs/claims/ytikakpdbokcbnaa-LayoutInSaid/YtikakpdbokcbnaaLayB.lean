/- The parts of a volume: the iterator. -/
import Derived.Test.YtikakpdbokcbnaaLayA
namespace Go.Proofs.Ytikakpdbokcbnaa
open Go.RowKit
set_option linter.unusedSimpArgs false
set_option linter.unusedVariables false
attribute [local go_sem] Oper.semAt_some

def rowL (kd T sz : Int) (c : Nat) : List PartT := (List.range c).map fun (j : Nat) => ⟨kd, (j : Int) + 1, T + (j : Int) * sz, sz⟩
theorem rowL_succ (kd T sz : Int) (c : Nat) : rowL kd T sz (c + 1) = rowL kd T sz c ++ [⟨kd, (c : Int) + 1, T + (c : Int) * sz, sz⟩] := by
  unfold rowL; rw [List.range_succ, List.map_append]; rfl
theorem rowL_len (kd T sz : Int) (c : Nat) : (rowL kd T sz c).length = c := by simp [rowL]
theorem rowL_prefix (kd T sz : Int) {a c : Nat} (h : a ≤ c) : rowL kd T sz a <+: rowL kd T sz c := by
  obtain ⟨d, rfl⟩ : ∃ d, c = a + d := ⟨c - a, by omega⟩
  unfold rowL
  rw [List.range_add, List.map_append]
  exact List.prefix_append _ _

set_option maxHeartbeats 2000000 in
theorem row_in (F : Fence) (hd : F.depth = none) (hF : F.fn 17) (hF2 : F.fn 18) (hro : F.round = none) (l B N A Y V : Nat) (Sp : List PartT → Prop) (J Jx : List PartT → World → Prop) (hJ : StabC B J) (hY : RoundsC F l B N Sp J Jx) (hA : B ≤ A) (hB : B ≤ Y) (hV : B ≤ V) (hne : Y ≠ A) (hneV : V ≠ A)
    (n : Nat) (pre : List PartT) (kd T sz : Int) (c : Nat) (W : World) (hAc : Blk W A 3 [.int .i64 T]) (hYc : Blk W Y 41 [.func (.yield l) #[] #[]])
    (hVc : Blk W V 34 [.func (.func 17) #[] #[.pointer (some ⟨A, 0, none⟩), .pointer (some ⟨Y, 0, none⟩)]]) (h0 : J pre W) (hlen : pre.length + c ≤ N) (hsp : ∀ j, j < c → Sp (pre ++ rowL kd T sz j ++ [⟨kd, (j : Int) + 1, T + (j : Int) * sz, sz⟩]))
    (hT : 0 ≤ T) (hTc : T + (c : Int) * sz ≤ 1000000000) (hs : 0 ≤ sz) (hs2 : sz ≤ 1000000000) (hc : c ≤ 1000) :
    CallsIn F n Try.prog 18 #[.int .i64 kd, .int .i64 c, .int .i64 sz, .pointer (some ⟨V, 0, none⟩)] W fun e W' =>
      (e = .returned (.bool true) ∧ J (pre ++ rowL kd T sz c) W' ∧ Blk W' A 3 [.int .i64 (T + (c : Int) * sz)] ∧ KeepBut B A W W') ∨ (e = .returned (.bool false) ∧ ∃ q, q <+: rowL kd T sz c ∧ Jx (pre ++ q) W') := by
  have hdd : ∀ k : Nat, (F.depth.isSome = true → 1 ≤ k) := fun k h => by rw [hd] at h; cases h
  have HJ := hid hJ; have HY := hid hY; have H0 := hid h0; have HAC := hid hAc; have HYC := hid hYc; have HVC := hid hVc
  have HSP := hid hsp
  clear hJ hY h0 hAc hYc hVc hsp
  refine callsIn_of_wp Try.func18 rfl hF2 ?_ hro
  simp only [Try.ntmps18, List.size_toArray, List.length_cons, List.length_nil, Nat.reduceAdd, Nat.reduceSub, Array.replicate_succ, Array.replicate_zero, List.push_toArray, List.append_toArray, List.nil_append, List.cons_append]
  gi_wp2
  gi_loopw [8, 10] (fun _ i wr => ∃ (j : Nat) (U : Int), j ≤ c ∧ i = .int .i64 j ∧ U = T + (j : Int) * sz ∧ J (pre ++ rowL kd T sz j) wr ∧ Blk wr A 3 [.int .i64 U] ∧ KeepBut B A W wr) (fun _ i _ => c - (intOf i).toNat)
  case atStart => exact ⟨0, T, by omega, rfl, by simp, by simpa [rowL] using H0.out, HAC.out, KeepBut.refl _ _ _⟩
  case round =>
    obtain ⟨j, U, hj, rfl, hU, hJw, hAw, hKw⟩ := hrel
    have HU := hid hU; have HJW := hid hJw; have HAW := hid hAw; have HKW := hid hKw
    by_cases hjc : j < c
    · have hm : (j : Int) * sz ≤ (c : Int) * sz := Int.mul_le_mul_of_nonneg_right (by omega) hs
      have hm0 : 0 ≤ (j : Int) * sz := Int.mul_nonneg (by omega) hs
      have hU0 : 0 ≤ U := by omega
      have hU2 : U ≤ 1000000000 := by omega
      have v0 : wr.cell? ⟨V, 0, none⟩ = some (.func (.func 17) #[] #[.pointer (some ⟨A, 0, none⟩), .pointer (some ⟨Y, 0, none⟩)]) := (hKw.blk hV hneV HVC.out).cell (i := 0) (by simp)
      have hv := visit_in F hd hF hro l B N A Y Sp J Jx HJ.out HY.out hA hB hne (n - 1) (pre ++ rowL kd T sz j) kd ((j : Int) + 1) U sz wr hAw (hKw.blk hB hne HYC.out) hJw (by rw [List.length_append, rowL_len]; omega) (by rw [hU]; exact HSP.out j hjc) hU0 hU2 hs hs2
      have hv' := hid hv
      have dj : decide ((j : Int) < (c : Int)) = true := decide_eq_true (by omega)
      have ij : (j : Int) < (c : Int) := by omega
      clear hU hJw hAw hKw hm hm0 hv
      gi_wp2_with ((try refine ⟨hdd _, ?_⟩); gi_at_call 17; refine hv'.out.mono ?_; clear hv'; rintro e W1 (⟨rfl, hJ1, hA1, hK1⟩ | ⟨rfl, hx1⟩); have HJ1 := hid hJ1; have HA1 := hid hA1; have HK1 := hid hK1; clear hJ1 hA1 hK1)
      · go_roundw
        case rel => exact ⟨j + 1, U + sz, by omega, by go_num, by rw [HU.out]; simp only [Int.natCast_add, Int.add_mul]; omega, by rw [rowL_succ, ← List.append_assoc, ← HU.out]; exact HJ1.out, HA1.out, HKW.out.trans HK1.out⟩
        case measure => simp [intOf]; omega
      · go_ret
        refine .inr ⟨rfl, rowL kd T sz (j + 1), rowL_prefix _ _ _ (by omega), ?_⟩
        rw [rowL_succ, ← List.append_assoc, ← HU.out]
        exact hx1
    · obtain rfl : j = c := by omega
      clear hU hJw hAw hKw
      gi_wp2
      go_ret
      exact .inl ⟨rfl, HJW.out, by rw [← HU.out]; exact HAW.out, HKW.out⟩

end Go.Proofs.Ytikakpdbokcbnaa
