/- wire.Read. -/
import Derived.Test.YtanediaaidfcaaaWirPd
namespace Go.Proofs.Ytanediaaidfcaaa
open Go.RowKit
set_option linter.unusedSimpArgs false
set_option linter.unusedVariables false

def okSumW (xs : List UInt8) : Bool := decide (getF xs ((xs.length - 4 : Nat) : Int) 4 = some (crcF (xs.take (xs.length - 4))))
def rwP (xs : List UInt8) : PkM := if xs.length < 4 then P0z else if okSumW xs = true then dP (xs.take (xs.length - 4)) else P0z
def rwE (xs : List UInt8) : Int := if xs.length < 4 then 3 else if okSumW xs = true then dE (xs.take (xs.length - 4)) else 4
theorem getF_some4 {xs : List UInt8} {m : Nat} (h : xs.length = m + 4) : ∃ v : Nat, getF xs (m : Int) 4 = some v ∧ v ≤ 9223372036854775807 := by
  have h1 : ((xs.drop m).take 4).length = 4 := by rw [List.length_take, List.length_drop]; omega
  have h2 := ofLE_lt ((xs.drop m).take 4)
  rw [h1] at h2
  refine ⟨ofLE ((xs.drop m).take 4), ?_, by omega⟩
  unfold getF
  rw [if_pos ⟨rfl, by omega, by omega⟩]
  have e1 : ((m : Int)).toNat = m := by simp
  have e2 : ((4 : Int)).toNat = 4 := rfl
  rw [e1, e2, if_pos (by omega)]

set_option maxRecDepth 100000 in
set_option maxHeartbeats 2000000 in
theorem wireRead_any {w : World} {a : Option Addr} {c : Nat} {xs : List UInt8} (r0 : RowB w a c xs) (hl : xs.length ≤ 1000000) :
    Calls Try.prog 14 #[.slice a xs.length c] w fun e w' => ∃ na nc, e = .returned (.tuple #[.agg (pkC (rwP xs) na (rwP xs).N.length nc).toArray, .int .i64 (rwE xs)]) ∧ PkO w w' (rwP xs) na nc := by
  have t1 : True := trivial
  have t2 : True := trivial
  have hcap : xs.length ≤ c := r0.2.1
  have hc9 : c ≤ 9223372036854775807 := by have := r0.2.2.1; unfold maxLen at this; omega
  by_cases h4 : xs.length < 4
  · have e1 : rwP xs = P0z := by unfold rwP; rw [if_pos h4]
    have e2 : rwE xs = 3 := by unfold rwE; rw [if_pos h4]
    rw [e1, e2]
    obtain ⟨n, hn⟩ : ∃ n, n = xs.length := ⟨_, rfl⟩
    rw [← hn] at h4 ⊢
    have ez : IntKind.i64.wrap ((n : Int) - 4) = (n : Int) - 4 := IntWalk.i64_in _ (by omega)
    have d1 : decide ((n : Int) - 4 < 0) = true := decide_eq_true (by omega)
    clear e1 e2 r0 hn hcap hl hc9
    go_enter Try.func14, Try.ntmps14
    go_wp2_with (first
      | (have _t := t1; (with_reducible refine wpl_allocPk rfl rfl ?_); clear t1; intro w1 k1 b1 s1; have K1 := hid k1; have B1 := hid b1; clear k1 b1 s1)
      | (with_reducible refine wpl_buildPk rfl rfl ?_)
      | ((with_reducible refine wpl_storePk rfl _ _ rfl w.heap.size rfl P0z none 0 0 rfl K1.out rfl ?_); intro w4 k4 g4; have K4 := hid k4; have G4 := hid g4; clear k4 g4))
    refine bodyPost_ret (results_cell2 rfl rfl K4.out Try.underlying35 rfl (by rw [infoPk]; rfl)) rfl ?_
    exact ⟨none, 0, rfl, Own.nil _ _ _ _, below_grownS B1.out G4.out (Nat.le_refl _) B1.out.size⟩
  · obtain ⟨m, hm⟩ : ∃ m, xs.length = m + 4 := ⟨xs.length - 4, by omega⟩
    have hm2 : xs.length - 4 = m := by omega
    obtain ⟨v, hv, hv9⟩ := getF_some4 hm
    have hG := fun (W : World) (r : RowB W a c xs) => get_any a c xs (m : Int) 4 W r (by omega)
    rw [hv] at hG
    simp only [getV, Option.getD_some, Option.isSome_some] at hG
    have hSum := fun (W : World) (r : RowB W a c (xs.take m)) => sum_any a c (xs.take m) W r
    have hD := fun (W : World) (r : RowB W a c (xs.take m)) => decode_any r (by rw [List.length_take]; omega)
    have hyl : (xs.take m).length = m := by rw [List.length_take]; omega
    rw [hyl] at hSum hD
    have hcl := crcF_lt (xs.take m)
    have hs : okSumW xs = decide (v = crcF (xs.take m)) := by unfold okSumW; rw [hm2, hv]; simp
    have e1 : rwP xs = if decide (v = crcF (xs.take m)) = true then dP (xs.take m) else P0z := by unfold rwP; rw [if_neg h4, hs, hm2]
    have e2 : rwE xs = if decide (v = crcF (xs.take m)) = true then dE (xs.take m) else 4 := by unfold rwE; rw [if_neg h4, hs, hm2]
    have HR := hid (fun (W : World) (b : Below w.heap.size w W) => Row.mono r0 b)
    have HR2 : Hid (∀ W : World, Below w.heap.size w W → RowB W a c (xs.take m)) := hid (fun (W : World) (b : Below w.heap.size w W) => Row.mono (rowB_take r0 m) b)
    have HG := hid hG; have HS := hid hSum; have HD := hid hD
    rw [e1, e2]
    generalize crcF (xs.take m) = z at *
    generalize dP (xs.take m) = Q at *
    generalize dE (xs.take m) = E at *
    rw [hm]
    rw [hm] at hcap HG
    have ez0 : IntKind.i64.wrap ((m : Int) + 4 - 4) = (m : Int) := by rw [show (m : Int) + 4 - 4 = m by omega]; exact IntWalk.i64_in _ (by omega)
    have ez1 : IntKind.i64.wrap (((m + 4 : Nat) : Int) - 4) = (m : Int) := by rw [show ((m + 4 : Nat) : Int) - 4 = m by omega]; exact IntWalk.i64_in _ (by omega)
    have ez : IntKind.i64.wrap (z : Int) = z := IntWalk.i64_in _ (by omega)
    have d1 : decide ((m : Int) < 0) = false := decide_eq_false (by omega)
    have i0 : 0 ≤ (m : Int) := by omega
    have i1 : (m : Int) ≤ (c : Int) := by omega
    have HMM := hid hm
    clear hG hSum hD hs e1 e2 r0 hm hm2 hv hyl h4
    by_cases hvz : v = z
    · have dv : decide (v = z) = true := decide_eq_true hvz
      simp only [dv, if_true]
      subst hvz
      have dn : ((v : Int) != (v : Int)) = false := by simp
      clear dv
      go_enter Try.func14, Try.ntmps14
      go_wp2_with (have _t := t1; (with_reducible refine wpl_allocPk rfl rfl ?_); clear t1; intro w1 k1 b1 s1; have K1 := hid k1; have B1 := hid b1; clear k1 b1 s1)
      refine (HG.out w1 (HR.out _ B1.out)).mono ?_
      rintro e wx ⟨rfl, rfl⟩
      go_wp2_with (go_at_call 22; refine (HS.out w1 (HR2.out _ B1.out)).mono ?_; rintro e w2 ⟨rfl, b2⟩; have B2 := hid (kept_trans B1.out b2); have K2 := hid (K1.out.mono b2); clear b2)
      refine (HD.out w2 (HR2.out _ B2.out)).mono ?_
      rintro e w3 ⟨na, nc, rfl, ho3, b3⟩
      have B3 := hid (kept_trans B2.out b3); have K3 := hid (K2.out.mono b3); have O3 := hid (Own.low ho3 B2.out.size)
      clear ho3 b3
      go_wp2_with ((with_reducible refine wpl_storePk rfl _ _ rfl w.heap.size rfl Q na Q.N.length nc rfl K3.out rfl ?_); intro w4 k4 g4; have K4 := hid k4; have G4 := hid g4; clear k4 g4)
      refine bodyPost_ret (results_cell2 rfl rfl K4.out Try.underlying35 rfl (by rw [infoPk]; rfl)) rfl ?_
      exact ⟨na, nc, rfl, own_setK O3.out K3.out G4.out, below_grownS B3.out G4.out (Nat.le_refl _) B3.out.size⟩
    · have dv : decide (v = z) = false := decide_eq_false hvz
      simp only [dv, Bool.false_eq_true, if_false]
      have dn : ((v : Int) != (z : Int)) = true := by simp; omega
      clear dv hvz
      go_enter Try.func14, Try.ntmps14
      go_wp2_with (have _t := t1; (with_reducible refine wpl_allocPk rfl rfl ?_); clear t1; intro w1 k1 b1 s1; have K1 := hid k1; have B1 := hid b1; clear k1 b1 s1)
      refine (HG.out w1 (HR.out _ B1.out)).mono ?_
      rintro e wx ⟨rfl, rfl⟩
      go_wp2_with (first
        | (go_at_call 22; refine (HS.out w1 (HR2.out _ B1.out)).mono ?_; rintro e w2 ⟨rfl, b2⟩; have B2 := hid (kept_trans B1.out b2); have K2 := hid (K1.out.mono b2); clear b2)
        | (with_reducible refine wpl_buildPk rfl rfl ?_)
        | ((with_reducible refine wpl_storePk rfl _ _ rfl w.heap.size rfl P0z none 0 0 rfl K2.out rfl ?_); intro w4 k4 g4; have K4 := hid k4; have G4 := hid g4; clear k4 g4))
      refine bodyPost_ret (results_cell2 rfl rfl K4.out Try.underlying35 rfl (by rw [infoPk]; rfl)) rfl ?_
      exact ⟨none, 0, rfl, Own.nil _ _ _ _, below_grownS B2.out G4.out (Nat.le_refl _) B2.out.size⟩
end Go.Proofs.Ytanediaaidfcaaa
