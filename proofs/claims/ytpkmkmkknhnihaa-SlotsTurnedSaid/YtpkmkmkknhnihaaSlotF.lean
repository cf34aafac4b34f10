import Derived.Test.YtpkmkmkknhnihaaSlotE
namespace Go.Proofs.Ytpkmkmkknhnihaa
open Go.RowKit
set_option linter.unusedSimpArgs false
set_option linter.unusedVariables false

set_option maxHeartbeats 1000000 in
theorem readHeadRef_any (a : Option Addr) (c : Nat) (xs : List UInt8) (w : World) (ha : RowB w a c xs) :
    Calls Try.prog 19 #[.slice a xs.length c] w fun e w' => e = .returned (.tuple #[.int .i64 (rhN xs), .int .i64 (rhE xs)]) ∧ Below w.heap.size w w' := by
  have hl := rowB_len ha
  have hcap : xs.length ≤ c := ha.2.1
  have hck := rightRef_any a c xs w ha
  by_cases hc : chk xs = 0
  · have h64 := chk_len hc
    have hN := nH_le xs
    have hR : rhN xs = if rhGood xs then (nH xs : Int) else 0 := by unfold rhN; rw [if_pos hc]
    have hE : rhE xs = if rhGood xs then 0 else 2 := by unfold rhE; rw [if_pos hc]
    rw [hR, hE]
    rw [hc] at hck
    have HC := hid hck
    have hg := getRef_any a c xs 8 8 w ha hl (by omega)
    have hgs := good_some h64
    have hnH : nH xs = (getF xs 8 8).getD 0 := rfl
    simp only [getV] at hg
    rw [← hnH] at hg
    generalize hok : (getF xs 8 8).isSome = ok at *
    have HG := hid hg
    clear hc hR hE hck hg hnH hok
    cases ok with
    | false =>
      have hG : rhGood xs = false := by
        cases h : rhGood xs with
        | true => exact absurd (hgs h) (by simp)
        | false => rfl
      rw [hG]
      have hph := fun w1 => putHeadRef_any (nH xs) w1 (by omega)
      have HPH := hid hph
      clear hph hG hgs
      go_enter Try.func19, Try.ntmps19
      go_wp2_with fail
      refine HC.out.mono ?_
      rintro e w1 ⟨rfl, rfl⟩
      go_wp2_with fail
      refine HG.out.mono ?_
      rintro e w1 ⟨rfl, rfl⟩
      go_wp2_with fail
      refine (HPH.out _).mono ?_
      rintro e w4 ⟨a4, c4, rfl, o4, b4⟩
      generalize (if btw (nH xs) 1152921504606846976 = true then (0 : Int) else 1) = er at *
      go_wp2_with fail
      go_ret2
      exact ⟨rfl, b4⟩
    | true =>
      clear hgs
      by_cases hbt : btw (nH xs) 1152921504606846976 = true
      · have hq := headL_length hbt
        have hgd : rhGood xs = decide (xs.take 64 = headL (nH xs)) := by unfold rhGood; rw [hbt]; rfl
        rw [hgd]
        have hph := fun w1 => putHeadRef_any (nH xs) w1 (by omega)
        simp only [hq, hbt, if_true] at hph
        have h64l : (xs.take 64).length = 64 := by simp; omega
        have hsm := fun (a2 : Option Addr) (c2 : Nat) (w4 : World) (h1 : RowB w4 a c xs) (h2 : RowB w4 a2 c2 (headL (nH xs))) => same_any a2 a c2 c (headL (nH xs)) (xs.take 64) w4 h2 (rowB_take h1 64) (by omega) (by omega)
        simp only [hq, h64l] at hsm
        have HPH := hid hph; have HSM := hid hsm
        clear hph hsm hgd hq hbt h64l
        by_cases heq : headL (nH xs) = xs.take 64
        · rw [decide_eq_true heq.symm]
          rw [decide_eq_true heq] at HSM
          have HEQ := hid heq; clear heq
          go_enter Try.func19, Try.ntmps19
          go_wp2_with fail
          refine HC.out.mono ?_
          rintro e w1 ⟨rfl, rfl⟩
          go_wp2_with fail
          refine HG.out.mono ?_
          rintro e w1 ⟨rfl, rfl⟩
          go_wp2_with fail
          refine (HPH.out _).mono ?_
          rintro e w4 ⟨a4, c4, rfl, o4, b4⟩
          have r4 := ha.mono b4
          go_wp2_with fail
          refine (HSM.out a4 c4 w4 r4 o4.row).mono ?_
          rintro e w5 ⟨rfl, b5⟩
          go_wp2_with fail
          go_ret2
          exact ⟨rfl, below_trans b4 b5 b4.size⟩
        · rw [decide_eq_false (fun h => heq h.symm)]
          rw [decide_eq_false heq] at HSM
          have HEQ := hid heq; clear heq
          go_enter Try.func19, Try.ntmps19
          go_wp2_with fail
          refine HC.out.mono ?_
          rintro e w1 ⟨rfl, rfl⟩
          go_wp2_with fail
          refine HG.out.mono ?_
          rintro e w1 ⟨rfl, rfl⟩
          go_wp2_with fail
          refine (HPH.out _).mono ?_
          rintro e w4 ⟨a4, c4, rfl, o4, b4⟩
          have r4 := ha.mono b4
          go_wp2_with fail
          refine (HSM.out a4 c4 w4 r4 o4.row).mono ?_
          rintro e w5 ⟨rfl, b5⟩
          go_wp2_with fail
          go_ret2
          exact ⟨rfl, below_trans b4 b5 b4.size⟩
      · have hbt' : btw (nH xs) 1152921504606846976 = false := by simpa using hbt
        have hG : rhGood xs = false := by unfold rhGood; rw [hbt']; rfl
        rw [hG]
        have hph := fun w1 => putHeadRef_any (nH xs) w1 (by omega)
        simp only [hbt'] at hph
        have HPH := hid hph
        clear hph hG hbt hbt'
        go_enter Try.func19, Try.ntmps19
        go_wp2_with fail
        refine HC.out.mono ?_
        rintro e w1 ⟨rfl, rfl⟩
        go_wp2_with fail
        refine HG.out.mono ?_
        rintro e w1 ⟨rfl, rfl⟩
        go_wp2_with fail
        refine (HPH.out _).mono ?_
        rintro e w4 ⟨a4, c4, rfl, o4, b4⟩
        go_wp2_with fail
        go_ret2
        exact ⟨rfl, b4⟩
  · have hR : rhN xs = 0 := by unfold rhN; rw [if_neg hc]
    have hE : rhE xs = chk xs := by unfold rhE; rw [if_neg hc]
    rw [hR, hE]
    have HC := hid hck
    clear hR hE hck
    generalize chk xs = q at *
    go_enter Try.func19, Try.ntmps19
    go_wp2_with fail
    refine HC.out.mono ?_
    rintro e w1 ⟨rfl, rfl⟩
    go_wp2_with fail
    go_ret2
    exact ⟨rfl, Below.refl _ _⟩

set_option maxHeartbeats 2000000 in
theorem SlotsHeads_walk (w : World) (n : Int) (hn : (Lit.int .i64 n).wf = true) (a : Option Addr) (c : Nat) (xs : List UInt8) (ha : RowB w a c xs) :
    Calls Try.prog 5 #[.int .i64 n, .slice a xs.length c] w fun e w' => e = .returned (.bool true) ∧ Below w.heap.size w w' := by
  have hl := rowB_len ha
  have hnb := (i64_bd hn).2
  clear hn
  have HF := hid (few13_any a c xs w ha hl)
  have ry := rowB_take ha 100
  clear ha hl
  generalize xs.take 100 = ys at *
  have HP := hid (fun w1 => putHead_any n w1 hnb)
  have HR := hid (fun w1 => putHeadRef_any n w1 hnb)
  generalize (if btw n 1152921504606846976 = true then (0 : Int) else 1) = er at *
  have hyl := rowB_len ry
  go_enter Try.func5, Try.ntmps5
  go_wp2_with fail
  refine HF.out.mono ?_
  rintro e w1 ⟨rfl, rfl⟩
  go_wp2_with fail
  refine (HP.out w).mono ?_
  rintro e w1 ⟨a1, c1, rfl, o1, b1⟩
  go_wp2_with fail
  refine (HR.out w1).mono ?_
  rintro e w2 ⟨a2, c2, rfl, o2, b2⟩
  have B2 := below_trans b1 b2 b1.size
  have hhl := rowB_len o1.row
  go_wp2_with fail
  refine (same_any a1 a2 c1 c2 _ _ w2 (o1.row.mono b2) o2.row hhl hhl).mono ?_
  rintro e w3 ⟨rfl, b3⟩
  have B3 := below_trans B2 b3 B2.size
  rw [decide_eq_true rfl]
  clear o1 o2 b1 b2 b3 B2 hhl
  go_wp2_with fail
  refine (readHead_any a c ys w3 (ry.mono B3)).mono ?_
  rintro e w4 ⟨rfl, b4⟩
  have B4 := below_trans B3 b4 B3.size
  go_wp2_with fail
  refine (readHeadRef_any a c ys w4 (ry.mono B4)).mono ?_
  rintro e w5 ⟨rfl, b5⟩
  have B5 := below_trans B4 b5 B4.size
  clear B3 B4 b4 b5
  generalize rhN ys = p1 at *
  generalize rhE ys = p2 at *
  go_wp2_with fail
  refine (sealed_any a c ys w5 (ry.mono B5)).mono ?_
  rintro e w6 ⟨a6, c6, rfl, o6, b6⟩
  have B6 := below_trans B5 b6 B5.size
  have r6 := o6.row
  clear o6 b6 B5
  go_wp2_with fail
  refine (readHead_any a6 c6 _ w6 r6).mono ?_
  rintro e w7 ⟨rfl, b7⟩
  have B7 := below_trans B6 b7 B6.size
  clear r6 b7 B6
  go_wp2_with fail
  refine (sealed_any a c ys w7 (ry.mono B7)).mono ?_
  rintro e w8 ⟨a8, c8, rfl, o8, b8⟩
  have B8 := below_trans B7 b8 B7.size
  have r8 := o8.row
  clear o8 b8 B7
  go_wp2_with fail
  refine (readHeadRef_any a8 c8 _ w8 r8).mono ?_
  rintro e w9 ⟨rfl, b9⟩
  have B9 := below_trans B8 b9 B8.size
  clear r8 b9 B8
  generalize rhN (sealF _) = p3 at *
  generalize rhE (sealF _) = p4 at *
  go_wp2_with fail
  refine (lives13_any w9).mono ?_
  rintro e w10 ⟨rfl, b10⟩
  go_wp2_with fail
  go_ret
  exact ⟨rfl, below_trans B9 b10 B9.size⟩

end Go.Proofs.Ytpkmkmkknhnihaa
