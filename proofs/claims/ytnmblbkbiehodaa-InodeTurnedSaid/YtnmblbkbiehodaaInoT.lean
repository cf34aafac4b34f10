import Derived.Test.YtnmblbkbiehodaaInoS
namespace Go.Proofs.Ytnmblbkbiehodaa
open Go.RowKit Go.WideShapes
set_option linter.unusedSimpArgs false
set_option linter.unusedVariables false

def zer64 : List UInt8 := List.replicate 64 0
def sumOk (ys : List UInt8) : Bool := decide (ofLE (slI ys 60 4) = crcF (ys.take 60))
def rdGood (ys : List UInt8) : Bool := mayI (fieldsI ys) && decide (putL (fieldsI ys) = ys)
def rdI (xs : List UInt8) : InoT := if xs.length < 64 then ino0 else if xs.take 64 = zer64 then ino0 else if sumOk (xs.take 64) = false then ino0 else if rdGood (xs.take 64) = true then fieldsI (xs.take 64) else ino0
def rdE (xs : List UInt8) : Int := if xs.length < 64 then 3 else if xs.take 64 = zer64 then 0 else if sumOk (xs.take 64) = false then 4 else if rdGood (xs.take 64) = true then 0 else 2
theorem put0 : putL ino0 = zer64 := by
  have hm : mayI ino0 = true := by decide +kernel
  exact putL_zero hm rfl
theorem putE0 : putE ino0 = 0 := putE_ok (by decide +kernel)
theorem rd_short {xs : List UInt8} (h : xs.length < 64) : rdI xs = ino0 ∧ rdE xs = 3 := by unfold rdI rdE; rw [if_pos h, if_pos h]; exact ⟨rfl, rfl⟩
theorem rd_zero {xs : List UInt8} (h : ¬ xs.length < 64) (hz : xs.take 64 = zer64) : rdI xs = ino0 ∧ rdE xs = 0 := by unfold rdI rdE; rw [if_neg h, if_neg h, if_pos hz, if_pos hz]; exact ⟨rfl, rfl⟩
theorem rd_sum {xs : List UInt8} (h : ¬ xs.length < 64) (hz : xs.take 64 ≠ zer64) (hs : sumOk (xs.take 64) = false) : rdI xs = ino0 ∧ rdE xs = 4 := by unfold rdI rdE; rw [if_neg h, if_neg h, if_neg hz, if_neg hz, if_pos hs, if_pos hs]; exact ⟨rfl, rfl⟩
theorem rd_bad {xs : List UInt8} (h : ¬ xs.length < 64) (hz : xs.take 64 ≠ zer64) (hs : sumOk (xs.take 64) = true) (hg : rdGood (xs.take 64) = false) : rdI xs = ino0 ∧ rdE xs = 2 := by unfold rdI rdE; rw [if_neg h, if_neg h, if_neg hz, if_neg hz, hs, hg]; exact ⟨rfl, rfl⟩
theorem rd_good {xs : List UInt8} (h : ¬ xs.length < 64) (hz : xs.take 64 ≠ zer64) (hs : sumOk (xs.take 64) = true) (hg : rdGood (xs.take 64) = true) : rdI xs = fieldsI (xs.take 64) ∧ rdE xs = 0 := by unfold rdI rdE; rw [if_neg h, if_neg h, if_neg hz, if_neg hz, hs, hg]; exact ⟨rfl, rfl⟩
theorem allocI (w : World) : Blk (w.alloc (.cells #[.int .i64 0, .int .i64 0, .int .i64 0, .int .i64 0, .int .i64 0, .int .i64 0, .int .i64 0, .int .i64 0, .int .i64 0, .int .i64 0, .int .i64 0, .int .i64 0, .int .i64 0, .int .i64 0, .int .i64 0] 25)) w.heap.size 25 (inoC ino0) := heap_alloc_new w _
theorem belowA (w : World) (o : Obj) : Below w.heap.size w (w.alloc o) := (Below.refl _ w).alloc (Nat.le_refl _) _

set_option maxHeartbeats 4000000 in
set_option maxRecDepth 100000 in
theorem readIno_any (a : Option Addr) (c : Nat) (xs : List UInt8) (w : World) (ha : RowB w a c xs) :
    Calls Try.prog 14 #[.slice a xs.length c] w fun e w' => e = .returned (.tuple #[inoV (rdI xs), .int .i64 (rdE xs)]) ∧ Below w.heap.size w w' := by
  have hl := rowB_len ha
  have hcap : xs.length ≤ c := ha.2.1
  have HZC := hid (show (#[.int .i64 0, .int .i64 0, .int .i64 0, .int .i64 0, .int .i64 0, .int .i64 0, .int .i64 0, .int .i64 0, .int .i64 0, .int .i64 0, .int .i64 0, .int .i64 0, .int .i64 0, .int .i64 0, .int .i64 0] : Array Value) = (inoC ino0).toArray from rfl)
  have HZ := hid (allocI w)
  have HB := hid (belowA w (.cells #[.int .i64 0, .int .i64 0, .int .i64 0, .int .i64 0, .int .i64 0, .int .i64 0, .int .i64 0, .int .i64 0, .int .i64 0, .int .i64 0, .int .i64 0, .int .i64 0, .int .i64 0, .int .i64 0, .int .i64 0] 25))
  by_cases h64 : xs.length < 64
  · obtain ⟨e1, e2⟩ := rd_short h64
    rw [e1, e2]
    clear e1 e2
    go_enter Try.func14, Try.ntmps14
    go_wp2_with (((with_reducible refine wpl_storeI rfl _ _ rfl w.heap.size rfl ino0 rfl HZC.out HZ.out ?_); intro w9 k9 g9; have K9 := hid k9; have G9 := hid g9; clear k9 g9))
    refine bodyPost_ret (results_cell2 rfl rfl K9.out Try.underlying25 rfl (by rw [infoIno]; rfl)) rfl ?_
    exact ⟨rfl, below_grownS HB.out G9.out (Nat.le_refl _) HB.out.size⟩
  have r0 := rowB_take ha 64
  have hyl : (xs.take 64).length = 64 := by simp; omega
  have hc64 : 64 ≤ c := by omega
  have i64x : ¬ ((xs.length : Int) < 64) := by omega
  have EQ := fun a2 c2 zs w1 r1 r2 => equalB_any a a2 c c2 (xs.take 64) zs w1 r1 r2
  rw [hyl] at EQ
  have HR := hid (fun w1 (hb : Below w.heap.size w w1) => Row.mono r0 hb)
  have P0 := fun w1 => putIno_any ino0 w1
  unfold PutA at P0
  rw [put0, putE0, show zer64.length = 64 from rfl] at P0
  have EZ := fun a2 c2 w1 r1 r2 => EQ a2 c2 zer64 w1 r1 r2
  rw [show zer64.length = 64 from rfl] at EZ
  have P0 := hid P0
  have dn : decide ((xs.length : Int) < 64) = false := decide_eq_false i64x
  by_cases hz : xs.take 64 = zer64
  · obtain ⟨e1, e2⟩ := rd_zero h64 hz
    rw [e1, e2]
    simp only [decide_eq_true hz] at EZ
    have EZ := hid EZ
    generalize xs.take 64 = ys at *
    clear e1 e2 hz EQ ha r0 hyl
    go_enter Try.func14, Try.ntmps14
    go_wp2_with fail
    refine (P0.out _).mono ?_
    rintro e w4 ⟨a4, c4, rfl, o4, b4⟩
    have HB4 := hid (kept_trans HB.out b4)
    have HZ4 := hid (HZ.out.mono b4)
    have HE := hid (EZ.out a4 c4 w4 (HR.out _ HB4.out) o4.row)
    clear b4 o4
    go_wp2_with fail
    refine HE.out.mono ?_
    rintro e w5 ⟨rfl, b5⟩
    have HB5 := hid (kept_trans HB4.out b5)
    have HZ5 := hid (HZ4.out.mono b5)
    clear b5
    go_wp2_with (((with_reducible refine wpl_storeI rfl _ _ rfl w.heap.size rfl ino0 rfl HZC.out HZ5.out ?_); intro w9 k9 g9; have K9 := hid k9; have G9 := hid g9; clear k9 g9))
    refine bodyPost_ret (results_cell2 rfl rfl K9.out Try.underlying25 rfl (by rw [infoIno]; rfl)) rfl ?_
    exact ⟨rfl, below_grownS HB5.out G9.out (Nat.le_refl _) HB5.out.size⟩
  simp only [decide_eq_false hz] at EZ
  have EZ := hid EZ
  have hr1 := @rd_sum xs h64 hz
  have hr2 := @rd_bad xs h64 hz
  have hr3 := @rd_good xs h64 hz
  have hr60 := rowB_take r0 60
  have hl60 : ((xs.take 64).take 60).length = 60 := by simp; omega
  have HR60 := hid (fun w1 (hb : Below w.heap.size w w1) => Row.mono hr60 hb)
  have HSum := fun w1 (r1 : RowB w1 a c ((xs.take 64).take 60)) => sum_any a c ((xs.take 64).take 60) w1 r1
  rw [hl60] at HSum
  have hG := fun w1 r1 => get_any a c (xs.take 64) 60 4 w1 r1 (by omega)
  have g4 := getF_4 (xs := xs.take 64) (a := 60) (by omega)
  rw [show ((60 : Nat) : Int) = 60 from rfl] at g4
  rw [g4, hyl] at hG
  simp only [getV, Option.getD_some, Option.isSome_some] at hG
  have hs : sumOk (xs.take 64) = decide (ofLE (slI (xs.take 64) 60 4) = crcF ((xs.take 64).take 60)) := rfl
  have HF := fun w1 r1 => fieldsIno_any a c (xs.take 64) w1 r1 (by omega)
  rw [hyl] at HF
  have hgd : rdGood (xs.take 64) = (mayI (fieldsI (xs.take 64)) && decide (putL (fieldsI (xs.take 64)) = xs.take 64)) := rfl
  have hP := fun w1 => putIno_any (fieldsI (xs.take 64)) w1
  unfold PutA at hP
  have EP := fun a2 c2 w1 (r1 : RowB w1 a2 c2 (putL (fieldsI (xs.take 64)))) r2 => equalB_any a2 a c2 c (putL (fieldsI (xs.take 64))) (xs.take 64) w1 r1 r2
  rw [hyl] at EP
  have hcl := crcF_lt ((xs.take 64).take 60)
  have hPE : putE (fieldsI (xs.take 64)) = if mayI (fieldsI (xs.take 64)) then 0 else 1 := rfl
  have hPL : (putL (fieldsI (xs.take 64))).length ≤ 64 := by unfold putL; split; split; simp; rw [putI_len]; omega; simp
  rw [hs] at hr1 hr2 hr3
  rw [hgd] at hr2 hr3
  generalize crcF ((xs.take 64).take 60) = z at *
  generalize ofLE (slI (xs.take 64) 60 4) = u at *
  generalize putL (fieldsI (xs.take 64)) = P at *
  generalize putE (fieldsI (xs.take 64)) = E at *
  generalize mayI (fieldsI (xs.take 64)) = M at *
  generalize fieldsI (xs.take 64) = i at *
  generalize (xs.take 64).take 60 = y60 at *
  generalize xs.take 64 = ys at *
  have ez : IntKind.i64.wrap (z : Int) = z := IntWalk.i64_in _ (by omega)
  have HSum := hid HSum; have hG := hid hG; have HF := hid HF; have hP := hid hP; have EP := hid EP
  clear hs hgd g4 r0 hr60 hl60 hyl ha EQ
  by_cases hu : u = z
  · rw [decide_eq_true hu] at hr1 hr2 hr3
    subst hu
    have hne : ((u : Int) != (u : Int)) = false := by simp
    cases hM : M
    · rw [hM] at hr2 hPE
      obtain ⟨e1, e2⟩ := hr2 rfl rfl
      rw [e1, e2]
      rw [show E = 1 from hPE] at hP
      clear e1 e2 hr1 hr2 hr3 hM hPE EP
      go_enter Try.func14, Try.ntmps14
      go_wp2_with fail
      refine (P0.out _).mono ?_
      rintro e w4 ⟨a4, c4, rfl, o4, b4⟩
      have HB4 := hid (kept_trans HB.out b4)
      have HZ4 := hid (HZ.out.mono b4)
      have HE := hid (EZ.out a4 c4 w4 (HR.out _ HB4.out) o4.row)
      clear b4 o4
      go_wp2_with fail
      refine HE.out.mono ?_
      rintro e w5 ⟨rfl, b5⟩
      have HB5 := hid (kept_trans HB4.out b5)
      have HZ5 := hid (HZ4.out.mono b5)
      clear b5 HB4 HZ4 HE
      go_wp2_with fail
      refine (hG.out w5 (HR.out _ HB5.out)).mono ?_
      rintro e wx ⟨rfl, rfl⟩
      go_wp2_with fail
      refine (HSum.out w5 (HR60.out _ HB5.out)).mono ?_
      rintro e wy ⟨rfl, b6⟩
      have HBy := hid (kept_trans HB5.out b6)
      have HZy := hid (HZ5.out.mono b6)
      clear b6 HB5 HZ5
      go_wp2_with fail
      refine (HF.out wy (HR.out _ HBy.out)).mono ?_
      rintro e w6 ⟨rfl, b6⟩
      have HB6 := hid (kept_trans HBy.out b6)
      have HZ6 := hid (HZy.out.mono b6)
      clear b6 HBy HZy
      unfold inoV
      go_wp2_with (first
        | ((with_reducible refine wpl_storeI rfl _ _ rfl w6.heap.size rfl i rfl rfl (allocI w6) ?_); intro w10 k10 g10; have K10 := hid k10; have G10 := hid g10; clear k10 g10)
        | (with_reducible refine wpl_loadI rfl _ rfl w6.heap.size rfl i K10.out ?_))
      have HBa := hid (below_grownS (HB6.out.alloc HB6.out.size (.cells #[.int .i64 0, .int .i64 0, .int .i64 0, .int .i64 0, .int .i64 0, .int .i64 0, .int .i64 0, .int .i64 0, .int .i64 0, .int .i64 0, .int .i64 0, .int .i64 0, .int .i64 0, .int .i64 0, .int .i64 0] 25)) G10.out HB6.out.size (Nat.le_trans HB6.out.size (belowA w6 (.cells #[.int .i64 0, .int .i64 0, .int .i64 0, .int .i64 0, .int .i64 0, .int .i64 0, .int .i64 0, .int .i64 0, .int .i64 0, .int .i64 0, .int .i64 0, .int .i64 0, .int .i64 0, .int .i64 0, .int .i64 0] 25)).size))
      have HZa := hid ((HZ6.out.mono (belowA w6 (.cells #[.int .i64 0, .int .i64 0, .int .i64 0, .int .i64 0, .int .i64 0, .int .i64 0, .int .i64 0, .int .i64 0, .int .i64 0, .int .i64 0, .int .i64 0, .int .i64 0, .int .i64 0, .int .i64 0, .int .i64 0] 25))).grownS G10.out (show w.heap.size ≠ w6.heap.size from Nat.ne_of_lt HZ6.out.lt))
      refine (hP.out w10).mono ?_
      rintro e w8 ⟨a8, c8, rfl, o8, b8⟩
      have HB8 := hid (kept_trans HBa.out b8)
      have HZ8 := hid (HZa.out.mono b8)
      have K8 := hid (K10.out.mono b8)
      have O8 := hid o8.row
      clear b8 o8 HBa HZa HB6 HZ6
      go_wp2_with (((with_reducible refine wpl_storeI rfl _ _ rfl w.heap.size rfl ino0 rfl HZC.out HZ8.out ?_); intro w9 k9 g9; have K9 := hid k9; have G9 := hid g9; clear k9 g9))
      refine bodyPost_ret (results_cell2 rfl rfl K9.out Try.underlying25 rfl (by rw [infoIno]; rfl)) rfl ?_
      exact ⟨rfl, below_grownS HB8.out G9.out (Nat.le_refl _) HB8.out.size⟩
    · rw [hM] at hr2 hr3 hPE
      rw [show E = 0 from hPE] at hP
      by_cases hy : P = ys
      · obtain ⟨e1, e2⟩ := hr3 rfl (by rw [decide_eq_true hy]; rfl)
        rw [e1, e2]
        have EPP : Hid (∀ (a2 : Option Addr) (c2 : Nat) (w1 : World), RowB w1 a2 c2 P → RowB w1 a c ys → Calls Try.prog 28 #[.slice a2 P.length c2, .slice a 64 c] w1 fun e w' => e = .returned (.bool true) ∧ Below w1.heap.size w1 w') := by
          have q := EP.out
          simp only [decide_eq_true hy] at q
          exact q
        clear e1 e2 hr1 hr2 hr3 hM hPE EP hy
        go_enter Try.func14, Try.ntmps14
        go_wp2_with fail
        refine (P0.out _).mono ?_
        rintro e w4 ⟨a4, c4, rfl, o4, b4⟩
        have HB4 := hid (kept_trans HB.out b4)
        have HZ4 := hid (HZ.out.mono b4)
        have HE := hid (EZ.out a4 c4 w4 (HR.out _ HB4.out) o4.row)
        clear b4 o4
        go_wp2_with fail
        refine HE.out.mono ?_
        rintro e w5 ⟨rfl, b5⟩
        have HB5 := hid (kept_trans HB4.out b5)
        have HZ5 := hid (HZ4.out.mono b5)
        clear b5 HB4 HZ4 HE
        go_wp2_with fail
        refine (hG.out w5 (HR.out _ HB5.out)).mono ?_
        rintro e wx ⟨rfl, rfl⟩
        go_wp2_with fail
        refine (HSum.out w5 (HR60.out _ HB5.out)).mono ?_
        rintro e wy ⟨rfl, b6⟩
        have HBy := hid (kept_trans HB5.out b6)
        have HZy := hid (HZ5.out.mono b6)
        clear b6 HB5 HZ5
        go_wp2_with fail
        refine (HF.out wy (HR.out _ HBy.out)).mono ?_
        rintro e w6 ⟨rfl, b6⟩
        have HB6 := hid (kept_trans HBy.out b6)
        have HZ6 := hid (HZy.out.mono b6)
        clear b6 HBy HZy
        unfold inoV
        go_wp2_with (first
          | ((with_reducible refine wpl_storeI rfl _ _ rfl w6.heap.size rfl i rfl rfl (allocI w6) ?_); intro w10 k10 g10; have K10 := hid k10; have G10 := hid g10; clear k10 g10)
          | (with_reducible refine wpl_loadI rfl _ rfl w6.heap.size rfl i K10.out ?_))
        have HBa := hid (below_grownS (HB6.out.alloc HB6.out.size (.cells #[.int .i64 0, .int .i64 0, .int .i64 0, .int .i64 0, .int .i64 0, .int .i64 0, .int .i64 0, .int .i64 0, .int .i64 0, .int .i64 0, .int .i64 0, .int .i64 0, .int .i64 0, .int .i64 0, .int .i64 0] 25)) G10.out HB6.out.size (Nat.le_trans HB6.out.size (belowA w6 (.cells #[.int .i64 0, .int .i64 0, .int .i64 0, .int .i64 0, .int .i64 0, .int .i64 0, .int .i64 0, .int .i64 0, .int .i64 0, .int .i64 0, .int .i64 0, .int .i64 0, .int .i64 0, .int .i64 0, .int .i64 0] 25)).size))
        have HZa := hid ((HZ6.out.mono (belowA w6 (.cells #[.int .i64 0, .int .i64 0, .int .i64 0, .int .i64 0, .int .i64 0, .int .i64 0, .int .i64 0, .int .i64 0, .int .i64 0, .int .i64 0, .int .i64 0, .int .i64 0, .int .i64 0, .int .i64 0, .int .i64 0] 25))).grownS G10.out (show w.heap.size ≠ w6.heap.size from Nat.ne_of_lt HZ6.out.lt))
        refine (hP.out w10).mono ?_
        rintro e w8 ⟨a8, c8, rfl, o8, b8⟩
        have HB8 := hid (kept_trans HBa.out b8)
        have HZ8 := hid (HZa.out.mono b8)
        have K8 := hid (K10.out.mono b8)
        have O8 := hid o8.row
        clear b8 o8 HBa HZa HB6 HZ6
        have HE := hid (EPP.out a8 c8 w8 O8.out (HR.out _ HB8.out))
        go_wp2_with fail
        refine HE.out.mono ?_
        rintro e w7 ⟨rfl, b7⟩
        have HB7 := hid (kept_trans HB8.out b7)
        have HZ7 := hid (HZ8.out.mono b7)
        have K7 := hid (K8.out.mono b7)
        clear b7
        go_wp2_with (first
          | (with_reducible refine wpl_loadI rfl _ rfl w6.heap.size rfl i K7.out ?_)
          | ((with_reducible refine wpl_storeI rfl _ _ rfl w.heap.size rfl i rfl rfl HZ7.out ?_); intro w9 k9 g9; have K9 := hid k9; have G9 := hid g9; clear k9 g9))
        refine bodyPost_ret (results_cell2 rfl rfl K9.out Try.underlying25 rfl (by rw [infoIno]; rfl)) rfl ?_
        exact ⟨rfl, below_grownS HB7.out G9.out (Nat.le_refl _) HB7.out.size⟩
      · obtain ⟨e1, e2⟩ := hr2 rfl (by rw [decide_eq_false hy]; rfl)
        rw [e1, e2]
        have EPP : Hid (∀ (a2 : Option Addr) (c2 : Nat) (w1 : World), RowB w1 a2 c2 P → RowB w1 a c ys → Calls Try.prog 28 #[.slice a2 P.length c2, .slice a 64 c] w1 fun e w' => e = .returned (.bool false) ∧ Below w1.heap.size w1 w') := by
          have q := EP.out
          simp only [decide_eq_false hy] at q
          exact q
        clear e1 e2 hr1 hr2 hr3 hM hPE EP hy
        go_enter Try.func14, Try.ntmps14
        go_wp2_with fail
        refine (P0.out _).mono ?_
        rintro e w4 ⟨a4, c4, rfl, o4, b4⟩
        have HB4 := hid (kept_trans HB.out b4)
        have HZ4 := hid (HZ.out.mono b4)
        have HE := hid (EZ.out a4 c4 w4 (HR.out _ HB4.out) o4.row)
        clear b4 o4
        go_wp2_with fail
        refine HE.out.mono ?_
        rintro e w5 ⟨rfl, b5⟩
        have HB5 := hid (kept_trans HB4.out b5)
        have HZ5 := hid (HZ4.out.mono b5)
        clear b5 HB4 HZ4 HE
        go_wp2_with fail
        refine (hG.out w5 (HR.out _ HB5.out)).mono ?_
        rintro e wx ⟨rfl, rfl⟩
        go_wp2_with fail
        refine (HSum.out w5 (HR60.out _ HB5.out)).mono ?_
        rintro e wy ⟨rfl, b6⟩
        have HBy := hid (kept_trans HB5.out b6)
        have HZy := hid (HZ5.out.mono b6)
        clear b6 HB5 HZ5
        go_wp2_with fail
        refine (HF.out wy (HR.out _ HBy.out)).mono ?_
        rintro e w6 ⟨rfl, b6⟩
        have HB6 := hid (kept_trans HBy.out b6)
        have HZ6 := hid (HZy.out.mono b6)
        clear b6 HBy HZy
        unfold inoV
        go_wp2_with (first
          | ((with_reducible refine wpl_storeI rfl _ _ rfl w6.heap.size rfl i rfl rfl (allocI w6) ?_); intro w10 k10 g10; have K10 := hid k10; have G10 := hid g10; clear k10 g10)
          | (with_reducible refine wpl_loadI rfl _ rfl w6.heap.size rfl i K10.out ?_))
        have HBa := hid (below_grownS (HB6.out.alloc HB6.out.size (.cells #[.int .i64 0, .int .i64 0, .int .i64 0, .int .i64 0, .int .i64 0, .int .i64 0, .int .i64 0, .int .i64 0, .int .i64 0, .int .i64 0, .int .i64 0, .int .i64 0, .int .i64 0, .int .i64 0, .int .i64 0] 25)) G10.out HB6.out.size (Nat.le_trans HB6.out.size (belowA w6 (.cells #[.int .i64 0, .int .i64 0, .int .i64 0, .int .i64 0, .int .i64 0, .int .i64 0, .int .i64 0, .int .i64 0, .int .i64 0, .int .i64 0, .int .i64 0, .int .i64 0, .int .i64 0, .int .i64 0, .int .i64 0] 25)).size))
        have HZa := hid ((HZ6.out.mono (belowA w6 (.cells #[.int .i64 0, .int .i64 0, .int .i64 0, .int .i64 0, .int .i64 0, .int .i64 0, .int .i64 0, .int .i64 0, .int .i64 0, .int .i64 0, .int .i64 0, .int .i64 0, .int .i64 0, .int .i64 0, .int .i64 0] 25))).grownS G10.out (show w.heap.size ≠ w6.heap.size from Nat.ne_of_lt HZ6.out.lt))
        refine (hP.out w10).mono ?_
        rintro e w8 ⟨a8, c8, rfl, o8, b8⟩
        have HB8 := hid (kept_trans HBa.out b8)
        have HZ8 := hid (HZa.out.mono b8)
        have K8 := hid (K10.out.mono b8)
        have O8 := hid o8.row
        clear b8 o8 HBa HZa HB6 HZ6
        have HE := hid (EPP.out a8 c8 w8 O8.out (HR.out _ HB8.out))
        go_wp2_with fail
        refine HE.out.mono ?_
        rintro e w7 ⟨rfl, b7⟩
        have HB7 := hid (kept_trans HB8.out b7)
        have HZ7 := hid (HZ8.out.mono b7)
        clear b7
        go_wp2_with (((with_reducible refine wpl_storeI rfl _ _ rfl w.heap.size rfl ino0 rfl HZC.out HZ7.out ?_); intro w9 k9 g9; have K9 := hid k9; have G9 := hid g9; clear k9 g9))
        refine bodyPost_ret (results_cell2 rfl rfl K9.out Try.underlying25 rfl (by rw [infoIno]; rfl)) rfl ?_
        exact ⟨rfl, below_grownS HB7.out G9.out (Nat.le_refl _) HB7.out.size⟩
  · rw [decide_eq_false hu] at hr1
    obtain ⟨e1, e2⟩ := hr1 rfl
    rw [e1, e2]
    have hne : ((u : Int) != (z : Int)) = true := by simp; omega
    clear e1 e2 hr1 hr2 hr3 hu
    go_enter Try.func14, Try.ntmps14
    go_wp2_with fail
    refine (P0.out _).mono ?_
    rintro e w4 ⟨a4, c4, rfl, o4, b4⟩
    have HB4 := hid (kept_trans HB.out b4)
    have HZ4 := hid (HZ.out.mono b4)
    have HE := hid (EZ.out a4 c4 w4 (HR.out _ HB4.out) o4.row)
    clear b4 o4
    go_wp2_with fail
    refine HE.out.mono ?_
    rintro e w5 ⟨rfl, b5⟩
    have HB5 := hid (kept_trans HB4.out b5)
    have HZ5 := hid (HZ4.out.mono b5)
    clear b5 HB4 HZ4 HE
    go_wp2_with fail
    refine (hG.out w5 (HR.out _ HB5.out)).mono ?_
    rintro e wx ⟨rfl, rfl⟩
    go_wp2_with fail
    refine (HSum.out w5 (HR60.out _ HB5.out)).mono ?_
    rintro e w6 ⟨rfl, b6⟩
    have HB5z := hid (kept_trans HB5.out b6)
    have HZ5z := hid (HZ5.out.mono b6)
    clear b6 HB5 HZ5
    have HB5 := hid HB5z.out; have HZ5 := hid HZ5z.out
    go_wp2_with (((with_reducible refine wpl_storeI rfl _ _ rfl w.heap.size rfl ino0 rfl HZC.out HZ5.out ?_); intro w9 k9 g9; have K9 := hid k9; have G9 := hid g9; clear k9 g9))
    refine bodyPost_ret (results_cell2 rfl rfl K9.out Try.underlying25 rfl (by rw [infoIno]; rfl)) rfl ?_
    exact ⟨rfl, below_grownS HB5.out G9.out (Nat.le_refl _) HB5.out.size⟩

end Go.Proofs.Ytnmblbkbiehodaa
