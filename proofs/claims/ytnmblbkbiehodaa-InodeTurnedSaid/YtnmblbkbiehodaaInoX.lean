import Derived.Test.YtnmblbkbiehodaaInoW
namespace Go.Proofs.Ytnmblbkbiehodaa
open Go.RowKit Go.WideShapes
set_option linter.unusedSimpArgs false
set_option linter.unusedVariables false

theorem row_blkI {w : World} {sz n c : Nat} {a : Option Addr} {cs : List Value} (h : Row w sz a n c cs) : 0 < n → ∀ b off, a = some ⟨b, off, none⟩ → b < w.heap.size := fun hn b off e => by
  obtain ⟨b', off', e', hlt, _⟩ := h.at hn
  rw [e] at e'; cases e'; exact hlt
theorem row_grownI {w w' : World} {sz n c : Nat} {a : Option Addr} {cs : List Value} {o : Obj} (h : Row (w.alloc o) sz a n c cs) (g : (w.alloc o).grownBy w' (some w.heap.size)) (hb : 0 < n → ∀ b off, a = some ⟨b, off, none⟩ → b < w.heap.size) : Row w' sz a n c cs := by
  obtain ⟨h1, h2, h3, h4, h5⟩ := h
  refine ⟨h1, h2, h3, h4, fun hn => ?_⟩
  obtain ⟨b, off, e, hlt, hc⟩ := h5 hn
  have hb' := hb hn b off e
  refine ⟨b, off, e, Nat.lt_of_lt_of_le hlt g.size, fun j u hu => ?_⟩
  have q := hc j u hu
  have hblk := g.block b hlt (by simp; omega)
  unfold World.cell? at q ⊢
  rw [hblk]
  exact q

set_option maxHeartbeats 8000000 in
set_option maxRecDepth 100000 in
theorem InodeRound_walk (w : World) (i : InoT) (a : Option Addr) (c : Nat) (xs : List UInt8) (ha : RowB w a c xs) :
    Calls Try.prog 5 #[inoV i, .slice a xs.length c] w fun e w' => e = .returned (.bool true) ∧ Below w.heap.size w w' := by
  have hl := rowB_len ha
  have hcap : xs.length ≤ c := ha.2.1
  have ry := rowB_take ha 100
  have go : ∀ (m : Nat) (big : Bool), m = (xs.take 100).length → ((100 : Int) < (xs.length : Int)) = big → (big = false → m = xs.length) → (big = true → m = 100 ∧ 100 ≤ c) →
      Calls Try.prog 5 #[inoV i, .slice a xs.length c] w fun e w' => e = .returned (.bool true) ∧ Below w.heap.size w w' := by
    intro m big hm hbig hf ht
    clear ha
    generalize xs.take 100 = ys at *
    have HS := hid (fun w1 (hb : Below w.heap.size w w1) => sealed11_any a c ys w1 (Row.mono ry hb))
    have HZ := hid (fun a' c' w1 (r1 : RowB w1 a' c' (sealF11 ys)) => readIno_any a' c' (sealF11 ys) w1 r1)
    have hrp := @read_putI (sealF11 ys)
    unfold RowA inoV at *
    generalize sealF11 ys = zs at *
    rw [← hm] at HS
    have HPZ := fun w1 => putIno_any (rdI zs) w1
    have HP := fun w1 => putIno_any i w1
    have HQ0 := fun a' c' w1 r1 => readIno_any a' c' (putL i) w1 r1
    have hpr := @put_readI i
    have hpe : putE i = if mayI i then 0 else 1 := rfl
    have hpz : putE (rdI zs) = if mayI (rdI zs) then 0 else 1 := rfl
    unfold PutA inoV at HP HPZ
    unfold inoV at HQ0
    have hPL : (putL i).length ≤ 64 := by unfold putL; split; split; simp; rw [putI_len]; omega; simp
    generalize putL i = P at *
    generalize rdI P = iP at *
    generalize rdE P = eP at *
    generalize putE i = E at *
    generalize mayI i = M at *
    generalize rdI zs = kz at *
    generalize rdE zs = ez at *
    generalize putE kz = Ez at *
    generalize putL kz = Pz at *
    generalize mayI kz = Mz at *
    clear ry hm
    have E1 := eqInoR i
    have HB : Hid (Below w.heap.size w (w.alloc (.cells (inoC i).toArray 25))) := (Below.refl w.heap.size w).alloc (Nat.le_refl _) _
    have K0 : Hid (Blk (w.alloc (.cells (inoC i).toArray 25)) w.heap.size 25 (inoC i)) := heap_alloc_new w _
    have HZ := hid HZ.out
    have go2 : ∀ (z : Bool), (ez == 0) = z → Calls Try.prog 5 #[.agg (inoC i).toArray, .slice a xs.length c] w fun e w' => e = .returned (.bool true) ∧ Below w.heap.size w w' := by
      intro z hz
      cases z
      · have hzb : (ez == 0) = false := hz
        have hzn : ¬ ez = 0 := by simpa using hz
        clear hz hrp hpz HPZ
        cases M
        · rw [show E = 1 from hpe] at HP
          have HP := hid HP
          clear hpr hpe HQ0
          cases big
          · obtain rfl := hf rfl
            have d100 : decide ((100 : Int) < (xs.length : Int)) = false := by simpa using hbig
            clear hbig hf ht
            go_enter Try.func5, Try.ntmps5
            go_wp2_with (with_reducible refine wpl_loadI rfl _ rfl w.heap.size rfl i K0.out ?_)
            refine (HP.out _).mono ?_
            rintro e w1 ⟨a1, c1, rfl, o1, b1⟩
            have HB1 := hid (kept_trans HB.out b1)
            have K1 := hid (K0.out.mono b1)
            have R1 := hid o1.row
            clear b1 o1
            go_wp2_with fail
            have HBx := hid HB1.out
            refine (HS.out _ HBx.out).mono ?_
            rintro e w4 ⟨a4, c4, rfl, r4, b4⟩
            have HB4 := hid (kept_trans HBx.out b4)
            have R4 := hid r4
            clear b4 r4
            go_wp2_with fail
            refine (HZ.out a4 c4 w4 R4.out).mono ?_
            rintro e w5 ⟨rfl, b5⟩
            have HB5 := hid (kept_trans HB4.out b5)
            have R5 := hid (R4.out.mono b5)
            clear b5
            go_wp2_with (first
              | ((with_reducible refine wpl_storeI rfl _ _ rfl w5.heap.size rfl kz rfl rfl (allocI w5) ?_); intro v5 k5 g5; have HB6 := hid (below_grownS (HB5.out.alloc HB5.out.size (.cells #[.int .i64 0, .int .i64 0, .int .i64 0, .int .i64 0, .int .i64 0, .int .i64 0, .int .i64 0, .int .i64 0, .int .i64 0, .int .i64 0, .int .i64 0, .int .i64 0, .int .i64 0, .int .i64 0, .int .i64 0] 25)) g5 HB5.out.size (Nat.le_trans HB5.out.size (belowA w5 (.cells #[.int .i64 0, .int .i64 0, .int .i64 0, .int .i64 0, .int .i64 0, .int .i64 0, .int .i64 0, .int .i64 0, .int .i64 0, .int .i64 0, .int .i64 0, .int .i64 0, .int .i64 0, .int .i64 0, .int .i64 0] 25)).size)); clear k5 g5)
              | (go_at_call 13; refine (lives11_any _).mono ?_; rintro e w9' ⟨rfl, b9⟩; have HB9 := hid (kept_trans HB6.out b9); clear b9))
            go_ret
            exact ⟨rfl, HB9.out⟩
          · obtain ⟨rfl, hc100⟩ := ht rfl
            have d100 : decide ((100 : Int) < (xs.length : Int)) = true := by simpa using hbig
            have i100 : (100 : Int) < (xs.length : Int) := by simpa using hbig
            have hc100i : (100 : Int) ≤ (c : Int) := by omega
            clear hbig hf ht
            go_enter Try.func5, Try.ntmps5
            go_wp2_with (with_reducible refine wpl_loadI rfl _ rfl w.heap.size rfl i K0.out ?_)
            refine (HP.out _).mono ?_
            rintro e w1 ⟨a1, c1, rfl, o1, b1⟩
            have HB1 := hid (kept_trans HB.out b1)
            have K1 := hid (K0.out.mono b1)
            have R1 := hid o1.row
            clear b1 o1
            go_wp2_with fail
            have HBx := hid HB1.out
            refine (HS.out _ HBx.out).mono ?_
            rintro e w4 ⟨a4, c4, rfl, r4, b4⟩
            have HB4 := hid (kept_trans HBx.out b4)
            have R4 := hid r4
            clear b4 r4
            go_wp2_with fail
            refine (HZ.out a4 c4 w4 R4.out).mono ?_
            rintro e w5 ⟨rfl, b5⟩
            have HB5 := hid (kept_trans HB4.out b5)
            have R5 := hid (R4.out.mono b5)
            clear b5
            go_wp2_with (first
              | ((with_reducible refine wpl_storeI rfl _ _ rfl w5.heap.size rfl kz rfl rfl (allocI w5) ?_); intro v5 k5 g5; have HB6 := hid (below_grownS (HB5.out.alloc HB5.out.size (.cells #[.int .i64 0, .int .i64 0, .int .i64 0, .int .i64 0, .int .i64 0, .int .i64 0, .int .i64 0, .int .i64 0, .int .i64 0, .int .i64 0, .int .i64 0, .int .i64 0, .int .i64 0, .int .i64 0, .int .i64 0] 25)) g5 HB5.out.size (Nat.le_trans HB5.out.size (belowA w5 (.cells #[.int .i64 0, .int .i64 0, .int .i64 0, .int .i64 0, .int .i64 0, .int .i64 0, .int .i64 0, .int .i64 0, .int .i64 0, .int .i64 0, .int .i64 0, .int .i64 0, .int .i64 0, .int .i64 0, .int .i64 0] 25)).size)); clear k5 g5)
              | (go_at_call 13; refine (lives11_any _).mono ?_; rintro e w9' ⟨rfl, b9⟩; have HB9 := hid (kept_trans HB6.out b9); clear b9))
            go_ret
            exact ⟨rfl, HB9.out⟩
        · rw [show E = 0 from hpe] at HP
          obtain ⟨e1, e2⟩ := hpr rfl
          rw [e1, e2] at HQ0
          have HP := hid HP; have HQ := hid HQ0
          clear hpr hpe e1 e2 HQ0
          cases big
          · obtain rfl := hf rfl
            have d100 : decide ((100 : Int) < (xs.length : Int)) = false := by simpa using hbig
            clear hbig hf ht
            go_enter Try.func5, Try.ntmps5
            go_wp2_with (with_reducible refine wpl_loadI rfl _ rfl w.heap.size rfl i K0.out ?_)
            refine (HP.out _).mono ?_
            rintro e w1 ⟨a1, c1, rfl, o1, b1⟩
            have HB1 := hid (kept_trans HB.out b1)
            have K1 := hid (K0.out.mono b1)
            have R1 := hid o1.row
            clear b1 o1
            go_wp2_with fail
            refine (HQ.out a1 c1 w1 R1.out).mono ?_
            rintro e w2 ⟨rfl, b2⟩
            have HB2 := hid (kept_trans HB1.out b2)
            have K2 := hid (K1.out.mono b2)
            clear b2
            go_wp2_with (first
              | ((with_reducible refine wpl_storeI rfl _ _ rfl w2.heap.size rfl i rfl rfl (allocI w2) ?_); intro v2 k2 g2; have J2 := hid k2; have HB3 := hid (below_grownS (HB2.out.alloc HB2.out.size (.cells #[.int .i64 0, .int .i64 0, .int .i64 0, .int .i64 0, .int .i64 0, .int .i64 0, .int .i64 0, .int .i64 0, .int .i64 0, .int .i64 0, .int .i64 0, .int .i64 0, .int .i64 0, .int .i64 0, .int .i64 0] 25)) g2 HB2.out.size (Nat.le_trans HB2.out.size (belowA w2 (.cells #[.int .i64 0, .int .i64 0, .int .i64 0, .int .i64 0, .int .i64 0, .int .i64 0, .int .i64 0, .int .i64 0, .int .i64 0, .int .i64 0, .int .i64 0, .int .i64 0, .int .i64 0, .int .i64 0, .int .i64 0] 25)).size)); have K3 := hid ((K2.out.mono (belowA w2 (.cells #[.int .i64 0, .int .i64 0, .int .i64 0, .int .i64 0, .int .i64 0, .int .i64 0, .int .i64 0, .int .i64 0, .int .i64 0, .int .i64 0, .int .i64 0, .int .i64 0, .int .i64 0, .int .i64 0, .int .i64 0] 25))).grownS g2 (Nat.ne_of_lt K2.out.lt)); clear k2 g2)
              | (with_reducible refine wpl_loadI rfl _ rfl w2.heap.size rfl i J2.out ?_)
              | (with_reducible refine wpl_loadI rfl _ rfl w.heap.size rfl i K3.out ?_))
            have HBx := hid HB3.out
            refine (HS.out _ HBx.out).mono ?_
            rintro e w4 ⟨a4, c4, rfl, r4, b4⟩
            have HB4 := hid (kept_trans HBx.out b4)
            have R4 := hid r4
            clear b4 r4
            go_wp2_with fail
            refine (HZ.out a4 c4 w4 R4.out).mono ?_
            rintro e w5 ⟨rfl, b5⟩
            have HB5 := hid (kept_trans HB4.out b5)
            have R5 := hid (R4.out.mono b5)
            clear b5
            go_wp2_with (first
              | ((with_reducible refine wpl_storeI rfl _ _ rfl w5.heap.size rfl kz rfl rfl (allocI w5) ?_); intro v5 k5 g5; have HB6 := hid (below_grownS (HB5.out.alloc HB5.out.size (.cells #[.int .i64 0, .int .i64 0, .int .i64 0, .int .i64 0, .int .i64 0, .int .i64 0, .int .i64 0, .int .i64 0, .int .i64 0, .int .i64 0, .int .i64 0, .int .i64 0, .int .i64 0, .int .i64 0, .int .i64 0] 25)) g5 HB5.out.size (Nat.le_trans HB5.out.size (belowA w5 (.cells #[.int .i64 0, .int .i64 0, .int .i64 0, .int .i64 0, .int .i64 0, .int .i64 0, .int .i64 0, .int .i64 0, .int .i64 0, .int .i64 0, .int .i64 0, .int .i64 0, .int .i64 0, .int .i64 0, .int .i64 0] 25)).size)); clear k5 g5)
              | (go_at_call 13; refine (lives11_any _).mono ?_; rintro e w9' ⟨rfl, b9⟩; have HB9 := hid (kept_trans HB6.out b9); clear b9))
            go_ret
            exact ⟨rfl, HB9.out⟩
          · obtain ⟨rfl, hc100⟩ := ht rfl
            have d100 : decide ((100 : Int) < (xs.length : Int)) = true := by simpa using hbig
            have i100 : (100 : Int) < (xs.length : Int) := by simpa using hbig
            have hc100i : (100 : Int) ≤ (c : Int) := by omega
            clear hbig hf ht
            go_enter Try.func5, Try.ntmps5
            go_wp2_with (with_reducible refine wpl_loadI rfl _ rfl w.heap.size rfl i K0.out ?_)
            refine (HP.out _).mono ?_
            rintro e w1 ⟨a1, c1, rfl, o1, b1⟩
            have HB1 := hid (kept_trans HB.out b1)
            have K1 := hid (K0.out.mono b1)
            have R1 := hid o1.row
            clear b1 o1
            go_wp2_with fail
            refine (HQ.out a1 c1 w1 R1.out).mono ?_
            rintro e w2 ⟨rfl, b2⟩
            have HB2 := hid (kept_trans HB1.out b2)
            have K2 := hid (K1.out.mono b2)
            clear b2
            go_wp2_with (first
              | ((with_reducible refine wpl_storeI rfl _ _ rfl w2.heap.size rfl i rfl rfl (allocI w2) ?_); intro v2 k2 g2; have J2 := hid k2; have HB3 := hid (below_grownS (HB2.out.alloc HB2.out.size (.cells #[.int .i64 0, .int .i64 0, .int .i64 0, .int .i64 0, .int .i64 0, .int .i64 0, .int .i64 0, .int .i64 0, .int .i64 0, .int .i64 0, .int .i64 0, .int .i64 0, .int .i64 0, .int .i64 0, .int .i64 0] 25)) g2 HB2.out.size (Nat.le_trans HB2.out.size (belowA w2 (.cells #[.int .i64 0, .int .i64 0, .int .i64 0, .int .i64 0, .int .i64 0, .int .i64 0, .int .i64 0, .int .i64 0, .int .i64 0, .int .i64 0, .int .i64 0, .int .i64 0, .int .i64 0, .int .i64 0, .int .i64 0] 25)).size)); have K3 := hid ((K2.out.mono (belowA w2 (.cells #[.int .i64 0, .int .i64 0, .int .i64 0, .int .i64 0, .int .i64 0, .int .i64 0, .int .i64 0, .int .i64 0, .int .i64 0, .int .i64 0, .int .i64 0, .int .i64 0, .int .i64 0, .int .i64 0, .int .i64 0] 25))).grownS g2 (Nat.ne_of_lt K2.out.lt)); clear k2 g2)
              | (with_reducible refine wpl_loadI rfl _ rfl w2.heap.size rfl i J2.out ?_)
              | (with_reducible refine wpl_loadI rfl _ rfl w.heap.size rfl i K3.out ?_))
            have HBx := hid HB3.out
            refine (HS.out _ HBx.out).mono ?_
            rintro e w4 ⟨a4, c4, rfl, r4, b4⟩
            have HB4 := hid (kept_trans HBx.out b4)
            have R4 := hid r4
            clear b4 r4
            go_wp2_with fail
            refine (HZ.out a4 c4 w4 R4.out).mono ?_
            rintro e w5 ⟨rfl, b5⟩
            have HB5 := hid (kept_trans HB4.out b5)
            have R5 := hid (R4.out.mono b5)
            clear b5
            go_wp2_with (first
              | ((with_reducible refine wpl_storeI rfl _ _ rfl w5.heap.size rfl kz rfl rfl (allocI w5) ?_); intro v5 k5 g5; have HB6 := hid (below_grownS (HB5.out.alloc HB5.out.size (.cells #[.int .i64 0, .int .i64 0, .int .i64 0, .int .i64 0, .int .i64 0, .int .i64 0, .int .i64 0, .int .i64 0, .int .i64 0, .int .i64 0, .int .i64 0, .int .i64 0, .int .i64 0, .int .i64 0, .int .i64 0] 25)) g5 HB5.out.size (Nat.le_trans HB5.out.size (belowA w5 (.cells #[.int .i64 0, .int .i64 0, .int .i64 0, .int .i64 0, .int .i64 0, .int .i64 0, .int .i64 0, .int .i64 0, .int .i64 0, .int .i64 0, .int .i64 0, .int .i64 0, .int .i64 0, .int .i64 0, .int .i64 0] 25)).size)); clear k5 g5)
              | (go_at_call 13; refine (lives11_any _).mono ?_; rintro e w9' ⟨rfl, b9⟩; have HB9 := hid (kept_trans HB6.out b9); clear b9))
            go_ret
            exact ⟨rfl, HB9.out⟩
      · have hz0 : ez = 0 := by simpa using hz
        obtain ⟨hz64, hmz, hpt⟩ := hrp hz0
        rw [hmz] at hpz
        rw [show Ez = 0 from hpz] at HPZ
        have hzl : (zs.take 64).length = 64 := by simp; omega
        have HSame : Hid (∀ (a1 a2 : Option Addr) (c1 c2 : Nat) (w1 : World), RowB w1 a1 c1 Pz → RowB w1 a2 c2 (zs.take 64) → Calls Try.prog 10 #[.slice a1 Pz.length c1, .slice a2 64 c2] w1 fun e w' => e = .returned (.bool true) ∧ Below w1.heap.size w1 w') := by
          intro a1 a2 c1 c2 w1 r1 r2
          have q := same_any a1 a2 c1 c2 Pz (zs.take 64) w1 r1 r2 (by rw [hpt, hzl]; omega) (by omega)
          rw [decide_eq_true hpt, hzl] at q
          exact q
        subst hz0
        have HPZ := hid HPZ
        clear hz hrp hpz hmz hpt hzl
        cases M
        · rw [show E = 1 from hpe] at HP
          have HP := hid HP
          clear hpr hpe HQ0
          cases big
          · obtain rfl := hf rfl
            have d100 : decide ((100 : Int) < (xs.length : Int)) = false := by simpa using hbig
            clear hbig hf ht
            go_enter Try.func5, Try.ntmps5
            go_wp2_with (with_reducible refine wpl_loadI rfl _ rfl w.heap.size rfl i K0.out ?_)
            refine (HP.out _).mono ?_
            rintro e w1 ⟨a1, c1, rfl, o1, b1⟩
            have HB1 := hid (kept_trans HB.out b1)
            have K1 := hid (K0.out.mono b1)
            have R1 := hid o1.row
            clear b1 o1
            go_wp2_with fail
            have HBx := hid HB1.out
            refine (HS.out _ HBx.out).mono ?_
            rintro e w4 ⟨a4, c4, rfl, r4, b4⟩
            have HB4 := hid (kept_trans HBx.out b4)
            have R4 := hid r4
            clear b4 r4
            go_wp2_with fail
            refine (HZ.out a4 c4 w4 R4.out).mono ?_
            rintro e w5 ⟨rfl, b5⟩
            have HB5 := hid (kept_trans HB4.out b5)
            have R5 := hid (R4.out.mono b5)
            clear b5
            go_wp2_with (first
              | ((with_reducible refine wpl_storeI rfl _ _ rfl w5.heap.size rfl kz rfl rfl (allocI w5) ?_); intro v5 k5 g5; have J5 := hid k5; have HB6 := hid (below_grownS (HB5.out.alloc HB5.out.size (.cells #[.int .i64 0, .int .i64 0, .int .i64 0, .int .i64 0, .int .i64 0, .int .i64 0, .int .i64 0, .int .i64 0, .int .i64 0, .int .i64 0, .int .i64 0, .int .i64 0, .int .i64 0, .int .i64 0, .int .i64 0] 25)) g5 HB5.out.size (Nat.le_trans HB5.out.size (belowA w5 (.cells #[.int .i64 0, .int .i64 0, .int .i64 0, .int .i64 0, .int .i64 0, .int .i64 0, .int .i64 0, .int .i64 0, .int .i64 0, .int .i64 0, .int .i64 0, .int .i64 0, .int .i64 0, .int .i64 0, .int .i64 0] 25)).size)); have R6 := hid (row_grownI (R5.out.mono (belowA w5 (.cells #[.int .i64 0, .int .i64 0, .int .i64 0, .int .i64 0, .int .i64 0, .int .i64 0, .int .i64 0, .int .i64 0, .int .i64 0, .int .i64 0, .int .i64 0, .int .i64 0, .int .i64 0, .int .i64 0, .int .i64 0] 25))) g5 (row_blkI R5.out)); clear k5 g5)
              | (with_reducible refine wpl_loadI rfl _ rfl w5.heap.size rfl kz J5.out ?_))
            refine (HPZ.out v5).mono ?_
            rintro e w7 ⟨a7, c7, rfl, o7, b7⟩
            have HB7 := hid (kept_trans HB6.out b7)
            have R7 := hid o7.row
            have RZ7 := hid (rowB_take (R6.out.mono b7) 64)
            clear b7 o7
            have hcap4 : zs.length ≤ c4 := R4.out.2.1
            have hc4 : 64 ≤ c4 := Nat.le_trans hz64 hcap4
            have hc4i : (64 : Int) ≤ (c4 : Int) := by omega
            have hz64i : ¬ ((zs.length : Int) < 64) := by omega
            have HSm := hid (HSame.out a7 a4 c7 c4 w7 R7.out RZ7.out)
            go_wp2_with fail
            refine HSm.out.mono ?_
            rintro e w8 ⟨rfl, b8⟩
            have HB8 := hid (kept_trans HB7.out b8)
            clear b8
            go_wp2_with (go_at_call 13; refine (lives11_any _).mono ?_; rintro e w9' ⟨rfl, b9⟩; have HB9 := hid (kept_trans HB8.out b9); clear b9)
            go_ret
            exact ⟨rfl, HB9.out⟩
          · obtain ⟨rfl, hc100⟩ := ht rfl
            have d100 : decide ((100 : Int) < (xs.length : Int)) = true := by simpa using hbig
            have i100 : (100 : Int) < (xs.length : Int) := by simpa using hbig
            have hc100i : (100 : Int) ≤ (c : Int) := by omega
            clear hbig hf ht
            go_enter Try.func5, Try.ntmps5
            go_wp2_with (with_reducible refine wpl_loadI rfl _ rfl w.heap.size rfl i K0.out ?_)
            refine (HP.out _).mono ?_
            rintro e w1 ⟨a1, c1, rfl, o1, b1⟩
            have HB1 := hid (kept_trans HB.out b1)
            have K1 := hid (K0.out.mono b1)
            have R1 := hid o1.row
            clear b1 o1
            go_wp2_with fail
            have HBx := hid HB1.out
            refine (HS.out _ HBx.out).mono ?_
            rintro e w4 ⟨a4, c4, rfl, r4, b4⟩
            have HB4 := hid (kept_trans HBx.out b4)
            have R4 := hid r4
            clear b4 r4
            go_wp2_with fail
            refine (HZ.out a4 c4 w4 R4.out).mono ?_
            rintro e w5 ⟨rfl, b5⟩
            have HB5 := hid (kept_trans HB4.out b5)
            have R5 := hid (R4.out.mono b5)
            clear b5
            go_wp2_with (first
              | ((with_reducible refine wpl_storeI rfl _ _ rfl w5.heap.size rfl kz rfl rfl (allocI w5) ?_); intro v5 k5 g5; have J5 := hid k5; have HB6 := hid (below_grownS (HB5.out.alloc HB5.out.size (.cells #[.int .i64 0, .int .i64 0, .int .i64 0, .int .i64 0, .int .i64 0, .int .i64 0, .int .i64 0, .int .i64 0, .int .i64 0, .int .i64 0, .int .i64 0, .int .i64 0, .int .i64 0, .int .i64 0, .int .i64 0] 25)) g5 HB5.out.size (Nat.le_trans HB5.out.size (belowA w5 (.cells #[.int .i64 0, .int .i64 0, .int .i64 0, .int .i64 0, .int .i64 0, .int .i64 0, .int .i64 0, .int .i64 0, .int .i64 0, .int .i64 0, .int .i64 0, .int .i64 0, .int .i64 0, .int .i64 0, .int .i64 0] 25)).size)); have R6 := hid (row_grownI (R5.out.mono (belowA w5 (.cells #[.int .i64 0, .int .i64 0, .int .i64 0, .int .i64 0, .int .i64 0, .int .i64 0, .int .i64 0, .int .i64 0, .int .i64 0, .int .i64 0, .int .i64 0, .int .i64 0, .int .i64 0, .int .i64 0, .int .i64 0] 25))) g5 (row_blkI R5.out)); clear k5 g5)
              | (with_reducible refine wpl_loadI rfl _ rfl w5.heap.size rfl kz J5.out ?_))
            refine (HPZ.out v5).mono ?_
            rintro e w7 ⟨a7, c7, rfl, o7, b7⟩
            have HB7 := hid (kept_trans HB6.out b7)
            have R7 := hid o7.row
            have RZ7 := hid (rowB_take (R6.out.mono b7) 64)
            clear b7 o7
            have hcap4 : zs.length ≤ c4 := R4.out.2.1
            have hc4 : 64 ≤ c4 := Nat.le_trans hz64 hcap4
            have hc4i : (64 : Int) ≤ (c4 : Int) := by omega
            have hz64i : ¬ ((zs.length : Int) < 64) := by omega
            have HSm := hid (HSame.out a7 a4 c7 c4 w7 R7.out RZ7.out)
            go_wp2_with fail
            refine HSm.out.mono ?_
            rintro e w8 ⟨rfl, b8⟩
            have HB8 := hid (kept_trans HB7.out b8)
            clear b8
            go_wp2_with (go_at_call 13; refine (lives11_any _).mono ?_; rintro e w9' ⟨rfl, b9⟩; have HB9 := hid (kept_trans HB8.out b9); clear b9)
            go_ret
            exact ⟨rfl, HB9.out⟩
        · rw [show E = 0 from hpe] at HP
          obtain ⟨e1, e2⟩ := hpr rfl
          rw [e1, e2] at HQ0
          have HP := hid HP; have HQ := hid HQ0
          clear hpr hpe e1 e2 HQ0
          cases big
          · obtain rfl := hf rfl
            have d100 : decide ((100 : Int) < (xs.length : Int)) = false := by simpa using hbig
            clear hbig hf ht
            go_enter Try.func5, Try.ntmps5
            go_wp2_with (with_reducible refine wpl_loadI rfl _ rfl w.heap.size rfl i K0.out ?_)
            refine (HP.out _).mono ?_
            rintro e w1 ⟨a1, c1, rfl, o1, b1⟩
            have HB1 := hid (kept_trans HB.out b1)
            have K1 := hid (K0.out.mono b1)
            have R1 := hid o1.row
            clear b1 o1
            go_wp2_with fail
            refine (HQ.out a1 c1 w1 R1.out).mono ?_
            rintro e w2 ⟨rfl, b2⟩
            have HB2 := hid (kept_trans HB1.out b2)
            have K2 := hid (K1.out.mono b2)
            clear b2
            go_wp2_with (first
              | ((with_reducible refine wpl_storeI rfl _ _ rfl w2.heap.size rfl i rfl rfl (allocI w2) ?_); intro v2 k2 g2; have J2 := hid k2; have HB3 := hid (below_grownS (HB2.out.alloc HB2.out.size (.cells #[.int .i64 0, .int .i64 0, .int .i64 0, .int .i64 0, .int .i64 0, .int .i64 0, .int .i64 0, .int .i64 0, .int .i64 0, .int .i64 0, .int .i64 0, .int .i64 0, .int .i64 0, .int .i64 0, .int .i64 0] 25)) g2 HB2.out.size (Nat.le_trans HB2.out.size (belowA w2 (.cells #[.int .i64 0, .int .i64 0, .int .i64 0, .int .i64 0, .int .i64 0, .int .i64 0, .int .i64 0, .int .i64 0, .int .i64 0, .int .i64 0, .int .i64 0, .int .i64 0, .int .i64 0, .int .i64 0, .int .i64 0] 25)).size)); have K3 := hid ((K2.out.mono (belowA w2 (.cells #[.int .i64 0, .int .i64 0, .int .i64 0, .int .i64 0, .int .i64 0, .int .i64 0, .int .i64 0, .int .i64 0, .int .i64 0, .int .i64 0, .int .i64 0, .int .i64 0, .int .i64 0, .int .i64 0, .int .i64 0] 25))).grownS g2 (Nat.ne_of_lt K2.out.lt)); clear k2 g2)
              | (with_reducible refine wpl_loadI rfl _ rfl w2.heap.size rfl i J2.out ?_)
              | (with_reducible refine wpl_loadI rfl _ rfl w.heap.size rfl i K3.out ?_))
            have HBx := hid HB3.out
            refine (HS.out _ HBx.out).mono ?_
            rintro e w4 ⟨a4, c4, rfl, r4, b4⟩
            have HB4 := hid (kept_trans HBx.out b4)
            have R4 := hid r4
            clear b4 r4
            go_wp2_with fail
            refine (HZ.out a4 c4 w4 R4.out).mono ?_
            rintro e w5 ⟨rfl, b5⟩
            have HB5 := hid (kept_trans HB4.out b5)
            have R5 := hid (R4.out.mono b5)
            clear b5
            go_wp2_with (first
              | ((with_reducible refine wpl_storeI rfl _ _ rfl w5.heap.size rfl kz rfl rfl (allocI w5) ?_); intro v5 k5 g5; have J5 := hid k5; have HB6 := hid (below_grownS (HB5.out.alloc HB5.out.size (.cells #[.int .i64 0, .int .i64 0, .int .i64 0, .int .i64 0, .int .i64 0, .int .i64 0, .int .i64 0, .int .i64 0, .int .i64 0, .int .i64 0, .int .i64 0, .int .i64 0, .int .i64 0, .int .i64 0, .int .i64 0] 25)) g5 HB5.out.size (Nat.le_trans HB5.out.size (belowA w5 (.cells #[.int .i64 0, .int .i64 0, .int .i64 0, .int .i64 0, .int .i64 0, .int .i64 0, .int .i64 0, .int .i64 0, .int .i64 0, .int .i64 0, .int .i64 0, .int .i64 0, .int .i64 0, .int .i64 0, .int .i64 0] 25)).size)); have R6 := hid (row_grownI (R5.out.mono (belowA w5 (.cells #[.int .i64 0, .int .i64 0, .int .i64 0, .int .i64 0, .int .i64 0, .int .i64 0, .int .i64 0, .int .i64 0, .int .i64 0, .int .i64 0, .int .i64 0, .int .i64 0, .int .i64 0, .int .i64 0, .int .i64 0] 25))) g5 (row_blkI R5.out)); clear k5 g5)
              | (with_reducible refine wpl_loadI rfl _ rfl w5.heap.size rfl kz J5.out ?_))
            refine (HPZ.out v5).mono ?_
            rintro e w7 ⟨a7, c7, rfl, o7, b7⟩
            have HB7 := hid (kept_trans HB6.out b7)
            have R7 := hid o7.row
            have RZ7 := hid (rowB_take (R6.out.mono b7) 64)
            clear b7 o7
            have hcap4 : zs.length ≤ c4 := R4.out.2.1
            have hc4 : 64 ≤ c4 := Nat.le_trans hz64 hcap4
            have hc4i : (64 : Int) ≤ (c4 : Int) := by omega
            have hz64i : ¬ ((zs.length : Int) < 64) := by omega
            have HSm := hid (HSame.out a7 a4 c7 c4 w7 R7.out RZ7.out)
            go_wp2_with fail
            refine HSm.out.mono ?_
            rintro e w8 ⟨rfl, b8⟩
            have HB8 := hid (kept_trans HB7.out b8)
            clear b8
            go_wp2_with (go_at_call 13; refine (lives11_any _).mono ?_; rintro e w9' ⟨rfl, b9⟩; have HB9 := hid (kept_trans HB8.out b9); clear b9)
            go_ret
            exact ⟨rfl, HB9.out⟩
          · obtain ⟨rfl, hc100⟩ := ht rfl
            have d100 : decide ((100 : Int) < (xs.length : Int)) = true := by simpa using hbig
            have i100 : (100 : Int) < (xs.length : Int) := by simpa using hbig
            have hc100i : (100 : Int) ≤ (c : Int) := by omega
            clear hbig hf ht
            go_enter Try.func5, Try.ntmps5
            go_wp2_with (with_reducible refine wpl_loadI rfl _ rfl w.heap.size rfl i K0.out ?_)
            refine (HP.out _).mono ?_
            rintro e w1 ⟨a1, c1, rfl, o1, b1⟩
            have HB1 := hid (kept_trans HB.out b1)
            have K1 := hid (K0.out.mono b1)
            have R1 := hid o1.row
            clear b1 o1
            go_wp2_with fail
            refine (HQ.out a1 c1 w1 R1.out).mono ?_
            rintro e w2 ⟨rfl, b2⟩
            have HB2 := hid (kept_trans HB1.out b2)
            have K2 := hid (K1.out.mono b2)
            clear b2
            go_wp2_with (first
              | ((with_reducible refine wpl_storeI rfl _ _ rfl w2.heap.size rfl i rfl rfl (allocI w2) ?_); intro v2 k2 g2; have J2 := hid k2; have HB3 := hid (below_grownS (HB2.out.alloc HB2.out.size (.cells #[.int .i64 0, .int .i64 0, .int .i64 0, .int .i64 0, .int .i64 0, .int .i64 0, .int .i64 0, .int .i64 0, .int .i64 0, .int .i64 0, .int .i64 0, .int .i64 0, .int .i64 0, .int .i64 0, .int .i64 0] 25)) g2 HB2.out.size (Nat.le_trans HB2.out.size (belowA w2 (.cells #[.int .i64 0, .int .i64 0, .int .i64 0, .int .i64 0, .int .i64 0, .int .i64 0, .int .i64 0, .int .i64 0, .int .i64 0, .int .i64 0, .int .i64 0, .int .i64 0, .int .i64 0, .int .i64 0, .int .i64 0] 25)).size)); have K3 := hid ((K2.out.mono (belowA w2 (.cells #[.int .i64 0, .int .i64 0, .int .i64 0, .int .i64 0, .int .i64 0, .int .i64 0, .int .i64 0, .int .i64 0, .int .i64 0, .int .i64 0, .int .i64 0, .int .i64 0, .int .i64 0, .int .i64 0, .int .i64 0] 25))).grownS g2 (Nat.ne_of_lt K2.out.lt)); clear k2 g2)
              | (with_reducible refine wpl_loadI rfl _ rfl w2.heap.size rfl i J2.out ?_)
              | (with_reducible refine wpl_loadI rfl _ rfl w.heap.size rfl i K3.out ?_))
            have HBx := hid HB3.out
            refine (HS.out _ HBx.out).mono ?_
            rintro e w4 ⟨a4, c4, rfl, r4, b4⟩
            have HB4 := hid (kept_trans HBx.out b4)
            have R4 := hid r4
            clear b4 r4
            go_wp2_with fail
            refine (HZ.out a4 c4 w4 R4.out).mono ?_
            rintro e w5 ⟨rfl, b5⟩
            have HB5 := hid (kept_trans HB4.out b5)
            have R5 := hid (R4.out.mono b5)
            clear b5
            go_wp2_with (first
              | ((with_reducible refine wpl_storeI rfl _ _ rfl w5.heap.size rfl kz rfl rfl (allocI w5) ?_); intro v5 k5 g5; have J5 := hid k5; have HB6 := hid (below_grownS (HB5.out.alloc HB5.out.size (.cells #[.int .i64 0, .int .i64 0, .int .i64 0, .int .i64 0, .int .i64 0, .int .i64 0, .int .i64 0, .int .i64 0, .int .i64 0, .int .i64 0, .int .i64 0, .int .i64 0, .int .i64 0, .int .i64 0, .int .i64 0] 25)) g5 HB5.out.size (Nat.le_trans HB5.out.size (belowA w5 (.cells #[.int .i64 0, .int .i64 0, .int .i64 0, .int .i64 0, .int .i64 0, .int .i64 0, .int .i64 0, .int .i64 0, .int .i64 0, .int .i64 0, .int .i64 0, .int .i64 0, .int .i64 0, .int .i64 0, .int .i64 0] 25)).size)); have R6 := hid (row_grownI (R5.out.mono (belowA w5 (.cells #[.int .i64 0, .int .i64 0, .int .i64 0, .int .i64 0, .int .i64 0, .int .i64 0, .int .i64 0, .int .i64 0, .int .i64 0, .int .i64 0, .int .i64 0, .int .i64 0, .int .i64 0, .int .i64 0, .int .i64 0] 25))) g5 (row_blkI R5.out)); clear k5 g5)
              | (with_reducible refine wpl_loadI rfl _ rfl w5.heap.size rfl kz J5.out ?_))
            refine (HPZ.out v5).mono ?_
            rintro e w7 ⟨a7, c7, rfl, o7, b7⟩
            have HB7 := hid (kept_trans HB6.out b7)
            have R7 := hid o7.row
            have RZ7 := hid (rowB_take (R6.out.mono b7) 64)
            clear b7 o7
            have hcap4 : zs.length ≤ c4 := R4.out.2.1
            have hc4 : 64 ≤ c4 := Nat.le_trans hz64 hcap4
            have hc4i : (64 : Int) ≤ (c4 : Int) := by omega
            have hz64i : ¬ ((zs.length : Int) < 64) := by omega
            have HSm := hid (HSame.out a7 a4 c7 c4 w7 R7.out RZ7.out)
            go_wp2_with fail
            refine HSm.out.mono ?_
            rintro e w8 ⟨rfl, b8⟩
            have HB8 := hid (kept_trans HB7.out b8)
            clear b8
            go_wp2_with (go_at_call 13; refine (lives11_any _).mono ?_; rintro e w9' ⟨rfl, b9⟩; have HB9 := hid (kept_trans HB8.out b9); clear b9)
            go_ret
            exact ⟨rfl, HB9.out⟩
    exact go2 _ rfl
  by_cases h : 100 < xs.length
  · exact go 100 true (by simp; omega) (by simp; omega) (by simp) (fun _ => ⟨rfl, by omega⟩)
  · exact go xs.length false (by simp; omega) (by simp; omega) (fun _ => rfl) (by simp)

end Go.Proofs.Ytnmblbkbiehodaa
