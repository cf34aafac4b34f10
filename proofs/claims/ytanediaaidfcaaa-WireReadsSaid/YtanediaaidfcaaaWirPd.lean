/- wire.Put. -/
import Derived.Test.YtanediaaidfcaaaWirPc
import Derived.Test.YtanediaaidfcaaaWirPt
import Derived.Test.YtanediaaidfcaaaWirX
namespace Go.Proofs.Ytanediaaidfcaaa
open Go.RowKit
set_option linter.unusedSimpArgs false
set_option linter.unusedVariables false

theorem dP_of {P : PkM} (hP : smallP P) {e : List UInt8} (h : encP P = some e) : dP e = backP P ∧ dE e = 0 := by
  unfold dP dE; rw [dec_of_enc hP h]; exact ⟨rfl, rfl⟩
set_option maxRecDepth 100000 in
set_option maxHeartbeats 2000000 in
theorem wirePut_any {w : World} {P : PkM} {a : Option Addr} {c : Nat} (hP : smallP P) (hS : shortP P) (hN : ∀ s ∈ P.N, s.length ≤ 200) (hn9 : P.N.length ≤ 100) (ha : Row w 1 a P.N.length c (P.N.map strV)) :
    Calls Try.prog 10 #[.agg (pkC P a P.N.length c).toArray] w fun e w' => ∃ ba bc, e = .returned (.tuple #[.slice ba (putB P).length bc, .int .i64 (putE P)]) ∧ OwnB w' w.heap.size ba bc (putB P) ∧ Below w.heap.size w w' := by
  have henc := packetP_enc P hP
  have hdp := fun e (h : encP P = some e) => dP_of hP h
  have HPK := hid (fun (W : World) (g B pk nc : Nat) (h : WrP W g B pk P a P.N.length nc ⟨[], false⟩) o => packetP_any h o (by show 0 ≤ 900; omega))
  obtain ⟨m, hm⟩ : ∃ m, m = packetP ⟨[], false⟩ P := ⟨_, rfl⟩
  rw [← hm] at henc HPK
  clear hm
  obtain ⟨mb, mno⟩ := m
  simp only at henc
  have HA := hid ha
  have hrow : 0 < P.N.length → ∀ b, (∃ off, a = some ⟨b, off, none⟩) → b < w.heap.size := fun hn b hb => by
    obtain ⟨off, e⟩ := hb
    obtain ⟨b', off', e', hlt, _⟩ := ha.at hn
    rw [e] at e'; cases e'; exact hlt
  have HROW := hid hrow
  clear ha hrow
  have t1 : True := trivial
  have t2 : True := trivial
  cases mno with
  | true =>
    have e0 : putW P = none := by unfold putW; rw [henc.2 rfl]
    have e1 : putB P = [] := by unfold putB; rw [e0]; rfl
    have e2 : putE P = 1 := by unfold putE; rw [e0]; rfl
    rw [e1, e2]
    clear e0 e1 e2 henc hdp
    go_enter Try.func10, Try.ntmps10
    go_wp2_with (have _t := t1; (with_reducible refine wpl_boxT rfl 35 _ rfl (pkC P a P.N.length c) rfl ?_); clear t1; intro w1 k1 b1 s1; have K1 := hid k1; have B1 := hid b1; clear k1 b1)
    obtain ⟨w2, hw2⟩ : ∃ w2, w2 = w1.alloc (.cells #[.bool true, .slice none 0 0, .int .i64 0, .bool false] 52) := ⟨_, rfl⟩
    rw [← hw2]
    have s2 : w2.heap.size = w.heap.size + 2 := by rw [hw2]; simp; omega
    have kc : Blk w2 (w.heap.size + 1) 52 [.bool true, .slice none 0 0, .int .i64 0, .bool false] := by rw [hw2, ← s1]; exact blk_newO rfl _ _
    have bw : Below w.heap.size w w2 := by rw [hw2]; exact kept_alloc B1.out _
    have kp : Blk w2 w.heap.size 35 (pkC P a P.N.length c) := by rw [hw2]; exact K1.out.mono (albO w1 _)
    clear hw2
    refine (HPK.out w2 (w.heap.size + 1) w2.heap.size w.heap.size c ⟨⟨none, 0, kc, Own.nil _ _ _ _⟩, Nat.le_refl _, kp, by omega, by show 0 ≤ 100000; omega⟩ ⟨hP, hS, hN, hn9, HA.out.mono bw, fun hn b hb => by have := HROW.out hn b hb; omega⟩).mono ?_
    rintro e w3 ⟨rfl, ⟨⟨ca, cc, hcb, hco⟩, _, _, _, _⟩, t3⟩
    have x3 := hcb.cell (i := 3) (by simp)
    simp only [List.getElem_cons_zero, List.getElem_cons_succ] at x3
    have B3 := hid (bw.trans (t3.below (by omega) (fun x hx => by rcases hx with e | e | e <;> omega)))
    clear kc bw kp hcb hco t3
    go_wp2_with fail
    go_ret2
    exact ⟨none, 0, rfl, Own.nil _ _ _ _, B3.out⟩
  | false =>
    have he := henc.1 rfl
    obtain ⟨hd1, hd2⟩ := hdp mb he
    have e0 : putW P = if eqPk P (backP P) = true then some (putF mb (crcF mb : Int) 4) else none := by unfold putW; rw [he]
    have HDC := hid (fun (W : World) (ba : Option Addr) (bc : Nat) (r : RowB W ba bc mb) (hl : mb.length ≤ 1000000) => decode_any r hl)
    rw [hd1, hd2] at HDC
    have HEQ := hid (fun (W : World) (na : Option Addr) (nc : Nat) (ra : Row W 1 a P.N.length c (P.N.map strV)) (rb : Row W 1 na (backP P).N.length nc ((backP P).N.map strV)) => equalPk_any P (backP P) a na c nc W ra rb)
    clear henc hdp he hd1 hd2
    obtain ⟨Q, hQ⟩ : ∃ Q, Q = backP P := ⟨_, rfl⟩
    rw [← hQ] at HDC HEQ e0
    clear hQ
    cases hq : eqPk P Q with
    | false =>
      rw [hq] at HEQ e0
      simp only [Bool.false_eq_true, if_false] at e0
      have e1 : putB P = [] := by unfold putB; rw [e0]; rfl
      have e2 : putE P = 1 := by unfold putE; rw [e0]; rfl
      rw [e1, e2]
      clear e0 e1 e2 hq
      go_enter Try.func10, Try.ntmps10
      go_wp2_with (have _t := t1; (with_reducible refine wpl_boxT rfl 35 _ rfl (pkC P a P.N.length c) rfl ?_); clear t1; intro w1 k1 b1 s1; have K1 := hid k1; have B1 := hid b1; clear k1 b1)
      obtain ⟨w2, hw2⟩ : ∃ w2, w2 = w1.alloc (.cells #[.bool true, .slice none 0 0, .int .i64 0, .bool false] 52) := ⟨_, rfl⟩
      rw [← hw2]
      have s2 : w2.heap.size = w.heap.size + 2 := by rw [hw2]; simp; omega
      have kc : Blk w2 (w.heap.size + 1) 52 [.bool true, .slice none 0 0, .int .i64 0, .bool false] := by rw [hw2, ← s1]; exact blk_newO rfl _ _
      have bw : Below w.heap.size w w2 := by rw [hw2]; exact kept_alloc B1.out _
      have kp : Blk w2 w.heap.size 35 (pkC P a P.N.length c) := by rw [hw2]; exact K1.out.mono (albO w1 _)
      clear hw2
      refine (HPK.out w2 (w.heap.size + 1) w2.heap.size w.heap.size c ⟨⟨none, 0, kc, Own.nil _ _ _ _⟩, Nat.le_refl _, kp, by omega, by show 0 ≤ 100000; omega⟩ ⟨hP, hS, hN, hn9, HA.out.mono bw, fun hn b hb => by have := HROW.out hn b hb; omega⟩).mono ?_
      rintro e w3 ⟨rfl, ⟨⟨ca, cc, hcb, hco⟩, hB3, hp3, _, hl3⟩, t3⟩
      have x3 := hcb.cell (i := 3) (by simp)
      have x1 := hcb.cell (i := 1) (by simp)
      simp only [List.getElem_cons_zero, List.getElem_cons_succ] at x3 x1
      have hl3' : mb.length ≤ 100000 := hl3
      have B3 := hid (bw.trans (t3.below (by omega) (fun x hx => by rcases hx with e | e | e <;> omega)))
      have HCO := hid hco; have KP3 := hid hp3
      clear kc bw kp hcb hco t3 hp3 hl3
      go_wp2_with fail
      refine (HDC.out w3 ca cc HCO.out.row (by omega)).mono ?_
      rintro e w4 ⟨na, nc, rfl, ho4, b4⟩
      have B4 := hid (kept_trans B3.out b4); have KP4 := hid (KP3.out.mono b4); have HO4 := hid ho4
      clear b4 ho4 x3 x1
      go_wp2_with (first
        | (have _t := t2; (with_reducible refine wpl_allocPk rfl rfl ?_); clear t2; intro w5 k5 b5 s5; have K5 := hid k5; have B5 := hid (kept_trans B4.out b5); have KP5 := hid (KP4.out.mono b5); have HO5 := hid (HO4.out.mono b5); have N5 := hid (Nat.ne_of_lt KP4.out.lt); clear k5 b5 s5)
        | ((with_reducible refine wpl_storePk rfl _ _ rfl w4.heap.size rfl Q na Q.N.length nc rfl K5.out rfl ?_); intro w6 k6 g6; have K6 := hid k6; have B6 := hid (below_grownS B5.out g6 B4.out.size B5.out.size); have KP6 := hid (KP5.out.grownS g6 N5.out); have HO6 := hid (own_setK HO5.out K5.out g6); clear k6 g6)
        | ((refine wpl_loadGM ?hw 35 _ rfl w.heap.size 0 rfl (pkC P a P.N.length c) KP6.out.range Try.underlying35 rfl (by rw [infoPk]; rfl) ?_); (case hw => exact (Eq.refl true)))
        | ((refine wpl_loadGM ?hw 35 _ rfl w4.heap.size 0 rfl (pkC Q na Q.N.length nc) K6.out.range Try.underlying35 rfl (by rw [infoPk]; rfl) ?_); (case hw => exact (Eq.refl true)))
        | (go_at_call 20; refine (HEQ.out w6 na nc (HA.out.mono B6.out) HO6.out.row).mono ?_; rintro e w7 ⟨rfl, b7⟩; have B7 := hid (kept_trans B6.out b7); clear b7))
      go_ret2
      exact ⟨none, 0, rfl, Own.nil _ _ _ _, B7.out⟩
    | true =>
      rw [hq] at HEQ e0
      simp only [if_true] at e0
      have e1 : putB P = putF mb (crcF mb : Int) 4 := by unfold putB; rw [e0, Option.getD_some]
      have e2 : putE P = 0 := by unfold putE; rw [e0]; rfl
      rw [e1, e2]
      have HSum := hid (fun (W : World) (ba : Option Addr) (bc : Nat) (r : RowB W ba bc mb) => sum_any ba bc mb W r)
      have hcl := crcF_lt mb
      have HPut := hid (fun (W : World) (ba : Option Addr) (bc : Nat) (r : RowB W ba bc mb) (hl : mb.length ≤ 70368744177664) => put_any ba bc mb (crcF mb : Int) 4 W r hl (by omega))
      generalize crcF mb = z at *
      generalize putF mb (z : Int) 4 = pb at *
      have ez : IntKind.i64.wrap (z : Int) = z := IntWalk.i64_in _ (by omega)
      clear e0 e1 e2 hq
      go_enter Try.func10, Try.ntmps10
      go_wp2_with (have _t := t1; (with_reducible refine wpl_boxT rfl 35 _ rfl (pkC P a P.N.length c) rfl ?_); clear t1; intro w1 k1 b1 s1; have K1 := hid k1; have B1 := hid b1; clear k1 b1)
      obtain ⟨w2, hw2⟩ : ∃ w2, w2 = w1.alloc (.cells #[.bool true, .slice none 0 0, .int .i64 0, .bool false] 52) := ⟨_, rfl⟩
      rw [← hw2]
      have s2 : w2.heap.size = w.heap.size + 2 := by rw [hw2]; simp; omega
      have kc : Blk w2 (w.heap.size + 1) 52 [.bool true, .slice none 0 0, .int .i64 0, .bool false] := by rw [hw2, ← s1]; exact blk_newO rfl _ _
      have bw : Below w.heap.size w w2 := by rw [hw2]; exact kept_alloc B1.out _
      have kp : Blk w2 w.heap.size 35 (pkC P a P.N.length c) := by rw [hw2]; exact K1.out.mono (albO w1 _)
      clear hw2
      refine (HPK.out w2 (w.heap.size + 1) w2.heap.size w.heap.size c ⟨⟨none, 0, kc, Own.nil _ _ _ _⟩, Nat.le_refl _, kp, by omega, by show 0 ≤ 100000; omega⟩ ⟨hP, hS, hN, hn9, HA.out.mono bw, fun hn b hb => by have := HROW.out hn b hb; omega⟩).mono ?_
      rintro e w3 ⟨rfl, ⟨⟨ca, cc, hcb, hco⟩, hB3, hp3, _, hl3⟩, t3⟩
      have x3 := hcb.cell (i := 3) (by simp)
      have x1 := hcb.cell (i := 1) (by simp)
      simp only [List.getElem_cons_zero, List.getElem_cons_succ] at x3 x1
      have hl3' : mb.length ≤ 100000 := hl3
      have B3 := hid (bw.trans (t3.below (by omega) (fun x hx => by rcases hx with e | e | e <;> omega)))
      have HCO := hid hco; have HCB := hid hcb; have KP3 := hid hp3
      clear kc bw kp hcb hco t3 hp3 hl3
      go_wp2_with fail
      refine (HDC.out w3 ca cc HCO.out.row (by omega)).mono ?_
      rintro e w4 ⟨na, nc, rfl, ho4, b4⟩
      have B4 := hid (kept_trans B3.out b4); have KP4 := hid (KP3.out.mono b4); have HO4 := hid ho4; have HCO4 := hid (HCO.out.mono b4); have HCB4 := hid (HCB.out.mono b4); have hng := Nat.ne_of_lt HCB4.out.lt
      clear b4 ho4 x3 x1
      go_wp2_with (first
        | (have _t := t2; (with_reducible refine wpl_allocPk rfl rfl ?_); clear t2; intro w5 k5 b5 s5; have K5 := hid k5; have B5 := hid (kept_trans B4.out b5); have KP5 := hid (KP4.out.mono b5); have HO5 := hid (HO4.out.mono b5); have HCO5 := hid (HCO4.out.mono b5); have HCB5 := hid (HCB4.out.mono b5); have N5 := hid (Nat.ne_of_lt KP4.out.lt); clear k5 b5 s5)
        | ((with_reducible refine wpl_storePk rfl _ _ rfl w4.heap.size rfl Q na Q.N.length nc rfl K5.out rfl ?_); intro w6 k6 g6; have K6 := hid k6; have B6 := hid (below_grownS B5.out g6 B4.out.size B5.out.size); have KP6 := hid (KP5.out.grownS g6 N5.out); have HO6 := hid (own_setK HO5.out K5.out g6); have HCO6 := hid (own_setK HCO5.out K5.out g6); have HCB6 := hid (HCB5.out.grownS g6 hng); clear k6 g6)
        | ((refine wpl_loadGM ?hw 35 _ rfl w.heap.size 0 rfl (pkC P a P.N.length c) KP6.out.range Try.underlying35 rfl (by rw [infoPk]; rfl) ?_); (case hw => exact (Eq.refl true)))
        | ((refine wpl_loadGM ?hw 35 _ rfl w4.heap.size 0 rfl (pkC Q na Q.N.length nc) K6.out.range Try.underlying35 rfl (by rw [infoPk]; rfl) ?_); (case hw => exact (Eq.refl true)))
        | (go_at_call 20; refine (HEQ.out w6 na nc (HA.out.mono B6.out) HO6.out.row).mono ?_; rintro e w7 ⟨rfl, b7⟩; have B7 := hid (kept_trans B6.out b7); have HCO7 := hid (HCO6.out.mono b7); have HCB7 := hid (HCB6.out.mono b7); have z1 := HCB7.out.cell (i := 1) (by simp); simp only [List.getElem_cons_zero, List.getElem_cons_succ] at z1; clear b7))
      go_region_with (first
        | (go_at_call 22; refine (HSum.out _ ca cc (HCO7.out.mono (bel_drewN (Below.refl _ _) 1)).row).mono ?_; rintro e w8 ⟨rfl, b8⟩; have B8 := hid (kept_trans (kept_trans B7.out (bel_drewN (Below.refl _ _) 1)) b8); have HCO8 := hid ((HCO7.out.mono (bel_drewN (Below.refl _ _) 1)).mono b8); have z8 := ((HCB7.out.mono (bel_drewN (Below.refl _ _) 1)).mono b8).cell (i := 1) (by simp); simp only [List.getElem_cons_zero, List.getElem_cons_succ] at z8; clear b8)
        | (go_at_call 21; refine (HPut.out _ ca cc HCO8.out.row (by omega)).mono ?_; rintro e w9 ⟨a9, c9, rfl, o9, b9⟩; have B9 := hid (kept_trans B8.out b9); have O9 := hid (o9.low B8.out.size); clear o9 b9))
      all_goals
        go_wp2_with fail
        go_ret2
        exact ⟨a9, c9, rfl, O9.out, B9.out⟩
end Go.Proofs.Ytanediaaidfcaaa
