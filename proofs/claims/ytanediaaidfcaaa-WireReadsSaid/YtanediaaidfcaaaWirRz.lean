/- WireReads: any bytes are read as the document reads them. (genWirReads.py) -/
import Derived.Test.YtanediaaidfcaaaWirRy
import Derived.Test.YtanediaaidfcaaaWirLb
namespace Go.Proofs.Ytanediaaidfcaaa
open Go.RowKit
set_option linter.unusedSimpArgs false
set_option linter.unusedVariables false

set_option maxRecDepth 100000 in
set_option maxHeartbeats 8000000 in
theorem WireReads_l (w : World) (xa : Option Addr) (xc : Nat) (xs ys : List UInt8) (hx : RowB w xa xc xs) (hc : 400 < xs.length) (hy : ys = xs.take 400) :
    Calls Try.prog 4 #[.slice xa xs.length xc] w fun e w' => e = .returned (.bool true) ∧ Below w.heap.size w w' := by
  obtain ⟨rb, roff, rfl, _⟩ := hx.bytes (by omega)
  have lys : ys.length = 400 := by rw [hy, List.length_take]; omega
  have ry : RowB w (some ⟨rb, roff, none⟩) xc ys := by rw [hy]; exact rowB_take hx 400
  have hcap : (400 : Nat) ≤ xc := by have := hx.2.1; omega
  have hcap' : ¬ ((xc : Int) < 400) := by omega
  have hc' : (400 : Int) < (xs.length : Int) := by omega
  have hlen : ys.length ≤ 400 := by omega
  have HY := hid ry
  have HRead := hid (fun (W : World) (na : Option Addr) (nc : Nat) (r : RowB W na nc ys) => wireRead_any r (by omega))
  have HRef := hid (fun (W : World) (na : Option Addr) (nc : Nat) (r : RowB W na nc ys) => read07_any r (by omega))
  have HSeal := hid (fun (W : World) (sa : Option Addr) (sc : Nat) (r : RowB W sa sc ys) => sealed07_any sa sc ys W r (by omega))
  rw [putF4] at HSeal
  have hsl : (ys ++ le 4 (crcF ys)).length ≤ 404 := by rw [List.length_append, le_length]; omega
  have HRd2 := hid (fun (W : World) (na : Option Addr) (nc : Nat) (r : RowB W na nc (ys ++ le 4 (crcF ys))) => wireRead_any r (by omega))
  have HRf2 := hid (fun (W : World) (na : Option Addr) (nc : Nat) (r : RowB W na nc (ys ++ le 4 (crcF ys))) => read07_any r (by omega))
  rw [lys] at HRead HRef HSeal
  clear hy hx ry
  generalize rwP ys = D at *
  generalize rwE ys = DE at *
  generalize ys ++ le 4 (crcF ys) = sb at *
  generalize rwP sb = E at *
  generalize rwE sb = EE at *
  have HEqD : Hid (∀ (a b : Option Addr) (c d : Nat) (W : World), Row W 1 a D.N.length c (D.N.map strV) → Row W 1 b D.N.length d (D.N.map strV) → Calls Try.prog 16 #[.agg (pkC D a D.N.length c).toArray, .agg (pkC D b D.N.length d).toArray] W fun e w' => e = .returned (.bool true) ∧ Below W.heap.size W w') := hid (fun a b c d W r1 r2 => by have h := samePk_any D D a b c d W r1 r2; rwa [(eqPk_iff D D).2 (SameP.refl D)] at h)
  have HEqE : Hid (∀ (a b : Option Addr) (c d : Nat) (W : World), Row W 1 a E.N.length c (E.N.map strV) → Row W 1 b E.N.length d (E.N.map strV) → Calls Try.prog 16 #[.agg (pkC E a E.N.length c).toArray, .agg (pkC E b E.N.length d).toArray] W fun e w' => e = .returned (.bool true) ∧ Below W.heap.size W w') := hid (fun a b c d W r1 r2 => by have h := samePk_any E E a b c d W r1 r2; rwa [(eqPk_iff E E).2 (SameP.refl E)] at h)
  have hsb := hid hsl
  clear hsl
  have t1 : True := trivial
  have t2 : True := trivial
  have t3 : True := trivial
  have t4 : True := trivial
  have t5 : True := trivial
  have t6 : True := trivial
  have t7 : True := trivial
  have t8 : True := trivial
  have t9 : True := trivial
  have t10 : True := trivial
  go_enter Try.func4, Try.ntmps4
  go_wp2_with fail
  refine (HRead.out w _ _ HY.out).mono ?_
  rintro e w1 ⟨na, nc, rfl, hp⟩
  have B1 := hid hp.2; have O1 := hid hp.1
  clear hp
  go_wp2_with (first
    | (have _t := t1; (with_reducible refine wpl_allocPk rfl rfl ?_); clear t1; intro w2 k2 b2 s2; have K2 := hid k2; have B2 := hid (kept_trans B1.out b2); have O2 := hid (O1.out.mono b2); clear k2 b2 s2)
    | (have _t := t2; (with_reducible refine wpl_storePk rfl _ _ rfl w1.heap.size rfl D na D.N.length nc rfl K2.out rfl ?_); clear t2; intro w3 k3 g3; have K3 := hid k3; have B3 := hid (below_grownS B2.out g3 B1.out.size B2.out.size); have O3 := hid (own_setK O2.out K2.out g3); clear k3 g3))
  refine (HRef.out w3 _ _ (HY.out.mono B3.out)).mono ?_
  rintro e w4 ⟨ma, mc, rfl, hp⟩
  have B4 := hid (kept_trans B3.out hp.2); have O4 := hid (O3.out.mono hp.2); have K4 := hid (K3.out.mono hp.2); have V4 := hid hp.1
  clear hp
  go_wp2_with (first
    | (have _t := t3; (with_reducible refine wpl_allocPk rfl rfl ?_); clear t3; intro w5 k5 b5 s5; have K5 := hid (K4.out.mono b5); have L5 := hid k5; have B5 := hid (kept_trans B4.out b5); have O5 := hid (O4.out.mono b5); have V5 := hid (V4.out.mono b5); have hne := hid (Nat.ne_of_lt K4.out.lt); have hle := hid B4.out.size; clear k5 b5 s5)
    | (have _t := t4; (with_reducible refine wpl_storePk rfl _ _ rfl w4.heap.size rfl D ma D.N.length mc rfl L5.out rfl ?_); clear t4; intro w6 k6 g6; have L6 := hid k6; have K6 := hid (K5.out.grownS g6 hne.out); have B6 := hid (below_grownS B5.out g6 hle.out B5.out.size); have O6 := hid (own_setK O5.out L5.out g6); have V6 := hid (own_setK V5.out L5.out g6); clear k6 g6)
    | (with_reducible refine wpl_loadPk rfl _ rfl w1.heap.size rfl K6.out ?_)
    | (with_reducible refine wpl_loadPk rfl _ rfl w4.heap.size rfl L6.out ?_))
  refine (HEqD.out na ma nc mc w6 O6.out.row V6.out.row).mono ?_
  rintro e w7 ⟨rfl, b7⟩
  have B7 := hid (kept_trans B6.out b7)
  clear b7
  go_wp2_with fail
  refine (HSeal.out w7 _ _ (HY.out.mono B7.out)).mono ?_
  rintro e w8 ⟨sa, sc, rfl, ho, b8⟩
  have B8 := hid (kept_trans B7.out b8); have S8 := hid ho
  clear ho b8
  go_wp2_with fail
  refine (HRd2.out w8 sa sc S8.out.row).mono ?_
  rintro e w9 ⟨pa, pc, rfl, hp⟩
  have B9 := hid (kept_trans B8.out hp.2); have S9 := hid (S8.out.mono hp.2); have O9 := hid hp.1
  clear hp
  go_wp2_with (first
    | (have _t := t5; (with_reducible refine wpl_allocPk rfl rfl ?_); clear t5; intro w10 k10 b10 s10; have K10 := hid k10; have B10 := hid (kept_trans B9.out b10); have S10 := hid (S9.out.mono b10); have O10 := hid (O9.out.mono b10); have hle9 := hid B9.out.size; clear k10 b10 s10)
    | (have _t := t6; (with_reducible refine wpl_storePk rfl _ _ rfl w9.heap.size rfl E pa E.N.length pc rfl K10.out rfl ?_); clear t6; intro w11 k11 g11; have K11 := hid k11; have B11 := hid (below_grownS B10.out g11 hle9.out B10.out.size); have S11 := hid (own_setK S10.out K10.out g11); have O11 := hid (own_setK O10.out K10.out g11); clear k11 g11))
  refine (HRf2.out w11 sa sc S11.out.row).mono ?_
  rintro e w12 ⟨qa, qc, rfl, hp⟩
  have B12 := hid (kept_trans B11.out hp.2); have O12 := hid (O11.out.mono hp.2); have K12 := hid (K11.out.mono hp.2); have V12 := hid hp.1
  clear hp
  go_wp2_with (first
    | (have _t := t7; (with_reducible refine wpl_allocPk rfl rfl ?_); clear t7; intro w13 k13 b13 s13; have K13 := hid (K12.out.mono b13); have L13 := hid k13; have B13 := hid (kept_trans B12.out b13); have O13 := hid (O12.out.mono b13); have V13 := hid (V12.out.mono b13); have hne2 := hid (Nat.ne_of_lt K12.out.lt); have hle2 := hid B12.out.size; clear k13 b13 s13)
    | (have _t := t8; (with_reducible refine wpl_storePk rfl _ _ rfl w12.heap.size rfl E qa E.N.length qc rfl L13.out rfl ?_); clear t8; intro w14 k14 g14; have L14 := hid k14; have K14 := hid (K13.out.grownS g14 hne2.out); have B14 := hid (below_grownS B13.out g14 hle2.out B13.out.size); have O14 := hid (own_setK O13.out L13.out g14); have V14 := hid (own_setK V13.out L13.out g14); clear k14 g14)
    | (with_reducible refine wpl_loadPk rfl _ rfl w9.heap.size rfl K14.out ?_)
    | (with_reducible refine wpl_loadPk rfl _ rfl w12.heap.size rfl L14.out ?_))
  refine (HEqE.out pa qa pc qc w14 O14.out.row V14.out.row).mono ?_
  rintro e w15 ⟨rfl, b15⟩
  have B15 := hid (kept_trans B14.out b15)
  clear b15
  have ed : ((DE : Int) == DE) = true := by simp
  have ee : ((EE : Int) == EE) = true := by simp
  go_wp2_with fail
  refine (lives07_any w15).mono ?_
  rintro e w16 ⟨rfl, b16⟩
  have B16 := hid (kept_trans B15.out b16)
  clear b16
  go_wp2_with fail
  go_ret
  exact ⟨rfl, B16.out⟩

set_option maxRecDepth 100000 in
set_option maxHeartbeats 8000000 in
theorem WireReads_s (w : World) (xa : Option Addr) (xc : Nat) (xs ys : List UInt8) (hx : RowB w xa xc xs) (hc : ¬ 400 < xs.length) (hy : ys = xs) :
    Calls Try.prog 4 #[.slice xa xs.length xc] w fun e w' => e = .returned (.bool true) ∧ Below w.heap.size w w' := by
  subst hy
  have ry := hx
  have hc' : ¬ ((400 : Int) < (ys.length : Int)) := by omega
  have hcd : decide ((400 : Int) < (ys.length : Int)) = false := decide_eq_false hc'
  have hlen : ys.length ≤ 400 := by omega
  have HY := hid ry
  have HRead := hid (fun (W : World) (na : Option Addr) (nc : Nat) (r : RowB W na nc ys) => wireRead_any r (by omega))
  have HRef := hid (fun (W : World) (na : Option Addr) (nc : Nat) (r : RowB W na nc ys) => read07_any r (by omega))
  have HSeal := hid (fun (W : World) (sa : Option Addr) (sc : Nat) (r : RowB W sa sc ys) => sealed07_any sa sc ys W r (by omega))
  rw [putF4] at HSeal
  have hsl : (ys ++ le 4 (crcF ys)).length ≤ 404 := by rw [List.length_append, le_length]; omega
  have HRd2 := hid (fun (W : World) (na : Option Addr) (nc : Nat) (r : RowB W na nc (ys ++ le 4 (crcF ys))) => wireRead_any r (by omega))
  have HRf2 := hid (fun (W : World) (na : Option Addr) (nc : Nat) (r : RowB W na nc (ys ++ le 4 (crcF ys))) => read07_any r (by omega))
  clear hx ry
  generalize rwP ys = D at *
  generalize rwE ys = DE at *
  generalize ys ++ le 4 (crcF ys) = sb at *
  generalize rwP sb = E at *
  generalize rwE sb = EE at *
  have HEqD : Hid (∀ (a b : Option Addr) (c d : Nat) (W : World), Row W 1 a D.N.length c (D.N.map strV) → Row W 1 b D.N.length d (D.N.map strV) → Calls Try.prog 16 #[.agg (pkC D a D.N.length c).toArray, .agg (pkC D b D.N.length d).toArray] W fun e w' => e = .returned (.bool true) ∧ Below W.heap.size W w') := hid (fun a b c d W r1 r2 => by have h := samePk_any D D a b c d W r1 r2; rwa [(eqPk_iff D D).2 (SameP.refl D)] at h)
  have HEqE : Hid (∀ (a b : Option Addr) (c d : Nat) (W : World), Row W 1 a E.N.length c (E.N.map strV) → Row W 1 b E.N.length d (E.N.map strV) → Calls Try.prog 16 #[.agg (pkC E a E.N.length c).toArray, .agg (pkC E b E.N.length d).toArray] W fun e w' => e = .returned (.bool true) ∧ Below W.heap.size W w') := hid (fun a b c d W r1 r2 => by have h := samePk_any E E a b c d W r1 r2; rwa [(eqPk_iff E E).2 (SameP.refl E)] at h)
  have hsb := hid hsl
  clear hsl
  have t1 : True := trivial
  have t2 : True := trivial
  have t3 : True := trivial
  have t4 : True := trivial
  have t5 : True := trivial
  have t6 : True := trivial
  have t7 : True := trivial
  have t8 : True := trivial
  have t9 : True := trivial
  have t10 : True := trivial
  go_enter Try.func4, Try.ntmps4
  go_wp2_with fail
  refine (HRead.out w _ _ HY.out).mono ?_
  rintro e w1 ⟨na, nc, rfl, hp⟩
  have B1 := hid hp.2; have O1 := hid hp.1
  clear hp
  go_wp2_with (first
    | (have _t := t1; (with_reducible refine wpl_allocPk rfl rfl ?_); clear t1; intro w2 k2 b2 s2; have K2 := hid k2; have B2 := hid (kept_trans B1.out b2); have O2 := hid (O1.out.mono b2); clear k2 b2 s2)
    | (have _t := t2; (with_reducible refine wpl_storePk rfl _ _ rfl w1.heap.size rfl D na D.N.length nc rfl K2.out rfl ?_); clear t2; intro w3 k3 g3; have K3 := hid k3; have B3 := hid (below_grownS B2.out g3 B1.out.size B2.out.size); have O3 := hid (own_setK O2.out K2.out g3); clear k3 g3))
  refine (HRef.out w3 _ _ (HY.out.mono B3.out)).mono ?_
  rintro e w4 ⟨ma, mc, rfl, hp⟩
  have B4 := hid (kept_trans B3.out hp.2); have O4 := hid (O3.out.mono hp.2); have K4 := hid (K3.out.mono hp.2); have V4 := hid hp.1
  clear hp
  go_wp2_with (first
    | (have _t := t3; (with_reducible refine wpl_allocPk rfl rfl ?_); clear t3; intro w5 k5 b5 s5; have K5 := hid (K4.out.mono b5); have L5 := hid k5; have B5 := hid (kept_trans B4.out b5); have O5 := hid (O4.out.mono b5); have V5 := hid (V4.out.mono b5); have hne := hid (Nat.ne_of_lt K4.out.lt); have hle := hid B4.out.size; clear k5 b5 s5)
    | (have _t := t4; (with_reducible refine wpl_storePk rfl _ _ rfl w4.heap.size rfl D ma D.N.length mc rfl L5.out rfl ?_); clear t4; intro w6 k6 g6; have L6 := hid k6; have K6 := hid (K5.out.grownS g6 hne.out); have B6 := hid (below_grownS B5.out g6 hle.out B5.out.size); have O6 := hid (own_setK O5.out L5.out g6); have V6 := hid (own_setK V5.out L5.out g6); clear k6 g6)
    | (with_reducible refine wpl_loadPk rfl _ rfl w1.heap.size rfl K6.out ?_)
    | (with_reducible refine wpl_loadPk rfl _ rfl w4.heap.size rfl L6.out ?_))
  refine (HEqD.out na ma nc mc w6 O6.out.row V6.out.row).mono ?_
  rintro e w7 ⟨rfl, b7⟩
  have B7 := hid (kept_trans B6.out b7)
  clear b7
  go_wp2_with fail
  refine (HSeal.out w7 _ _ (HY.out.mono B7.out)).mono ?_
  rintro e w8 ⟨sa, sc, rfl, ho, b8⟩
  have B8 := hid (kept_trans B7.out b8); have S8 := hid ho
  clear ho b8
  go_wp2_with fail
  refine (HRd2.out w8 sa sc S8.out.row).mono ?_
  rintro e w9 ⟨pa, pc, rfl, hp⟩
  have B9 := hid (kept_trans B8.out hp.2); have S9 := hid (S8.out.mono hp.2); have O9 := hid hp.1
  clear hp
  go_wp2_with (first
    | (have _t := t5; (with_reducible refine wpl_allocPk rfl rfl ?_); clear t5; intro w10 k10 b10 s10; have K10 := hid k10; have B10 := hid (kept_trans B9.out b10); have S10 := hid (S9.out.mono b10); have O10 := hid (O9.out.mono b10); have hle9 := hid B9.out.size; clear k10 b10 s10)
    | (have _t := t6; (with_reducible refine wpl_storePk rfl _ _ rfl w9.heap.size rfl E pa E.N.length pc rfl K10.out rfl ?_); clear t6; intro w11 k11 g11; have K11 := hid k11; have B11 := hid (below_grownS B10.out g11 hle9.out B10.out.size); have S11 := hid (own_setK S10.out K10.out g11); have O11 := hid (own_setK O10.out K10.out g11); clear k11 g11))
  refine (HRf2.out w11 sa sc S11.out.row).mono ?_
  rintro e w12 ⟨qa, qc, rfl, hp⟩
  have B12 := hid (kept_trans B11.out hp.2); have O12 := hid (O11.out.mono hp.2); have K12 := hid (K11.out.mono hp.2); have V12 := hid hp.1
  clear hp
  go_wp2_with (first
    | (have _t := t7; (with_reducible refine wpl_allocPk rfl rfl ?_); clear t7; intro w13 k13 b13 s13; have K13 := hid (K12.out.mono b13); have L13 := hid k13; have B13 := hid (kept_trans B12.out b13); have O13 := hid (O12.out.mono b13); have V13 := hid (V12.out.mono b13); have hne2 := hid (Nat.ne_of_lt K12.out.lt); have hle2 := hid B12.out.size; clear k13 b13 s13)
    | (have _t := t8; (with_reducible refine wpl_storePk rfl _ _ rfl w12.heap.size rfl E qa E.N.length qc rfl L13.out rfl ?_); clear t8; intro w14 k14 g14; have L14 := hid k14; have K14 := hid (K13.out.grownS g14 hne2.out); have B14 := hid (below_grownS B13.out g14 hle2.out B13.out.size); have O14 := hid (own_setK O13.out L13.out g14); have V14 := hid (own_setK V13.out L13.out g14); clear k14 g14)
    | (with_reducible refine wpl_loadPk rfl _ rfl w9.heap.size rfl K14.out ?_)
    | (with_reducible refine wpl_loadPk rfl _ rfl w12.heap.size rfl L14.out ?_))
  refine (HEqE.out pa qa pc qc w14 O14.out.row V14.out.row).mono ?_
  rintro e w15 ⟨rfl, b15⟩
  have B15 := hid (kept_trans B14.out b15)
  clear b15
  have ed : ((DE : Int) == DE) = true := by simp
  have ee : ((EE : Int) == EE) = true := by simp
  go_wp2_with fail
  refine (lives07_any w15).mono ?_
  rintro e w16 ⟨rfl, b16⟩
  have B16 := hid (kept_trans B15.out b16)
  clear b16
  go_wp2_with fail
  go_ret
  exact ⟨rfl, B16.out⟩

theorem WireReads_walk (w : World) (xa : Option Addr) (xc : Nat) (xs : List UInt8) (hx : RowB w xa xc xs) :
    Calls Try.prog 4 #[.slice xa xs.length xc] w fun e w' => e = .returned (.bool true) ∧ Below w.heap.size w w' := by
  by_cases hc : 400 < xs.length
  · exact WireReads_l w xa xc xs _ hx hc rfl
  · exact WireReads_s w xa xc xs _ hx hc rfl
end Go.Proofs.Ytanediaaidfcaaa
