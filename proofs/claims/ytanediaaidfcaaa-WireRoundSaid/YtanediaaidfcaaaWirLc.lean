/- What is put is read, and what is read is put as just those bytes. (genWirRound.py) -/
import Derived.Test.YtanediaaidfcaaaWirRt
namespace Go.Proofs.Ytanediaaidfcaaa
open Go.RowKit
set_option linter.unusedSimpArgs false
set_option linter.unusedVariables false

set_option maxRecDepth 100000 in
set_option maxHeartbeats 8000000 in
theorem WireRound_l00 (w : World) (P : PkM) (a : Option Addr) (c : Nat) (hP : smallP P) (ha : Row w 1 a P.N.length c (P.N.map strV)) (xa : Option Addr) (xc : Nat) (xs ys : List UInt8) (hx : RowB w xa xc xs) (hc : 400 < xs.length) (hy : ys = xs.take 400) (h1 : putE (fewP P) = 0) (h2 : dE ys = 0) :
    Calls Try.prog 5 #[.agg (pkC P a P.N.length c).toArray, .slice xa xs.length xc] w fun e w' => e = .returned (.bool true) ∧ Below w.heap.size w w' := by
  obtain ⟨rb, roff, rfl, _⟩ := hx.bytes (by omega)
  have lys : ys.length = 400 := by rw [hy, List.length_take]; omega
  have ry : RowB w (some ⟨rb, roff, none⟩) xc ys := by rw [hy]; exact rowB_take hx 400
  have hcap : (400 : Nat) ≤ xc := by have := hx.2.1; omega
  have hcap' : ¬ ((xc : Int) < 400) := by omega
  have hc' : (400 : Int) < (xs.length : Int) := by omega
  have hlen : ys.length ≤ 400 := by omega
  have HY := hid ry
  have HF := hid (fun (W : World) (h : Below w.heap.size w W) => few_any P a c W (ha.mono h))
  have hm := few_may hP
  have HPut := hid (fun (W : World) (na : Option Addr) (nc : Nat) (r : Row W 1 na (fewP P).N.length nc ((fewP P).N.map strV)) => wirePut_any hm.small hm.short hm.names hm.n9 r)
  have hbl := putB_len (fewP P)
  have HRead := hid (fun (W : World) (na : Option Addr) (nc : Nat) (r : RowB W na nc (putB (fewP P))) => wireRead_any r (by omega))
  have HEq := hid (fun (a b : Option Addr) (c d : Nat) (W : World) (r1 : Row W 1 a (fewP P).N.length c ((fewP P).N.map strV)) (r2 : Row W 1 b (rwP (putB (fewP P))).N.length d ((rwP (putB (fewP P))).N.map strV)) => samePk_any (fewP P) (rwP (putB (fewP P))) a b c d W r1 r2)
  obtain ⟨q1, q2⟩ := round1 hm.small h1
  rw [q1] at HEq
  rw [q2] at HRead
  clear q1 q2
  rw [h1] at HPut
  have hsm := dP_may ys
  obtain ⟨z1, z2⟩ := rw_seal ys
  have HSeal := hid (fun (W : World) (sa : Option Addr) (sc : Nat) (r : RowB W sa sc ys) => sealed07_any sa sc ys W r (by omega))
  rw [putF4] at HSeal
  rw [lys] at HSeal
  have hsl : (ys ++ le 4 (crcF ys)).length ≤ 404 := by rw [List.length_append, le_length]; omega
  have HRd2 := hid (fun (W : World) (na : Option Addr) (nc : Nat) (r : RowB W na nc (ys ++ le 4 (crcF ys))) => wireRead_any r (by omega))
  rw [z1, z2, h2] at HRd2
  have HPut2 := hid (fun (W : World) (na : Option Addr) (nc : Nat) (r : Row W 1 na (dP ys).N.length nc ((dP ys).N.map strV)) => wirePut_any hsm.small hsm.short hsm.names hsm.n9 r)
  obtain ⟨y1, y2⟩ := round2 h2
  rw [y1, y2] at HPut2
  clear y1 y2
  clear hy hx ry ha hm hsm z1 z2 h1 h2
  generalize dP ys = E at *
  generalize ys ++ le 4 (crcF ys) = sb at *
  generalize rwP (putB (fewP P)) = D at *
  generalize fewP P = R at *
  generalize putB R = pb at *
  have HSame : Hid (∀ (W : World) (a1 a2 : Option Addr) (c1 c2 : Nat), RowB W a1 c1 sb → RowB W a2 c2 sb → Calls Try.prog 12 #[.slice a1 sb.length c1, .slice a2 sb.length c2] W fun e w' => e = .returned (.bool true) ∧ Below W.heap.size W w') := hid (fun W a1 a2 c1 c2 r1 r2 => by
    have h := same_any a1 a2 c1 c2 sb sb W r1 r2 (by omega) (by omega)
    rwa [decide_eq_true rfl] at h)
  have hpb := hid hbl
  have hsb := hid hsl
  clear hbl hsl
  have t1 : True := trivial
  have t2 : True := trivial
  have t3 : True := trivial
  have t4 : True := trivial
  have t5 : True := trivial
  have t6 : True := trivial
  have t7 : True := trivial
  have t8 : True := trivial
  have t9 : True := trivial
  have t10 : True := trivial
  have t11 : True := trivial
  have t12 : True := trivial
  go_enter Try.func5, Try.ntmps5
  go_wp2_with (first
    | (have _t := t1; (with_reducible refine wpl_boxT rfl 35 _ rfl (pkC P a P.N.length c) rfl ?_); clear t1; intro w1 k1 b1 s1; have K1 := hid k1; have B1 := hid b1; clear k1 b1 s1)
    | (have _t := t2; (with_reducible refine wpl_loadPk rfl _ rfl w.heap.size rfl K1.out ?_); clear t2))
  refine (HF.out w1 B1.out).mono ?_
  rintro e w2 ⟨na, nc, rfl, hp⟩
  have B2 := hid (kept_trans B1.out hp.2); have O2 := hid hp.1; have K2 := hid (K1.out.mono hp.2)
  clear hp
  go_wp2_with (first
    | (have _t := t3; (with_reducible refine wpl_storePk rfl _ _ rfl w.heap.size rfl R na R.N.length nc rfl K2.out rfl ?_); clear t3; intro w3 k3 g3; have K3 := hid k3; have B3 := hid (below_grownS B2.out g3 (Nat.le_refl _) B2.out.size); have O3 := hid (own_setK O2.out K2.out g3); clear k3 g3)
    | (have _t := t4; (with_reducible refine wpl_loadPk rfl _ rfl w.heap.size rfl K3.out ?_); clear t4))
  refine (HPut.out w3 na nc O3.out.row).mono ?_
  rintro e w4 ⟨ba, bc, rfl, ho, b4⟩
  have B4 := hid (kept_trans B3.out b4); have O4 := hid (O3.out.mono b4); have K4 := hid (K3.out.mono b4); have HB := hid ho
  clear ho b4
  go_wp2_with fail
  refine (HRead.out w4 ba bc HB.out.row).mono ?_
  rintro e w5 ⟨da, dc, rfl, hp⟩
  have B5 := hid (kept_trans B4.out hp.2); have O5 := hid (O4.out.mono hp.2); have K5 := hid (K4.out.mono hp.2); have V5 := hid hp.1
  clear hp
  go_wp2_with (first
    | (have _t := t5; (with_reducible refine wpl_allocPk rfl rfl ?_); clear t5; intro w6 k6 b6 s6; have K6 := hid (K5.out.mono b6); have L6 := hid k6; have B6 := hid (kept_trans B5.out b6); have O6 := hid (O5.out.mono b6); have V6 := hid (V5.out.mono b6); have hne := hid (Nat.ne_of_lt K5.out.lt); have hle := hid B5.out.size; clear k6 b6 s6)
    | (have _t := t6; (with_reducible refine wpl_storePk rfl _ _ rfl w5.heap.size rfl D da D.N.length dc rfl L6.out rfl ?_); clear t6; intro w7 k7 g7; have L7 := hid k7; have K7 := hid (K6.out.grownS g7 hne.out); have B7 := hid (below_grownS B6.out g7 hle.out B6.out.size); have O7 := hid (own_setK O6.out L6.out g7); have V7 := hid (own_setK V6.out L6.out g7); clear k7 g7)
    | (have _t := t7; (with_reducible refine wpl_loadPk rfl _ rfl w.heap.size rfl K7.out ?_); clear t7)
    | (have _t := t8; (with_reducible refine wpl_loadPk rfl _ rfl w5.heap.size rfl L7.out ?_); clear t8))
  refine (HEq.out na da nc dc w7 O7.out.row V7.out.row).mono ?_
  rintro e w8 ⟨rfl, b8⟩
  have B8 := hid (kept_trans B7.out b8)
  clear b8
  go_wp2_with fail
  refine (HSeal.out w8 _ _ (HY.out.mono B8.out)).mono ?_
  rintro e w9 ⟨sa, sc, rfl, ho, b9⟩
  have B9 := hid (kept_trans B8.out b9); have S9 := hid ho
  clear ho b9
  go_wp2_with fail
  refine (HRd2.out w9 sa sc S9.out.row).mono ?_
  rintro e w10 ⟨ea, ec, rfl, hp⟩
  have B10 := hid (kept_trans B9.out hp.2); have S10 := hid (S9.out.mono hp.2); have V10 := hid hp.1
  clear hp
  go_wp2_with (first
    | (have _t := t9; (with_reducible refine wpl_allocPk rfl rfl ?_); clear t9; intro w11 k11 b11 s11; have L11 := hid k11; have B11 := hid (kept_trans B10.out b11); have S11 := hid (S10.out.mono b11); have V11 := hid (V10.out.mono b11); have hle2 := hid B10.out.size; clear k11 b11 s11)
    | (have _t := t10; (with_reducible refine wpl_storePk rfl _ _ rfl w10.heap.size rfl E ea E.N.length ec rfl L11.out rfl ?_); clear t10; intro w12 k12 g12; have L12 := hid k12; have B12 := hid (below_grownS B11.out g12 hle2.out B11.out.size); have S12 := hid (own_setK S11.out L11.out g12); have V12 := hid (own_setK V11.out L11.out g12); clear k12 g12)
    | (have _t := t11; (with_reducible refine wpl_loadPk rfl _ rfl w10.heap.size rfl L12.out ?_); clear t11))
  refine (HPut2.out w12 ea ec V12.out.row).mono ?_
  rintro e w13 ⟨fa, fc, rfl, ho, b13⟩
  have B13 := hid (kept_trans B12.out b13); have S13 := hid (S12.out.mono b13); have T13 := hid ho
  clear ho b13
  go_wp2_with fail
  refine (HSame.out w13 fa sa fc sc T13.out.row S13.out.row).mono ?_
  rintro e w14 ⟨rfl, b14⟩
  have B14 := hid (kept_trans B13.out b14)
  clear b14
  go_wp2_with fail
  refine (lives07_any w14).mono ?_
  rintro e w15 ⟨rfl, b15⟩
  have B15 := hid (kept_trans B14.out b15)
  clear b15
  go_wp2_with fail
  go_ret
  exact ⟨rfl, B15.out⟩

set_option maxRecDepth 100000 in
set_option maxHeartbeats 8000000 in
theorem WireRound_l02 (w : World) (P : PkM) (a : Option Addr) (c : Nat) (hP : smallP P) (ha : Row w 1 a P.N.length c (P.N.map strV)) (xa : Option Addr) (xc : Nat) (xs ys : List UInt8) (hx : RowB w xa xc xs) (hc : 400 < xs.length) (hy : ys = xs.take 400) (h1 : putE (fewP P) = 0) (h2 : dE ys = 2) :
    Calls Try.prog 5 #[.agg (pkC P a P.N.length c).toArray, .slice xa xs.length xc] w fun e w' => e = .returned (.bool true) ∧ Below w.heap.size w w' := by
  obtain ⟨rb, roff, rfl, _⟩ := hx.bytes (by omega)
  have lys : ys.length = 400 := by rw [hy, List.length_take]; omega
  have ry : RowB w (some ⟨rb, roff, none⟩) xc ys := by rw [hy]; exact rowB_take hx 400
  have hcap : (400 : Nat) ≤ xc := by have := hx.2.1; omega
  have hcap' : ¬ ((xc : Int) < 400) := by omega
  have hc' : (400 : Int) < (xs.length : Int) := by omega
  have hlen : ys.length ≤ 400 := by omega
  have HY := hid ry
  have HF := hid (fun (W : World) (h : Below w.heap.size w W) => few_any P a c W (ha.mono h))
  have hm := few_may hP
  have HPut := hid (fun (W : World) (na : Option Addr) (nc : Nat) (r : Row W 1 na (fewP P).N.length nc ((fewP P).N.map strV)) => wirePut_any hm.small hm.short hm.names hm.n9 r)
  have hbl := putB_len (fewP P)
  have HRead := hid (fun (W : World) (na : Option Addr) (nc : Nat) (r : RowB W na nc (putB (fewP P))) => wireRead_any r (by omega))
  have HEq := hid (fun (a b : Option Addr) (c d : Nat) (W : World) (r1 : Row W 1 a (fewP P).N.length c ((fewP P).N.map strV)) (r2 : Row W 1 b (rwP (putB (fewP P))).N.length d ((rwP (putB (fewP P))).N.map strV)) => samePk_any (fewP P) (rwP (putB (fewP P))) a b c d W r1 r2)
  obtain ⟨q1, q2⟩ := round1 hm.small h1
  rw [q1] at HEq
  rw [q2] at HRead
  clear q1 q2
  rw [h1] at HPut
  have hsm := dP_may ys
  obtain ⟨z1, z2⟩ := rw_seal ys
  have HSeal := hid (fun (W : World) (sa : Option Addr) (sc : Nat) (r : RowB W sa sc ys) => sealed07_any sa sc ys W r (by omega))
  rw [putF4] at HSeal
  rw [lys] at HSeal
  have hsl : (ys ++ le 4 (crcF ys)).length ≤ 404 := by rw [List.length_append, le_length]; omega
  have HRd2 := hid (fun (W : World) (na : Option Addr) (nc : Nat) (r : RowB W na nc (ys ++ le 4 (crcF ys))) => wireRead_any r (by omega))
  rw [z1, z2, h2] at HRd2
  have HPut2 := hid (fun (W : World) (na : Option Addr) (nc : Nat) (r : Row W 1 na (dP ys).N.length nc ((dP ys).N.map strV)) => wirePut_any hsm.small hsm.short hsm.names hsm.n9 r)
  clear hy hx ry ha hm hsm z1 z2 h1 h2
  generalize dP ys = E at *
  generalize ys ++ le 4 (crcF ys) = sb at *
  generalize rwP (putB (fewP P)) = D at *
  generalize fewP P = R at *
  generalize putB R = pb at *
  have HSame : Hid (∀ (W : World) (a1 a2 : Option Addr) (c1 c2 : Nat), RowB W a1 c1 sb → RowB W a2 c2 sb → Calls Try.prog 12 #[.slice a1 sb.length c1, .slice a2 sb.length c2] W fun e w' => e = .returned (.bool true) ∧ Below W.heap.size W w') := hid (fun W a1 a2 c1 c2 r1 r2 => by
    have h := same_any a1 a2 c1 c2 sb sb W r1 r2 (by omega) (by omega)
    rwa [decide_eq_true rfl] at h)
  have hpb := hid hbl
  have hsb := hid hsl
  clear hbl hsl
  have t1 : True := trivial
  have t2 : True := trivial
  have t3 : True := trivial
  have t4 : True := trivial
  have t5 : True := trivial
  have t6 : True := trivial
  have t7 : True := trivial
  have t8 : True := trivial
  have t9 : True := trivial
  have t10 : True := trivial
  have t11 : True := trivial
  have t12 : True := trivial
  go_enter Try.func5, Try.ntmps5
  go_wp2_with (first
    | (have _t := t1; (with_reducible refine wpl_boxT rfl 35 _ rfl (pkC P a P.N.length c) rfl ?_); clear t1; intro w1 k1 b1 s1; have K1 := hid k1; have B1 := hid b1; clear k1 b1 s1)
    | (have _t := t2; (with_reducible refine wpl_loadPk rfl _ rfl w.heap.size rfl K1.out ?_); clear t2))
  refine (HF.out w1 B1.out).mono ?_
  rintro e w2 ⟨na, nc, rfl, hp⟩
  have B2 := hid (kept_trans B1.out hp.2); have O2 := hid hp.1; have K2 := hid (K1.out.mono hp.2)
  clear hp
  go_wp2_with (first
    | (have _t := t3; (with_reducible refine wpl_storePk rfl _ _ rfl w.heap.size rfl R na R.N.length nc rfl K2.out rfl ?_); clear t3; intro w3 k3 g3; have K3 := hid k3; have B3 := hid (below_grownS B2.out g3 (Nat.le_refl _) B2.out.size); have O3 := hid (own_setK O2.out K2.out g3); clear k3 g3)
    | (have _t := t4; (with_reducible refine wpl_loadPk rfl _ rfl w.heap.size rfl K3.out ?_); clear t4))
  refine (HPut.out w3 na nc O3.out.row).mono ?_
  rintro e w4 ⟨ba, bc, rfl, ho, b4⟩
  have B4 := hid (kept_trans B3.out b4); have O4 := hid (O3.out.mono b4); have K4 := hid (K3.out.mono b4); have HB := hid ho
  clear ho b4
  go_wp2_with fail
  refine (HRead.out w4 ba bc HB.out.row).mono ?_
  rintro e w5 ⟨da, dc, rfl, hp⟩
  have B5 := hid (kept_trans B4.out hp.2); have O5 := hid (O4.out.mono hp.2); have K5 := hid (K4.out.mono hp.2); have V5 := hid hp.1
  clear hp
  go_wp2_with (first
    | (have _t := t5; (with_reducible refine wpl_allocPk rfl rfl ?_); clear t5; intro w6 k6 b6 s6; have K6 := hid (K5.out.mono b6); have L6 := hid k6; have B6 := hid (kept_trans B5.out b6); have O6 := hid (O5.out.mono b6); have V6 := hid (V5.out.mono b6); have hne := hid (Nat.ne_of_lt K5.out.lt); have hle := hid B5.out.size; clear k6 b6 s6)
    | (have _t := t6; (with_reducible refine wpl_storePk rfl _ _ rfl w5.heap.size rfl D da D.N.length dc rfl L6.out rfl ?_); clear t6; intro w7 k7 g7; have L7 := hid k7; have K7 := hid (K6.out.grownS g7 hne.out); have B7 := hid (below_grownS B6.out g7 hle.out B6.out.size); have O7 := hid (own_setK O6.out L6.out g7); have V7 := hid (own_setK V6.out L6.out g7); clear k7 g7)
    | (have _t := t7; (with_reducible refine wpl_loadPk rfl _ rfl w.heap.size rfl K7.out ?_); clear t7)
    | (have _t := t8; (with_reducible refine wpl_loadPk rfl _ rfl w5.heap.size rfl L7.out ?_); clear t8))
  refine (HEq.out na da nc dc w7 O7.out.row V7.out.row).mono ?_
  rintro e w8 ⟨rfl, b8⟩
  have B8 := hid (kept_trans B7.out b8)
  clear b8
  go_wp2_with fail
  refine (HSeal.out w8 _ _ (HY.out.mono B8.out)).mono ?_
  rintro e w9 ⟨sa, sc, rfl, ho, b9⟩
  have B9 := hid (kept_trans B8.out b9); have S9 := hid ho
  clear ho b9
  go_wp2_with fail
  refine (HRd2.out w9 sa sc S9.out.row).mono ?_
  rintro e w10 ⟨ea, ec, rfl, hp⟩
  have B10 := hid (kept_trans B9.out hp.2); have S10 := hid (S9.out.mono hp.2); have V10 := hid hp.1
  clear hp
  go_wp2_with (first
    | (have _t := t9; (with_reducible refine wpl_allocPk rfl rfl ?_); clear t9; intro w11 k11 b11 s11; have L11 := hid k11; have B11 := hid (kept_trans B10.out b11); have S11 := hid (S10.out.mono b11); have V11 := hid (V10.out.mono b11); have hle2 := hid B10.out.size; clear k11 b11 s11)
    | (have _t := t10; (with_reducible refine wpl_storePk rfl _ _ rfl w10.heap.size rfl E ea E.N.length ec rfl L11.out rfl ?_); clear t10; intro w12 k12 g12; have L12 := hid k12; have B12 := hid (below_grownS B11.out g12 hle2.out B11.out.size); have S12 := hid (own_setK S11.out L11.out g12); have V12 := hid (own_setK V11.out L11.out g12); clear k12 g12)
    | (have _t := t11; (with_reducible refine wpl_loadPk rfl _ rfl w10.heap.size rfl L12.out ?_); clear t11))
  refine (lives07_any w12).mono ?_
  rintro e w15 ⟨rfl, b15⟩
  have B15 := hid (kept_trans B12.out b15)
  clear b15
  go_wp2_with fail
  go_ret
  exact ⟨rfl, B15.out⟩

set_option maxRecDepth 100000 in
set_option maxHeartbeats 8000000 in
theorem WireRound_l10 (w : World) (P : PkM) (a : Option Addr) (c : Nat) (hP : smallP P) (ha : Row w 1 a P.N.length c (P.N.map strV)) (xa : Option Addr) (xc : Nat) (xs ys : List UInt8) (hx : RowB w xa xc xs) (hc : 400 < xs.length) (hy : ys = xs.take 400) (h1 : putE (fewP P) = 1) (h2 : dE ys = 0) :
    Calls Try.prog 5 #[.agg (pkC P a P.N.length c).toArray, .slice xa xs.length xc] w fun e w' => e = .returned (.bool true) ∧ Below w.heap.size w w' := by
  obtain ⟨rb, roff, rfl, _⟩ := hx.bytes (by omega)
  have lys : ys.length = 400 := by rw [hy, List.length_take]; omega
  have ry : RowB w (some ⟨rb, roff, none⟩) xc ys := by rw [hy]; exact rowB_take hx 400
  have hcap : (400 : Nat) ≤ xc := by have := hx.2.1; omega
  have hcap' : ¬ ((xc : Int) < 400) := by omega
  have hc' : (400 : Int) < (xs.length : Int) := by omega
  have hlen : ys.length ≤ 400 := by omega
  have HY := hid ry
  have HF := hid (fun (W : World) (h : Below w.heap.size w W) => few_any P a c W (ha.mono h))
  have hm := few_may hP
  have HPut := hid (fun (W : World) (na : Option Addr) (nc : Nat) (r : Row W 1 na (fewP P).N.length nc ((fewP P).N.map strV)) => wirePut_any hm.small hm.short hm.names hm.n9 r)
  have hbl := putB_len (fewP P)
  have HRead := hid (fun (W : World) (na : Option Addr) (nc : Nat) (r : RowB W na nc (putB (fewP P))) => wireRead_any r (by omega))
  have HEq := hid (fun (a b : Option Addr) (c d : Nat) (W : World) (r1 : Row W 1 a (fewP P).N.length c ((fewP P).N.map strV)) (r2 : Row W 1 b (rwP (putB (fewP P))).N.length d ((rwP (putB (fewP P))).N.map strV)) => samePk_any (fewP P) (rwP (putB (fewP P))) a b c d W r1 r2)
  rw [h1] at HPut
  have hsm := dP_may ys
  obtain ⟨z1, z2⟩ := rw_seal ys
  have HSeal := hid (fun (W : World) (sa : Option Addr) (sc : Nat) (r : RowB W sa sc ys) => sealed07_any sa sc ys W r (by omega))
  rw [putF4] at HSeal
  rw [lys] at HSeal
  have hsl : (ys ++ le 4 (crcF ys)).length ≤ 404 := by rw [List.length_append, le_length]; omega
  have HRd2 := hid (fun (W : World) (na : Option Addr) (nc : Nat) (r : RowB W na nc (ys ++ le 4 (crcF ys))) => wireRead_any r (by omega))
  rw [z1, z2, h2] at HRd2
  have HPut2 := hid (fun (W : World) (na : Option Addr) (nc : Nat) (r : Row W 1 na (dP ys).N.length nc ((dP ys).N.map strV)) => wirePut_any hsm.small hsm.short hsm.names hsm.n9 r)
  obtain ⟨y1, y2⟩ := round2 h2
  rw [y1, y2] at HPut2
  clear y1 y2
  clear hy hx ry ha hm hsm z1 z2 h1 h2
  generalize dP ys = E at *
  generalize ys ++ le 4 (crcF ys) = sb at *
  generalize rwP (putB (fewP P)) = D at *
  generalize fewP P = R at *
  generalize putB R = pb at *
  have HSame : Hid (∀ (W : World) (a1 a2 : Option Addr) (c1 c2 : Nat), RowB W a1 c1 sb → RowB W a2 c2 sb → Calls Try.prog 12 #[.slice a1 sb.length c1, .slice a2 sb.length c2] W fun e w' => e = .returned (.bool true) ∧ Below W.heap.size W w') := hid (fun W a1 a2 c1 c2 r1 r2 => by
    have h := same_any a1 a2 c1 c2 sb sb W r1 r2 (by omega) (by omega)
    rwa [decide_eq_true rfl] at h)
  have hpb := hid hbl
  have hsb := hid hsl
  clear hbl hsl
  have t1 : True := trivial
  have t2 : True := trivial
  have t3 : True := trivial
  have t4 : True := trivial
  have t5 : True := trivial
  have t6 : True := trivial
  have t7 : True := trivial
  have t8 : True := trivial
  have t9 : True := trivial
  have t10 : True := trivial
  have t11 : True := trivial
  have t12 : True := trivial
  go_enter Try.func5, Try.ntmps5
  go_wp2_with (first
    | (have _t := t1; (with_reducible refine wpl_boxT rfl 35 _ rfl (pkC P a P.N.length c) rfl ?_); clear t1; intro w1 k1 b1 s1; have K1 := hid k1; have B1 := hid b1; clear k1 b1 s1)
    | (have _t := t2; (with_reducible refine wpl_loadPk rfl _ rfl w.heap.size rfl K1.out ?_); clear t2))
  refine (HF.out w1 B1.out).mono ?_
  rintro e w2 ⟨na, nc, rfl, hp⟩
  have B2 := hid (kept_trans B1.out hp.2); have O2 := hid hp.1; have K2 := hid (K1.out.mono hp.2)
  clear hp
  go_wp2_with (first
    | (have _t := t3; (with_reducible refine wpl_storePk rfl _ _ rfl w.heap.size rfl R na R.N.length nc rfl K2.out rfl ?_); clear t3; intro w3 k3 g3; have K3 := hid k3; have B3 := hid (below_grownS B2.out g3 (Nat.le_refl _) B2.out.size); have O3 := hid (own_setK O2.out K2.out g3); clear k3 g3)
    | (have _t := t4; (with_reducible refine wpl_loadPk rfl _ rfl w.heap.size rfl K3.out ?_); clear t4))
  refine (HPut.out w3 na nc O3.out.row).mono ?_
  rintro e w4 ⟨ba, bc, rfl, ho, b4⟩
  have B4 := hid (kept_trans B3.out b4); have O4 := hid (O3.out.mono b4); have K4 := hid (K3.out.mono b4); have HB := hid ho
  clear ho b4
  go_wp2_with fail
  refine (HSeal.out w4 _ _ (HY.out.mono B4.out)).mono ?_
  rintro e w9 ⟨sa, sc, rfl, ho, b9⟩
  have B9 := hid (kept_trans B4.out b9); have S9 := hid ho
  clear ho b9
  go_wp2_with fail
  refine (HRd2.out w9 sa sc S9.out.row).mono ?_
  rintro e w10 ⟨ea, ec, rfl, hp⟩
  have B10 := hid (kept_trans B9.out hp.2); have S10 := hid (S9.out.mono hp.2); have V10 := hid hp.1
  clear hp
  go_wp2_with (first
    | (have _t := t9; (with_reducible refine wpl_allocPk rfl rfl ?_); clear t9; intro w11 k11 b11 s11; have L11 := hid k11; have B11 := hid (kept_trans B10.out b11); have S11 := hid (S10.out.mono b11); have V11 := hid (V10.out.mono b11); have hle2 := hid B10.out.size; clear k11 b11 s11)
    | (have _t := t10; (with_reducible refine wpl_storePk rfl _ _ rfl w10.heap.size rfl E ea E.N.length ec rfl L11.out rfl ?_); clear t10; intro w12 k12 g12; have L12 := hid k12; have B12 := hid (below_grownS B11.out g12 hle2.out B11.out.size); have S12 := hid (own_setK S11.out L11.out g12); have V12 := hid (own_setK V11.out L11.out g12); clear k12 g12)
    | (have _t := t11; (with_reducible refine wpl_loadPk rfl _ rfl w10.heap.size rfl L12.out ?_); clear t11))
  refine (HPut2.out w12 ea ec V12.out.row).mono ?_
  rintro e w13 ⟨fa, fc, rfl, ho, b13⟩
  have B13 := hid (kept_trans B12.out b13); have S13 := hid (S12.out.mono b13); have T13 := hid ho
  clear ho b13
  go_wp2_with fail
  refine (HSame.out w13 fa sa fc sc T13.out.row S13.out.row).mono ?_
  rintro e w14 ⟨rfl, b14⟩
  have B14 := hid (kept_trans B13.out b14)
  clear b14
  go_wp2_with fail
  refine (lives07_any w14).mono ?_
  rintro e w15 ⟨rfl, b15⟩
  have B15 := hid (kept_trans B14.out b15)
  clear b15
  go_wp2_with fail
  go_ret
  exact ⟨rfl, B15.out⟩

set_option maxRecDepth 100000 in
set_option maxHeartbeats 8000000 in
theorem WireRound_l12 (w : World) (P : PkM) (a : Option Addr) (c : Nat) (hP : smallP P) (ha : Row w 1 a P.N.length c (P.N.map strV)) (xa : Option Addr) (xc : Nat) (xs ys : List UInt8) (hx : RowB w xa xc xs) (hc : 400 < xs.length) (hy : ys = xs.take 400) (h1 : putE (fewP P) = 1) (h2 : dE ys = 2) :
    Calls Try.prog 5 #[.agg (pkC P a P.N.length c).toArray, .slice xa xs.length xc] w fun e w' => e = .returned (.bool true) ∧ Below w.heap.size w w' := by
  obtain ⟨rb, roff, rfl, _⟩ := hx.bytes (by omega)
  have lys : ys.length = 400 := by rw [hy, List.length_take]; omega
  have ry : RowB w (some ⟨rb, roff, none⟩) xc ys := by rw [hy]; exact rowB_take hx 400
  have hcap : (400 : Nat) ≤ xc := by have := hx.2.1; omega
  have hcap' : ¬ ((xc : Int) < 400) := by omega
  have hc' : (400 : Int) < (xs.length : Int) := by omega
  have hlen : ys.length ≤ 400 := by omega
  have HY := hid ry
  have HF := hid (fun (W : World) (h : Below w.heap.size w W) => few_any P a c W (ha.mono h))
  have hm := few_may hP
  have HPut := hid (fun (W : World) (na : Option Addr) (nc : Nat) (r : Row W 1 na (fewP P).N.length nc ((fewP P).N.map strV)) => wirePut_any hm.small hm.short hm.names hm.n9 r)
  have hbl := putB_len (fewP P)
  have HRead := hid (fun (W : World) (na : Option Addr) (nc : Nat) (r : RowB W na nc (putB (fewP P))) => wireRead_any r (by omega))
  have HEq := hid (fun (a b : Option Addr) (c d : Nat) (W : World) (r1 : Row W 1 a (fewP P).N.length c ((fewP P).N.map strV)) (r2 : Row W 1 b (rwP (putB (fewP P))).N.length d ((rwP (putB (fewP P))).N.map strV)) => samePk_any (fewP P) (rwP (putB (fewP P))) a b c d W r1 r2)
  rw [h1] at HPut
  have hsm := dP_may ys
  obtain ⟨z1, z2⟩ := rw_seal ys
  have HSeal := hid (fun (W : World) (sa : Option Addr) (sc : Nat) (r : RowB W sa sc ys) => sealed07_any sa sc ys W r (by omega))
  rw [putF4] at HSeal
  rw [lys] at HSeal
  have hsl : (ys ++ le 4 (crcF ys)).length ≤ 404 := by rw [List.length_append, le_length]; omega
  have HRd2 := hid (fun (W : World) (na : Option Addr) (nc : Nat) (r : RowB W na nc (ys ++ le 4 (crcF ys))) => wireRead_any r (by omega))
  rw [z1, z2, h2] at HRd2
  have HPut2 := hid (fun (W : World) (na : Option Addr) (nc : Nat) (r : Row W 1 na (dP ys).N.length nc ((dP ys).N.map strV)) => wirePut_any hsm.small hsm.short hsm.names hsm.n9 r)
  clear hy hx ry ha hm hsm z1 z2 h1 h2
  generalize dP ys = E at *
  generalize ys ++ le 4 (crcF ys) = sb at *
  generalize rwP (putB (fewP P)) = D at *
  generalize fewP P = R at *
  generalize putB R = pb at *
  have HSame : Hid (∀ (W : World) (a1 a2 : Option Addr) (c1 c2 : Nat), RowB W a1 c1 sb → RowB W a2 c2 sb → Calls Try.prog 12 #[.slice a1 sb.length c1, .slice a2 sb.length c2] W fun e w' => e = .returned (.bool true) ∧ Below W.heap.size W w') := hid (fun W a1 a2 c1 c2 r1 r2 => by
    have h := same_any a1 a2 c1 c2 sb sb W r1 r2 (by omega) (by omega)
    rwa [decide_eq_true rfl] at h)
  have hpb := hid hbl
  have hsb := hid hsl
  clear hbl hsl
  have t1 : True := trivial
  have t2 : True := trivial
  have t3 : True := trivial
  have t4 : True := trivial
  have t5 : True := trivial
  have t6 : True := trivial
  have t7 : True := trivial
  have t8 : True := trivial
  have t9 : True := trivial
  have t10 : True := trivial
  have t11 : True := trivial
  have t12 : True := trivial
  go_enter Try.func5, Try.ntmps5
  go_wp2_with (first
    | (have _t := t1; (with_reducible refine wpl_boxT rfl 35 _ rfl (pkC P a P.N.length c) rfl ?_); clear t1; intro w1 k1 b1 s1; have K1 := hid k1; have B1 := hid b1; clear k1 b1 s1)
    | (have _t := t2; (with_reducible refine wpl_loadPk rfl _ rfl w.heap.size rfl K1.out ?_); clear t2))
  refine (HF.out w1 B1.out).mono ?_
  rintro e w2 ⟨na, nc, rfl, hp⟩
  have B2 := hid (kept_trans B1.out hp.2); have O2 := hid hp.1; have K2 := hid (K1.out.mono hp.2)
  clear hp
  go_wp2_with (first
    | (have _t := t3; (with_reducible refine wpl_storePk rfl _ _ rfl w.heap.size rfl R na R.N.length nc rfl K2.out rfl ?_); clear t3; intro w3 k3 g3; have K3 := hid k3; have B3 := hid (below_grownS B2.out g3 (Nat.le_refl _) B2.out.size); have O3 := hid (own_setK O2.out K2.out g3); clear k3 g3)
    | (have _t := t4; (with_reducible refine wpl_loadPk rfl _ rfl w.heap.size rfl K3.out ?_); clear t4))
  refine (HPut.out w3 na nc O3.out.row).mono ?_
  rintro e w4 ⟨ba, bc, rfl, ho, b4⟩
  have B4 := hid (kept_trans B3.out b4); have O4 := hid (O3.out.mono b4); have K4 := hid (K3.out.mono b4); have HB := hid ho
  clear ho b4
  go_wp2_with fail
  refine (HSeal.out w4 _ _ (HY.out.mono B4.out)).mono ?_
  rintro e w9 ⟨sa, sc, rfl, ho, b9⟩
  have B9 := hid (kept_trans B4.out b9); have S9 := hid ho
  clear ho b9
  go_wp2_with fail
  refine (HRd2.out w9 sa sc S9.out.row).mono ?_
  rintro e w10 ⟨ea, ec, rfl, hp⟩
  have B10 := hid (kept_trans B9.out hp.2); have S10 := hid (S9.out.mono hp.2); have V10 := hid hp.1
  clear hp
  go_wp2_with (first
    | (have _t := t9; (with_reducible refine wpl_allocPk rfl rfl ?_); clear t9; intro w11 k11 b11 s11; have L11 := hid k11; have B11 := hid (kept_trans B10.out b11); have S11 := hid (S10.out.mono b11); have V11 := hid (V10.out.mono b11); have hle2 := hid B10.out.size; clear k11 b11 s11)
    | (have _t := t10; (with_reducible refine wpl_storePk rfl _ _ rfl w10.heap.size rfl E ea E.N.length ec rfl L11.out rfl ?_); clear t10; intro w12 k12 g12; have L12 := hid k12; have B12 := hid (below_grownS B11.out g12 hle2.out B11.out.size); have S12 := hid (own_setK S11.out L11.out g12); have V12 := hid (own_setK V11.out L11.out g12); clear k12 g12)
    | (have _t := t11; (with_reducible refine wpl_loadPk rfl _ rfl w10.heap.size rfl L12.out ?_); clear t11))
  refine (lives07_any w12).mono ?_
  rintro e w15 ⟨rfl, b15⟩
  have B15 := hid (kept_trans B12.out b15)
  clear b15
  go_wp2_with fail
  go_ret
  exact ⟨rfl, B15.out⟩

set_option maxRecDepth 100000 in
set_option maxHeartbeats 8000000 in
theorem WireRound_s00 (w : World) (P : PkM) (a : Option Addr) (c : Nat) (hP : smallP P) (ha : Row w 1 a P.N.length c (P.N.map strV)) (xa : Option Addr) (xc : Nat) (xs ys : List UInt8) (hx : RowB w xa xc xs) (hc : ¬ 400 < xs.length) (hy : ys = xs.take 400) (h1 : putE (fewP P) = 0) (h2 : dE ys = 0) :
    Calls Try.prog 5 #[.agg (pkC P a P.N.length c).toArray, .slice xa xs.length xc] w fun e w' => e = .returned (.bool true) ∧ Below w.heap.size w w' := by
  obtain rfl : ys = xs := by rw [hy]; exact List.take_of_length_le (by omega)
  have ry := hx
  have hc' : ¬ (400 : Int) < (ys.length : Int) := by omega
  have hlen : ys.length ≤ 400 := by omega
  have HY := hid ry
  have HF := hid (fun (W : World) (h : Below w.heap.size w W) => few_any P a c W (ha.mono h))
  have hm := few_may hP
  have HPut := hid (fun (W : World) (na : Option Addr) (nc : Nat) (r : Row W 1 na (fewP P).N.length nc ((fewP P).N.map strV)) => wirePut_any hm.small hm.short hm.names hm.n9 r)
  have hbl := putB_len (fewP P)
  have HRead := hid (fun (W : World) (na : Option Addr) (nc : Nat) (r : RowB W na nc (putB (fewP P))) => wireRead_any r (by omega))
  have HEq := hid (fun (a b : Option Addr) (c d : Nat) (W : World) (r1 : Row W 1 a (fewP P).N.length c ((fewP P).N.map strV)) (r2 : Row W 1 b (rwP (putB (fewP P))).N.length d ((rwP (putB (fewP P))).N.map strV)) => samePk_any (fewP P) (rwP (putB (fewP P))) a b c d W r1 r2)
  obtain ⟨q1, q2⟩ := round1 hm.small h1
  rw [q1] at HEq
  rw [q2] at HRead
  clear q1 q2
  rw [h1] at HPut
  have hsm := dP_may ys
  obtain ⟨z1, z2⟩ := rw_seal ys
  have HSeal := hid (fun (W : World) (sa : Option Addr) (sc : Nat) (r : RowB W sa sc ys) => sealed07_any sa sc ys W r (by omega))
  rw [putF4] at HSeal
  have hsl : (ys ++ le 4 (crcF ys)).length ≤ 404 := by rw [List.length_append, le_length]; omega
  have HRd2 := hid (fun (W : World) (na : Option Addr) (nc : Nat) (r : RowB W na nc (ys ++ le 4 (crcF ys))) => wireRead_any r (by omega))
  rw [z1, z2, h2] at HRd2
  have HPut2 := hid (fun (W : World) (na : Option Addr) (nc : Nat) (r : Row W 1 na (dP ys).N.length nc ((dP ys).N.map strV)) => wirePut_any hsm.small hsm.short hsm.names hsm.n9 r)
  obtain ⟨y1, y2⟩ := round2 h2
  rw [y1, y2] at HPut2
  clear y1 y2
  clear hy hx ry ha hm hsm z1 z2 h1 h2
  generalize dP ys = E at *
  generalize ys ++ le 4 (crcF ys) = sb at *
  generalize rwP (putB (fewP P)) = D at *
  generalize fewP P = R at *
  generalize putB R = pb at *
  have HSame : Hid (∀ (W : World) (a1 a2 : Option Addr) (c1 c2 : Nat), RowB W a1 c1 sb → RowB W a2 c2 sb → Calls Try.prog 12 #[.slice a1 sb.length c1, .slice a2 sb.length c2] W fun e w' => e = .returned (.bool true) ∧ Below W.heap.size W w') := hid (fun W a1 a2 c1 c2 r1 r2 => by
    have h := same_any a1 a2 c1 c2 sb sb W r1 r2 (by omega) (by omega)
    rwa [decide_eq_true rfl] at h)
  have hpb := hid hbl
  have hsb := hid hsl
  clear hbl hsl
  have t1 : True := trivial
  have t2 : True := trivial
  have t3 : True := trivial
  have t4 : True := trivial
  have t5 : True := trivial
  have t6 : True := trivial
  have t7 : True := trivial
  have t8 : True := trivial
  have t9 : True := trivial
  have t10 : True := trivial
  have t11 : True := trivial
  have t12 : True := trivial
  go_enter Try.func5, Try.ntmps5
  go_wp2_with (first
    | (have _t := t1; (with_reducible refine wpl_boxT rfl 35 _ rfl (pkC P a P.N.length c) rfl ?_); clear t1; intro w1 k1 b1 s1; have K1 := hid k1; have B1 := hid b1; clear k1 b1 s1)
    | (have _t := t2; (with_reducible refine wpl_loadPk rfl _ rfl w.heap.size rfl K1.out ?_); clear t2))
  refine (HF.out w1 B1.out).mono ?_
  rintro e w2 ⟨na, nc, rfl, hp⟩
  have B2 := hid (kept_trans B1.out hp.2); have O2 := hid hp.1; have K2 := hid (K1.out.mono hp.2)
  clear hp
  go_wp2_with (first
    | (have _t := t3; (with_reducible refine wpl_storePk rfl _ _ rfl w.heap.size rfl R na R.N.length nc rfl K2.out rfl ?_); clear t3; intro w3 k3 g3; have K3 := hid k3; have B3 := hid (below_grownS B2.out g3 (Nat.le_refl _) B2.out.size); have O3 := hid (own_setK O2.out K2.out g3); clear k3 g3)
    | (have _t := t4; (with_reducible refine wpl_loadPk rfl _ rfl w.heap.size rfl K3.out ?_); clear t4))
  refine (HPut.out w3 na nc O3.out.row).mono ?_
  rintro e w4 ⟨ba, bc, rfl, ho, b4⟩
  have B4 := hid (kept_trans B3.out b4); have O4 := hid (O3.out.mono b4); have K4 := hid (K3.out.mono b4); have HB := hid ho
  clear ho b4
  go_wp2_with fail
  refine (HRead.out w4 ba bc HB.out.row).mono ?_
  rintro e w5 ⟨da, dc, rfl, hp⟩
  have B5 := hid (kept_trans B4.out hp.2); have O5 := hid (O4.out.mono hp.2); have K5 := hid (K4.out.mono hp.2); have V5 := hid hp.1
  clear hp
  go_wp2_with (first
    | (have _t := t5; (with_reducible refine wpl_allocPk rfl rfl ?_); clear t5; intro w6 k6 b6 s6; have K6 := hid (K5.out.mono b6); have L6 := hid k6; have B6 := hid (kept_trans B5.out b6); have O6 := hid (O5.out.mono b6); have V6 := hid (V5.out.mono b6); have hne := hid (Nat.ne_of_lt K5.out.lt); have hle := hid B5.out.size; clear k6 b6 s6)
    | (have _t := t6; (with_reducible refine wpl_storePk rfl _ _ rfl w5.heap.size rfl D da D.N.length dc rfl L6.out rfl ?_); clear t6; intro w7 k7 g7; have L7 := hid k7; have K7 := hid (K6.out.grownS g7 hne.out); have B7 := hid (below_grownS B6.out g7 hle.out B6.out.size); have O7 := hid (own_setK O6.out L6.out g7); have V7 := hid (own_setK V6.out L6.out g7); clear k7 g7)
    | (have _t := t7; (with_reducible refine wpl_loadPk rfl _ rfl w.heap.size rfl K7.out ?_); clear t7)
    | (have _t := t8; (with_reducible refine wpl_loadPk rfl _ rfl w5.heap.size rfl L7.out ?_); clear t8))
  refine (HEq.out na da nc dc w7 O7.out.row V7.out.row).mono ?_
  rintro e w8 ⟨rfl, b8⟩
  have B8 := hid (kept_trans B7.out b8)
  clear b8
  go_wp2_with fail
  refine (HSeal.out w8 _ _ (HY.out.mono B8.out)).mono ?_
  rintro e w9 ⟨sa, sc, rfl, ho, b9⟩
  have B9 := hid (kept_trans B8.out b9); have S9 := hid ho
  clear ho b9
  go_wp2_with fail
  refine (HRd2.out w9 sa sc S9.out.row).mono ?_
  rintro e w10 ⟨ea, ec, rfl, hp⟩
  have B10 := hid (kept_trans B9.out hp.2); have S10 := hid (S9.out.mono hp.2); have V10 := hid hp.1
  clear hp
  go_wp2_with (first
    | (have _t := t9; (with_reducible refine wpl_allocPk rfl rfl ?_); clear t9; intro w11 k11 b11 s11; have L11 := hid k11; have B11 := hid (kept_trans B10.out b11); have S11 := hid (S10.out.mono b11); have V11 := hid (V10.out.mono b11); have hle2 := hid B10.out.size; clear k11 b11 s11)
    | (have _t := t10; (with_reducible refine wpl_storePk rfl _ _ rfl w10.heap.size rfl E ea E.N.length ec rfl L11.out rfl ?_); clear t10; intro w12 k12 g12; have L12 := hid k12; have B12 := hid (below_grownS B11.out g12 hle2.out B11.out.size); have S12 := hid (own_setK S11.out L11.out g12); have V12 := hid (own_setK V11.out L11.out g12); clear k12 g12)
    | (have _t := t11; (with_reducible refine wpl_loadPk rfl _ rfl w10.heap.size rfl L12.out ?_); clear t11))
  refine (HPut2.out w12 ea ec V12.out.row).mono ?_
  rintro e w13 ⟨fa, fc, rfl, ho, b13⟩
  have B13 := hid (kept_trans B12.out b13); have S13 := hid (S12.out.mono b13); have T13 := hid ho
  clear ho b13
  go_wp2_with fail
  refine (HSame.out w13 fa sa fc sc T13.out.row S13.out.row).mono ?_
  rintro e w14 ⟨rfl, b14⟩
  have B14 := hid (kept_trans B13.out b14)
  clear b14
  go_wp2_with fail
  refine (lives07_any w14).mono ?_
  rintro e w15 ⟨rfl, b15⟩
  have B15 := hid (kept_trans B14.out b15)
  clear b15
  go_wp2_with fail
  go_ret
  exact ⟨rfl, B15.out⟩

set_option maxRecDepth 100000 in
set_option maxHeartbeats 8000000 in
theorem WireRound_s02 (w : World) (P : PkM) (a : Option Addr) (c : Nat) (hP : smallP P) (ha : Row w 1 a P.N.length c (P.N.map strV)) (xa : Option Addr) (xc : Nat) (xs ys : List UInt8) (hx : RowB w xa xc xs) (hc : ¬ 400 < xs.length) (hy : ys = xs.take 400) (h1 : putE (fewP P) = 0) (h2 : dE ys = 2) :
    Calls Try.prog 5 #[.agg (pkC P a P.N.length c).toArray, .slice xa xs.length xc] w fun e w' => e = .returned (.bool true) ∧ Below w.heap.size w w' := by
  obtain rfl : ys = xs := by rw [hy]; exact List.take_of_length_le (by omega)
  have ry := hx
  have hc' : ¬ (400 : Int) < (ys.length : Int) := by omega
  have hlen : ys.length ≤ 400 := by omega
  have HY := hid ry
  have HF := hid (fun (W : World) (h : Below w.heap.size w W) => few_any P a c W (ha.mono h))
  have hm := few_may hP
  have HPut := hid (fun (W : World) (na : Option Addr) (nc : Nat) (r : Row W 1 na (fewP P).N.length nc ((fewP P).N.map strV)) => wirePut_any hm.small hm.short hm.names hm.n9 r)
  have hbl := putB_len (fewP P)
  have HRead := hid (fun (W : World) (na : Option Addr) (nc : Nat) (r : RowB W na nc (putB (fewP P))) => wireRead_any r (by omega))
  have HEq := hid (fun (a b : Option Addr) (c d : Nat) (W : World) (r1 : Row W 1 a (fewP P).N.length c ((fewP P).N.map strV)) (r2 : Row W 1 b (rwP (putB (fewP P))).N.length d ((rwP (putB (fewP P))).N.map strV)) => samePk_any (fewP P) (rwP (putB (fewP P))) a b c d W r1 r2)
  obtain ⟨q1, q2⟩ := round1 hm.small h1
  rw [q1] at HEq
  rw [q2] at HRead
  clear q1 q2
  rw [h1] at HPut
  have hsm := dP_may ys
  obtain ⟨z1, z2⟩ := rw_seal ys
  have HSeal := hid (fun (W : World) (sa : Option Addr) (sc : Nat) (r : RowB W sa sc ys) => sealed07_any sa sc ys W r (by omega))
  rw [putF4] at HSeal
  have hsl : (ys ++ le 4 (crcF ys)).length ≤ 404 := by rw [List.length_append, le_length]; omega
  have HRd2 := hid (fun (W : World) (na : Option Addr) (nc : Nat) (r : RowB W na nc (ys ++ le 4 (crcF ys))) => wireRead_any r (by omega))
  rw [z1, z2, h2] at HRd2
  have HPut2 := hid (fun (W : World) (na : Option Addr) (nc : Nat) (r : Row W 1 na (dP ys).N.length nc ((dP ys).N.map strV)) => wirePut_any hsm.small hsm.short hsm.names hsm.n9 r)
  clear hy hx ry ha hm hsm z1 z2 h1 h2
  generalize dP ys = E at *
  generalize ys ++ le 4 (crcF ys) = sb at *
  generalize rwP (putB (fewP P)) = D at *
  generalize fewP P = R at *
  generalize putB R = pb at *
  have HSame : Hid (∀ (W : World) (a1 a2 : Option Addr) (c1 c2 : Nat), RowB W a1 c1 sb → RowB W a2 c2 sb → Calls Try.prog 12 #[.slice a1 sb.length c1, .slice a2 sb.length c2] W fun e w' => e = .returned (.bool true) ∧ Below W.heap.size W w') := hid (fun W a1 a2 c1 c2 r1 r2 => by
    have h := same_any a1 a2 c1 c2 sb sb W r1 r2 (by omega) (by omega)
    rwa [decide_eq_true rfl] at h)
  have hpb := hid hbl
  have hsb := hid hsl
  clear hbl hsl
  have t1 : True := trivial
  have t2 : True := trivial
  have t3 : True := trivial
  have t4 : True := trivial
  have t5 : True := trivial
  have t6 : True := trivial
  have t7 : True := trivial
  have t8 : True := trivial
  have t9 : True := trivial
  have t10 : True := trivial
  have t11 : True := trivial
  have t12 : True := trivial
  go_enter Try.func5, Try.ntmps5
  go_wp2_with (first
    | (have _t := t1; (with_reducible refine wpl_boxT rfl 35 _ rfl (pkC P a P.N.length c) rfl ?_); clear t1; intro w1 k1 b1 s1; have K1 := hid k1; have B1 := hid b1; clear k1 b1 s1)
    | (have _t := t2; (with_reducible refine wpl_loadPk rfl _ rfl w.heap.size rfl K1.out ?_); clear t2))
  refine (HF.out w1 B1.out).mono ?_
  rintro e w2 ⟨na, nc, rfl, hp⟩
  have B2 := hid (kept_trans B1.out hp.2); have O2 := hid hp.1; have K2 := hid (K1.out.mono hp.2)
  clear hp
  go_wp2_with (first
    | (have _t := t3; (with_reducible refine wpl_storePk rfl _ _ rfl w.heap.size rfl R na R.N.length nc rfl K2.out rfl ?_); clear t3; intro w3 k3 g3; have K3 := hid k3; have B3 := hid (below_grownS B2.out g3 (Nat.le_refl _) B2.out.size); have O3 := hid (own_setK O2.out K2.out g3); clear k3 g3)
    | (have _t := t4; (with_reducible refine wpl_loadPk rfl _ rfl w.heap.size rfl K3.out ?_); clear t4))
  refine (HPut.out w3 na nc O3.out.row).mono ?_
  rintro e w4 ⟨ba, bc, rfl, ho, b4⟩
  have B4 := hid (kept_trans B3.out b4); have O4 := hid (O3.out.mono b4); have K4 := hid (K3.out.mono b4); have HB := hid ho
  clear ho b4
  go_wp2_with fail
  refine (HRead.out w4 ba bc HB.out.row).mono ?_
  rintro e w5 ⟨da, dc, rfl, hp⟩
  have B5 := hid (kept_trans B4.out hp.2); have O5 := hid (O4.out.mono hp.2); have K5 := hid (K4.out.mono hp.2); have V5 := hid hp.1
  clear hp
  go_wp2_with (first
    | (have _t := t5; (with_reducible refine wpl_allocPk rfl rfl ?_); clear t5; intro w6 k6 b6 s6; have K6 := hid (K5.out.mono b6); have L6 := hid k6; have B6 := hid (kept_trans B5.out b6); have O6 := hid (O5.out.mono b6); have V6 := hid (V5.out.mono b6); have hne := hid (Nat.ne_of_lt K5.out.lt); have hle := hid B5.out.size; clear k6 b6 s6)
    | (have _t := t6; (with_reducible refine wpl_storePk rfl _ _ rfl w5.heap.size rfl D da D.N.length dc rfl L6.out rfl ?_); clear t6; intro w7 k7 g7; have L7 := hid k7; have K7 := hid (K6.out.grownS g7 hne.out); have B7 := hid (below_grownS B6.out g7 hle.out B6.out.size); have O7 := hid (own_setK O6.out L6.out g7); have V7 := hid (own_setK V6.out L6.out g7); clear k7 g7)
    | (have _t := t7; (with_reducible refine wpl_loadPk rfl _ rfl w.heap.size rfl K7.out ?_); clear t7)
    | (have _t := t8; (with_reducible refine wpl_loadPk rfl _ rfl w5.heap.size rfl L7.out ?_); clear t8))
  refine (HEq.out na da nc dc w7 O7.out.row V7.out.row).mono ?_
  rintro e w8 ⟨rfl, b8⟩
  have B8 := hid (kept_trans B7.out b8)
  clear b8
  go_wp2_with fail
  refine (HSeal.out w8 _ _ (HY.out.mono B8.out)).mono ?_
  rintro e w9 ⟨sa, sc, rfl, ho, b9⟩
  have B9 := hid (kept_trans B8.out b9); have S9 := hid ho
  clear ho b9
  go_wp2_with fail
  refine (HRd2.out w9 sa sc S9.out.row).mono ?_
  rintro e w10 ⟨ea, ec, rfl, hp⟩
  have B10 := hid (kept_trans B9.out hp.2); have S10 := hid (S9.out.mono hp.2); have V10 := hid hp.1
  clear hp
  go_wp2_with (first
    | (have _t := t9; (with_reducible refine wpl_allocPk rfl rfl ?_); clear t9; intro w11 k11 b11 s11; have L11 := hid k11; have B11 := hid (kept_trans B10.out b11); have S11 := hid (S10.out.mono b11); have V11 := hid (V10.out.mono b11); have hle2 := hid B10.out.size; clear k11 b11 s11)
    | (have _t := t10; (with_reducible refine wpl_storePk rfl _ _ rfl w10.heap.size rfl E ea E.N.length ec rfl L11.out rfl ?_); clear t10; intro w12 k12 g12; have L12 := hid k12; have B12 := hid (below_grownS B11.out g12 hle2.out B11.out.size); have S12 := hid (own_setK S11.out L11.out g12); have V12 := hid (own_setK V11.out L11.out g12); clear k12 g12)
    | (have _t := t11; (with_reducible refine wpl_loadPk rfl _ rfl w10.heap.size rfl L12.out ?_); clear t11))
  refine (lives07_any w12).mono ?_
  rintro e w15 ⟨rfl, b15⟩
  have B15 := hid (kept_trans B12.out b15)
  clear b15
  go_wp2_with fail
  go_ret
  exact ⟨rfl, B15.out⟩

set_option maxRecDepth 100000 in
set_option maxHeartbeats 8000000 in
theorem WireRound_s10 (w : World) (P : PkM) (a : Option Addr) (c : Nat) (hP : smallP P) (ha : Row w 1 a P.N.length c (P.N.map strV)) (xa : Option Addr) (xc : Nat) (xs ys : List UInt8) (hx : RowB w xa xc xs) (hc : ¬ 400 < xs.length) (hy : ys = xs.take 400) (h1 : putE (fewP P) = 1) (h2 : dE ys = 0) :
    Calls Try.prog 5 #[.agg (pkC P a P.N.length c).toArray, .slice xa xs.length xc] w fun e w' => e = .returned (.bool true) ∧ Below w.heap.size w w' := by
  obtain rfl : ys = xs := by rw [hy]; exact List.take_of_length_le (by omega)
  have ry := hx
  have hc' : ¬ (400 : Int) < (ys.length : Int) := by omega
  have hlen : ys.length ≤ 400 := by omega
  have HY := hid ry
  have HF := hid (fun (W : World) (h : Below w.heap.size w W) => few_any P a c W (ha.mono h))
  have hm := few_may hP
  have HPut := hid (fun (W : World) (na : Option Addr) (nc : Nat) (r : Row W 1 na (fewP P).N.length nc ((fewP P).N.map strV)) => wirePut_any hm.small hm.short hm.names hm.n9 r)
  have hbl := putB_len (fewP P)
  have HRead := hid (fun (W : World) (na : Option Addr) (nc : Nat) (r : RowB W na nc (putB (fewP P))) => wireRead_any r (by omega))
  have HEq := hid (fun (a b : Option Addr) (c d : Nat) (W : World) (r1 : Row W 1 a (fewP P).N.length c ((fewP P).N.map strV)) (r2 : Row W 1 b (rwP (putB (fewP P))).N.length d ((rwP (putB (fewP P))).N.map strV)) => samePk_any (fewP P) (rwP (putB (fewP P))) a b c d W r1 r2)
  rw [h1] at HPut
  have hsm := dP_may ys
  obtain ⟨z1, z2⟩ := rw_seal ys
  have HSeal := hid (fun (W : World) (sa : Option Addr) (sc : Nat) (r : RowB W sa sc ys) => sealed07_any sa sc ys W r (by omega))
  rw [putF4] at HSeal
  have hsl : (ys ++ le 4 (crcF ys)).length ≤ 404 := by rw [List.length_append, le_length]; omega
  have HRd2 := hid (fun (W : World) (na : Option Addr) (nc : Nat) (r : RowB W na nc (ys ++ le 4 (crcF ys))) => wireRead_any r (by omega))
  rw [z1, z2, h2] at HRd2
  have HPut2 := hid (fun (W : World) (na : Option Addr) (nc : Nat) (r : Row W 1 na (dP ys).N.length nc ((dP ys).N.map strV)) => wirePut_any hsm.small hsm.short hsm.names hsm.n9 r)
  obtain ⟨y1, y2⟩ := round2 h2
  rw [y1, y2] at HPut2
  clear y1 y2
  clear hy hx ry ha hm hsm z1 z2 h1 h2
  generalize dP ys = E at *
  generalize ys ++ le 4 (crcF ys) = sb at *
  generalize rwP (putB (fewP P)) = D at *
  generalize fewP P = R at *
  generalize putB R = pb at *
  have HSame : Hid (∀ (W : World) (a1 a2 : Option Addr) (c1 c2 : Nat), RowB W a1 c1 sb → RowB W a2 c2 sb → Calls Try.prog 12 #[.slice a1 sb.length c1, .slice a2 sb.length c2] W fun e w' => e = .returned (.bool true) ∧ Below W.heap.size W w') := hid (fun W a1 a2 c1 c2 r1 r2 => by
    have h := same_any a1 a2 c1 c2 sb sb W r1 r2 (by omega) (by omega)
    rwa [decide_eq_true rfl] at h)
  have hpb := hid hbl
  have hsb := hid hsl
  clear hbl hsl
  have t1 : True := trivial
  have t2 : True := trivial
  have t3 : True := trivial
  have t4 : True := trivial
  have t5 : True := trivial
  have t6 : True := trivial
  have t7 : True := trivial
  have t8 : True := trivial
  have t9 : True := trivial
  have t10 : True := trivial
  have t11 : True := trivial
  have t12 : True := trivial
  go_enter Try.func5, Try.ntmps5
  go_wp2_with (first
    | (have _t := t1; (with_reducible refine wpl_boxT rfl 35 _ rfl (pkC P a P.N.length c) rfl ?_); clear t1; intro w1 k1 b1 s1; have K1 := hid k1; have B1 := hid b1; clear k1 b1 s1)
    | (have _t := t2; (with_reducible refine wpl_loadPk rfl _ rfl w.heap.size rfl K1.out ?_); clear t2))
  refine (HF.out w1 B1.out).mono ?_
  rintro e w2 ⟨na, nc, rfl, hp⟩
  have B2 := hid (kept_trans B1.out hp.2); have O2 := hid hp.1; have K2 := hid (K1.out.mono hp.2)
  clear hp
  go_wp2_with (first
    | (have _t := t3; (with_reducible refine wpl_storePk rfl _ _ rfl w.heap.size rfl R na R.N.length nc rfl K2.out rfl ?_); clear t3; intro w3 k3 g3; have K3 := hid k3; have B3 := hid (below_grownS B2.out g3 (Nat.le_refl _) B2.out.size); have O3 := hid (own_setK O2.out K2.out g3); clear k3 g3)
    | (have _t := t4; (with_reducible refine wpl_loadPk rfl _ rfl w.heap.size rfl K3.out ?_); clear t4))
  refine (HPut.out w3 na nc O3.out.row).mono ?_
  rintro e w4 ⟨ba, bc, rfl, ho, b4⟩
  have B4 := hid (kept_trans B3.out b4); have O4 := hid (O3.out.mono b4); have K4 := hid (K3.out.mono b4); have HB := hid ho
  clear ho b4
  go_wp2_with fail
  refine (HSeal.out w4 _ _ (HY.out.mono B4.out)).mono ?_
  rintro e w9 ⟨sa, sc, rfl, ho, b9⟩
  have B9 := hid (kept_trans B4.out b9); have S9 := hid ho
  clear ho b9
  go_wp2_with fail
  refine (HRd2.out w9 sa sc S9.out.row).mono ?_
  rintro e w10 ⟨ea, ec, rfl, hp⟩
  have B10 := hid (kept_trans B9.out hp.2); have S10 := hid (S9.out.mono hp.2); have V10 := hid hp.1
  clear hp
  go_wp2_with (first
    | (have _t := t9; (with_reducible refine wpl_allocPk rfl rfl ?_); clear t9; intro w11 k11 b11 s11; have L11 := hid k11; have B11 := hid (kept_trans B10.out b11); have S11 := hid (S10.out.mono b11); have V11 := hid (V10.out.mono b11); have hle2 := hid B10.out.size; clear k11 b11 s11)
    | (have _t := t10; (with_reducible refine wpl_storePk rfl _ _ rfl w10.heap.size rfl E ea E.N.length ec rfl L11.out rfl ?_); clear t10; intro w12 k12 g12; have L12 := hid k12; have B12 := hid (below_grownS B11.out g12 hle2.out B11.out.size); have S12 := hid (own_setK S11.out L11.out g12); have V12 := hid (own_setK V11.out L11.out g12); clear k12 g12)
    | (have _t := t11; (with_reducible refine wpl_loadPk rfl _ rfl w10.heap.size rfl L12.out ?_); clear t11))
  refine (HPut2.out w12 ea ec V12.out.row).mono ?_
  rintro e w13 ⟨fa, fc, rfl, ho, b13⟩
  have B13 := hid (kept_trans B12.out b13); have S13 := hid (S12.out.mono b13); have T13 := hid ho
  clear ho b13
  go_wp2_with fail
  refine (HSame.out w13 fa sa fc sc T13.out.row S13.out.row).mono ?_
  rintro e w14 ⟨rfl, b14⟩
  have B14 := hid (kept_trans B13.out b14)
  clear b14
  go_wp2_with fail
  refine (lives07_any w14).mono ?_
  rintro e w15 ⟨rfl, b15⟩
  have B15 := hid (kept_trans B14.out b15)
  clear b15
  go_wp2_with fail
  go_ret
  exact ⟨rfl, B15.out⟩

set_option maxRecDepth 100000 in
set_option maxHeartbeats 8000000 in
theorem WireRound_s12 (w : World) (P : PkM) (a : Option Addr) (c : Nat) (hP : smallP P) (ha : Row w 1 a P.N.length c (P.N.map strV)) (xa : Option Addr) (xc : Nat) (xs ys : List UInt8) (hx : RowB w xa xc xs) (hc : ¬ 400 < xs.length) (hy : ys = xs.take 400) (h1 : putE (fewP P) = 1) (h2 : dE ys = 2) :
    Calls Try.prog 5 #[.agg (pkC P a P.N.length c).toArray, .slice xa xs.length xc] w fun e w' => e = .returned (.bool true) ∧ Below w.heap.size w w' := by
  obtain rfl : ys = xs := by rw [hy]; exact List.take_of_length_le (by omega)
  have ry := hx
  have hc' : ¬ (400 : Int) < (ys.length : Int) := by omega
  have hlen : ys.length ≤ 400 := by omega
  have HY := hid ry
  have HF := hid (fun (W : World) (h : Below w.heap.size w W) => few_any P a c W (ha.mono h))
  have hm := few_may hP
  have HPut := hid (fun (W : World) (na : Option Addr) (nc : Nat) (r : Row W 1 na (fewP P).N.length nc ((fewP P).N.map strV)) => wirePut_any hm.small hm.short hm.names hm.n9 r)
  have hbl := putB_len (fewP P)
  have HRead := hid (fun (W : World) (na : Option Addr) (nc : Nat) (r : RowB W na nc (putB (fewP P))) => wireRead_any r (by omega))
  have HEq := hid (fun (a b : Option Addr) (c d : Nat) (W : World) (r1 : Row W 1 a (fewP P).N.length c ((fewP P).N.map strV)) (r2 : Row W 1 b (rwP (putB (fewP P))).N.length d ((rwP (putB (fewP P))).N.map strV)) => samePk_any (fewP P) (rwP (putB (fewP P))) a b c d W r1 r2)
  rw [h1] at HPut
  have hsm := dP_may ys
  obtain ⟨z1, z2⟩ := rw_seal ys
  have HSeal := hid (fun (W : World) (sa : Option Addr) (sc : Nat) (r : RowB W sa sc ys) => sealed07_any sa sc ys W r (by omega))
  rw [putF4] at HSeal
  have hsl : (ys ++ le 4 (crcF ys)).length ≤ 404 := by rw [List.length_append, le_length]; omega
  have HRd2 := hid (fun (W : World) (na : Option Addr) (nc : Nat) (r : RowB W na nc (ys ++ le 4 (crcF ys))) => wireRead_any r (by omega))
  rw [z1, z2, h2] at HRd2
  have HPut2 := hid (fun (W : World) (na : Option Addr) (nc : Nat) (r : Row W 1 na (dP ys).N.length nc ((dP ys).N.map strV)) => wirePut_any hsm.small hsm.short hsm.names hsm.n9 r)
  clear hy hx ry ha hm hsm z1 z2 h1 h2
  generalize dP ys = E at *
  generalize ys ++ le 4 (crcF ys) = sb at *
  generalize rwP (putB (fewP P)) = D at *
  generalize fewP P = R at *
  generalize putB R = pb at *
  have HSame : Hid (∀ (W : World) (a1 a2 : Option Addr) (c1 c2 : Nat), RowB W a1 c1 sb → RowB W a2 c2 sb → Calls Try.prog 12 #[.slice a1 sb.length c1, .slice a2 sb.length c2] W fun e w' => e = .returned (.bool true) ∧ Below W.heap.size W w') := hid (fun W a1 a2 c1 c2 r1 r2 => by
    have h := same_any a1 a2 c1 c2 sb sb W r1 r2 (by omega) (by omega)
    rwa [decide_eq_true rfl] at h)
  have hpb := hid hbl
  have hsb := hid hsl
  clear hbl hsl
  have t1 : True := trivial
  have t2 : True := trivial
  have t3 : True := trivial
  have t4 : True := trivial
  have t5 : True := trivial
  have t6 : True := trivial
  have t7 : True := trivial
  have t8 : True := trivial
  have t9 : True := trivial
  have t10 : True := trivial
  have t11 : True := trivial
  have t12 : True := trivial
  go_enter Try.func5, Try.ntmps5
  go_wp2_with (first
    | (have _t := t1; (with_reducible refine wpl_boxT rfl 35 _ rfl (pkC P a P.N.length c) rfl ?_); clear t1; intro w1 k1 b1 s1; have K1 := hid k1; have B1 := hid b1; clear k1 b1 s1)
    | (have _t := t2; (with_reducible refine wpl_loadPk rfl _ rfl w.heap.size rfl K1.out ?_); clear t2))
  refine (HF.out w1 B1.out).mono ?_
  rintro e w2 ⟨na, nc, rfl, hp⟩
  have B2 := hid (kept_trans B1.out hp.2); have O2 := hid hp.1; have K2 := hid (K1.out.mono hp.2)
  clear hp
  go_wp2_with (first
    | (have _t := t3; (with_reducible refine wpl_storePk rfl _ _ rfl w.heap.size rfl R na R.N.length nc rfl K2.out rfl ?_); clear t3; intro w3 k3 g3; have K3 := hid k3; have B3 := hid (below_grownS B2.out g3 (Nat.le_refl _) B2.out.size); have O3 := hid (own_setK O2.out K2.out g3); clear k3 g3)
    | (have _t := t4; (with_reducible refine wpl_loadPk rfl _ rfl w.heap.size rfl K3.out ?_); clear t4))
  refine (HPut.out w3 na nc O3.out.row).mono ?_
  rintro e w4 ⟨ba, bc, rfl, ho, b4⟩
  have B4 := hid (kept_trans B3.out b4); have O4 := hid (O3.out.mono b4); have K4 := hid (K3.out.mono b4); have HB := hid ho
  clear ho b4
  go_wp2_with fail
  refine (HSeal.out w4 _ _ (HY.out.mono B4.out)).mono ?_
  rintro e w9 ⟨sa, sc, rfl, ho, b9⟩
  have B9 := hid (kept_trans B4.out b9); have S9 := hid ho
  clear ho b9
  go_wp2_with fail
  refine (HRd2.out w9 sa sc S9.out.row).mono ?_
  rintro e w10 ⟨ea, ec, rfl, hp⟩
  have B10 := hid (kept_trans B9.out hp.2); have S10 := hid (S9.out.mono hp.2); have V10 := hid hp.1
  clear hp
  go_wp2_with (first
    | (have _t := t9; (with_reducible refine wpl_allocPk rfl rfl ?_); clear t9; intro w11 k11 b11 s11; have L11 := hid k11; have B11 := hid (kept_trans B10.out b11); have S11 := hid (S10.out.mono b11); have V11 := hid (V10.out.mono b11); have hle2 := hid B10.out.size; clear k11 b11 s11)
    | (have _t := t10; (with_reducible refine wpl_storePk rfl _ _ rfl w10.heap.size rfl E ea E.N.length ec rfl L11.out rfl ?_); clear t10; intro w12 k12 g12; have L12 := hid k12; have B12 := hid (below_grownS B11.out g12 hle2.out B11.out.size); have S12 := hid (own_setK S11.out L11.out g12); have V12 := hid (own_setK V11.out L11.out g12); clear k12 g12)
    | (have _t := t11; (with_reducible refine wpl_loadPk rfl _ rfl w10.heap.size rfl L12.out ?_); clear t11))
  refine (lives07_any w12).mono ?_
  rintro e w15 ⟨rfl, b15⟩
  have B15 := hid (kept_trans B12.out b15)
  clear b15
  go_wp2_with fail
  go_ret
  exact ⟨rfl, B15.out⟩

theorem WireRound_walk (w : World) (P : PkM) (a : Option Addr) (c : Nat) (hP : smallP P) (ha : Row w 1 a P.N.length c (P.N.map strV)) (xa : Option Addr) (xc : Nat) (xs : List UInt8) (hx : RowB w xa xc xs) :
    Calls Try.prog 5 #[.agg (pkC P a P.N.length c).toArray, .slice xa xs.length xc] w fun e w' => e = .returned (.bool true) ∧ Below w.heap.size w w' := by
  by_cases hc : 400 < xs.length <;> rcases putE_01 (fewP P) with h1 | h1 <;> rcases dE_02 (xs.take 400) with h2 | h2
  · exact WireRound_l00 w P a c hP ha xa xc xs _ hx hc rfl h1 h2
  · exact WireRound_l02 w P a c hP ha xa xc xs _ hx hc rfl h1 h2
  · exact WireRound_l10 w P a c hP ha xa xc xs _ hx hc rfl h1 h2
  · exact WireRound_l12 w P a c hP ha xa xc xs _ hx hc rfl h1 h2
  · exact WireRound_s00 w P a c hP ha xa xc xs _ hx hc rfl h1 h2
  · exact WireRound_s02 w P a c hP ha xa xc xs _ hx hc rfl h1 h2
  · exact WireRound_s10 w P a c hP ha xa xc xs _ hx hc rfl h1 h2
  · exact WireRound_s12 w P a c hP ha xa xc xs _ hx hc rfl h1 h2
end Go.Proofs.Ytanediaaidfcaaa
