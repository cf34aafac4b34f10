/- Two packets have the same bytes just if they are the same. (genWirOne.py) -/
import Derived.Test.YtanediaaidfcaaaWirFq
namespace Go.Proofs.Ytanediaaidfcaaa
open Go.RowKit
set_option linter.unusedSimpArgs false
set_option linter.unusedVariables false

theorem putF4 (e : List UInt8) : putF e (crcF e : Int) 4 = e ++ le 4 (crcF e) := by
  have := crcF_lt e
  unfold putF
  have hf : fitsB ((crcF e : Nat) : Int) 4 = true := fits_of (w := 4) rfl (by omega)
  rw [if_pos hf]
  rfl
theorem putE_01 (P : PkM) : putE P = 0 ∨ putE P = 1 := by
  unfold putE; split
  · exact .inl rfl
  · exact .inr rfl
theorem putE_zero {P : PkM} (h : putE P = 0) : ∃ e, encP P = some e ∧ SameP P (backP P) ∧ putB P = e ++ le 4 (crcF e) := by
  have hw : (putW P).isSome = true := by
    unfold putE at h
    split at h
    · assumption
    · cases h
  have hpw := putW_in P
  cases hi : inW P with
  | none => rw [hpw, hi] at hw; cases hw
  | some e =>
    rw [hi, Option.map_some] at hpw
    have hb : putB P = putF e (crcF e : Int) 4 := (congrArg (fun o => Option.getD o []) hpw).trans (Option.getD_some ..)
    refine ⟨e, inW_enc hi, ?_, by rw [hb, putF4]⟩
    have he := inW_enc hi
    unfold inW at hi
    rw [he] at hi
    simp only at hi
    split at hi
    · next q => exact (eqPk_iff _ _).1 q
    · cases hi
theorem one_iff {P Q : PkM} (hP : smallP P) (hQ : smallP Q) (h1 : putE P = 0) (h2 : putE Q = 0) : decide (putB P = putB Q) = eqPk P Q := by
  obtain ⟨e, e1, e2, e3⟩ := putE_zero h1
  obtain ⟨f, f1, f2, f3⟩ := putE_zero h2
  cases hq : eqPk P Q with
  | true =>
    have hs := (eqPk_iff _ _).1 hq
    have := hs.enc
    rw [e1, f1] at this
    cases this
    rw [e3, f3]; exact decide_eq_true rfl
  | false =>
    refine decide_eq_false fun hb => ?_
    rw [e3, f3] at hb
    have hl : (le 4 (crcF e)).length = (le 4 (crcF f)).length := by rw [le_length, le_length]
    obtain ⟨rfl, _⟩ := List.append_inj' hb hl
    have d1 := dec_of_enc hP e1
    have d2 := dec_of_enc hQ f1
    have d3 : backP P = backP Q := Option.some.inj (d1.symm.trans d2)
    have : SameP P Q := e2.trans ((d3 ▸ SameP.refl _ : SameP (backP P) (backP Q)).trans f2.symm)
    rw [(eqPk_iff _ _).2 this] at hq
    cases hq

set_option maxRecDepth 100000 in
set_option maxHeartbeats 8000000 in
theorem WireOne_00true (w : World) (P Q : PkM) (a b : Option Addr) (c d : Nat) (hP : smallP P) (hQ : smallP Q) (ha : Row w 1 a P.N.length c (P.N.map strV)) (hb : Row w 1 b Q.N.length d (Q.N.map strV)) (h1 : putE (fewP P) = 0) (h2 : putE (fewP Q) = 0) (h3 : eqPk (fewP P) (fewP Q) = true) :
    Calls Try.prog 7 #[.agg (pkC P a P.N.length c).toArray, .agg (pkC Q b Q.N.length d).toArray] w fun e w' => e = .returned (.bool true) ∧ Below w.heap.size w w' := by
  have HF := hid (fun (W : World) (h : Below w.heap.size w W) => few_any P a c W (ha.mono h))
  have HG := hid (fun (W : World) (h : Below w.heap.size w W) => few_any Q b d W (hb.mono h))
  have hm := few_may hP
  have hn := few_may hQ
  have HPut := hid (fun (W : World) (na : Option Addr) (nc : Nat) (r : Row W 1 na (fewP P).N.length nc ((fewP P).N.map strV)) => wirePut_any hm.small hm.short hm.names hm.n9 r)
  have HQut := hid (fun (W : World) (na : Option Addr) (nc : Nat) (r : Row W 1 na (fewP Q).N.length nc ((fewP Q).N.map strV)) => wirePut_any hn.small hn.short hn.names hn.n9 r)
  have HEq := hid (fun (a b : Option Addr) (c d : Nat) (W : World) (r1 : Row W 1 a (fewP P).N.length c ((fewP P).N.map strV)) (r2 : Row W 1 b (fewP Q).N.length d ((fewP Q).N.map strV)) => samePk_any (fewP P) (fewP Q) a b c d W r1 r2)
  have hbl := putB_len (fewP P)
  have hcl := putB_len (fewP Q)
  have hone := one_iff hm.small hn.small h1 h2
  rw [h3] at hone HEq
  rw [h1] at HPut
  rw [h2] at HQut
  generalize fewP P = R at *
  generalize fewP Q = S at *
  generalize putB R = pb at *
  generalize putB S = qb at *
  clear ha hb hm hn h1 h2
  clear h3
  have HSame : Hid (∀ (W : World) (a1 a2 : Option Addr) (c1 c2 : Nat), RowB W a1 c1 pb → RowB W a2 c2 qb → Calls Try.prog 12 #[.slice a1 pb.length c1, .slice a2 qb.length c2] W fun e w' => e = .returned (.bool true) ∧ Below W.heap.size W w') := hid (fun W a1 a2 c1 c2 r1 r2 => by
    have h := same_any a1 a2 c1 c2 pb qb W r1 r2 (by omega) (by omega)
    rwa [hone] at h)
  clear hone
  have hpb := hid hbl
  have hqb := hid hcl
  clear hbl hcl
  have t1 : True := trivial
  have t2 : True := trivial
  have t3 : True := trivial
  have t4 : True := trivial
  have t5 : True := trivial
  have t6 : True := trivial
  have t7 : True := trivial
  have t8 : True := trivial
  have t9 : True := trivial
  have t10 : True := trivial
  go_enter Try.func7, Try.ntmps7
  go_wp2_with (first
    | (have _t := t1; (with_reducible refine wpl_boxT rfl 35 _ rfl (pkC P a P.N.length c) rfl ?_); clear t1; intro w0 k0 b0 s0; have K0 := hid k0; have B0 := hid b0; clear k0 b0 s0)
    | (have _t := t2; (with_reducible refine wpl_boxT rfl 35 _ rfl (pkC Q b Q.N.length d) rfl ?_); clear t2; intro w1 k1 b1 s1; have K1 := hid (K0.out.mono b1); have L1 := hid k1; have B1 := hid (kept_trans B0.out b1); clear k1 b1 s1)
    | (have _t := t3; (with_reducible refine wpl_loadPk rfl _ rfl w.heap.size rfl K1.out ?_); clear t3))
  refine (HF.out w1 B1.out).mono ?_
  rintro e w2 ⟨na, nc, rfl, hp⟩
  have hne := hid (Nat.ne_of_lt K0.out.lt)
  have hle := hid (Nat.le_of_lt K0.out.lt)
  have B2 := hid (kept_trans B1.out hp.2); have O2 := hid hp.1; have K2 := hid (K1.out.mono hp.2); have L2 := hid (L1.out.mono hp.2)
  clear hp
  go_wp2_with (first
    | (have _t := t4; (with_reducible refine wpl_storePk rfl _ _ rfl w.heap.size rfl R na R.N.length nc rfl K2.out rfl ?_); clear t4; intro w3 k3 g3; have K3 := hid k3; have L3 := hid (L2.out.grownS g3 hne.out.symm); have B3 := hid (below_grownS B2.out g3 (Nat.le_refl _) B2.out.size); have O3 := hid (own_setK O2.out K2.out g3); clear k3 g3)
    | (have _t := t5; (with_reducible refine wpl_loadPk rfl _ rfl w0.heap.size rfl L3.out ?_); clear t5))
  refine (HG.out w3 B3.out).mono ?_
  rintro e w4 ⟨nb, nd, rfl, hp⟩
  have B4 := hid (kept_trans B3.out hp.2); have O4 := hid (O3.out.mono hp.2); have U4 := hid hp.1; have K4 := hid (K3.out.mono hp.2); have L4 := hid (L3.out.mono hp.2)
  clear hp
  go_wp2_with (first
    | (have _t := t6; (with_reducible refine wpl_storePk rfl _ _ rfl w0.heap.size rfl S nb S.N.length nd rfl L4.out rfl ?_); clear t6; intro w5 k5 g5; have L5 := hid k5; have K5 := hid (K4.out.grownS g5 hne.out); have B5 := hid (below_grownS B4.out g5 hle.out B4.out.size); have O5 := hid (own_setK O4.out L4.out g5); have U5 := hid (own_setK U4.out L4.out g5); clear k5 g5)
    | (have _t := t7; (with_reducible refine wpl_loadPk rfl _ rfl w.heap.size rfl K5.out ?_); clear t7))
  refine (HPut.out w5 na nc O5.out.row).mono ?_
  rintro e w6 ⟨ba, bc, rfl, ho, b6⟩
  have B6 := hid (kept_trans B5.out b6); have O6 := hid (O5.out.mono b6); have U6 := hid (U5.out.mono b6); have K6 := hid (K5.out.mono b6); have L6 := hid (L5.out.mono b6); have HB6 := hid ho
  clear ho b6
  go_wp2_with ((have _t := t8; (with_reducible refine wpl_loadPk rfl _ rfl w0.heap.size rfl L6.out ?_); clear t8))
  refine (HQut.out w6 nb nd U6.out.row).mono ?_
  rintro e w7 ⟨bb, bd, rfl, ho, b7⟩
  have B7 := hid (kept_trans B6.out b7); have O7 := hid (O6.out.mono b7); have U7 := hid (U6.out.mono b7); have K7 := hid (K6.out.mono b7); have L7 := hid (L6.out.mono b7); have HB7 := hid (HB6.out.mono b7); have HC7 := hid ho
  clear ho b7
  go_wp2_with (first
    | (have _t := t9; (with_reducible refine wpl_loadPk rfl _ rfl w.heap.size rfl K7.out ?_); clear t9)
    | (have _t := t10; (with_reducible refine wpl_loadPk rfl _ rfl w0.heap.size rfl L7.out ?_); clear t10))
  refine (HEq.out na nb nc nd w7 O7.out.row U7.out.row).mono ?_
  rintro e w8 ⟨rfl, b8⟩
  have B8 := hid (kept_trans B7.out b8); have HB8 := hid (HB7.out.mono b8); have HC8 := hid (HC7.out.mono b8)
  clear b8
  go_wp2_with fail
  refine (HSame.out w8 ba bb bc bd HB8.out.row HC8.out.row).mono ?_
  rintro e w9 ⟨rfl, b9⟩
  have B9 := hid (kept_trans B8.out b9)
  clear b9
  go_wp2_with fail
  refine (lives07_any w9).mono ?_
  rintro e w10 ⟨rfl, b10⟩
  have B10 := hid (kept_trans B9.out b10)
  clear b10
  go_wp2_with fail
  go_ret
  exact ⟨by simp, B10.out⟩

set_option maxRecDepth 100000 in
set_option maxHeartbeats 8000000 in
theorem WireOne_00false (w : World) (P Q : PkM) (a b : Option Addr) (c d : Nat) (hP : smallP P) (hQ : smallP Q) (ha : Row w 1 a P.N.length c (P.N.map strV)) (hb : Row w 1 b Q.N.length d (Q.N.map strV)) (h1 : putE (fewP P) = 0) (h2 : putE (fewP Q) = 0) (h3 : eqPk (fewP P) (fewP Q) = false) :
    Calls Try.prog 7 #[.agg (pkC P a P.N.length c).toArray, .agg (pkC Q b Q.N.length d).toArray] w fun e w' => e = .returned (.bool true) ∧ Below w.heap.size w w' := by
  have HF := hid (fun (W : World) (h : Below w.heap.size w W) => few_any P a c W (ha.mono h))
  have HG := hid (fun (W : World) (h : Below w.heap.size w W) => few_any Q b d W (hb.mono h))
  have hm := few_may hP
  have hn := few_may hQ
  have HPut := hid (fun (W : World) (na : Option Addr) (nc : Nat) (r : Row W 1 na (fewP P).N.length nc ((fewP P).N.map strV)) => wirePut_any hm.small hm.short hm.names hm.n9 r)
  have HQut := hid (fun (W : World) (na : Option Addr) (nc : Nat) (r : Row W 1 na (fewP Q).N.length nc ((fewP Q).N.map strV)) => wirePut_any hn.small hn.short hn.names hn.n9 r)
  have HEq := hid (fun (a b : Option Addr) (c d : Nat) (W : World) (r1 : Row W 1 a (fewP P).N.length c ((fewP P).N.map strV)) (r2 : Row W 1 b (fewP Q).N.length d ((fewP Q).N.map strV)) => samePk_any (fewP P) (fewP Q) a b c d W r1 r2)
  have hbl := putB_len (fewP P)
  have hcl := putB_len (fewP Q)
  have hone := one_iff hm.small hn.small h1 h2
  rw [h3] at hone HEq
  rw [h1] at HPut
  rw [h2] at HQut
  generalize fewP P = R at *
  generalize fewP Q = S at *
  generalize putB R = pb at *
  generalize putB S = qb at *
  clear ha hb hm hn h1 h2
  clear h3
  have HSame : Hid (∀ (W : World) (a1 a2 : Option Addr) (c1 c2 : Nat), RowB W a1 c1 pb → RowB W a2 c2 qb → Calls Try.prog 12 #[.slice a1 pb.length c1, .slice a2 qb.length c2] W fun e w' => e = .returned (.bool false) ∧ Below W.heap.size W w') := hid (fun W a1 a2 c1 c2 r1 r2 => by
    have h := same_any a1 a2 c1 c2 pb qb W r1 r2 (by omega) (by omega)
    rwa [hone] at h)
  clear hone
  have hpb := hid hbl
  have hqb := hid hcl
  clear hbl hcl
  have t1 : True := trivial
  have t2 : True := trivial
  have t3 : True := trivial
  have t4 : True := trivial
  have t5 : True := trivial
  have t6 : True := trivial
  have t7 : True := trivial
  have t8 : True := trivial
  have t9 : True := trivial
  have t10 : True := trivial
  go_enter Try.func7, Try.ntmps7
  go_wp2_with (first
    | (have _t := t1; (with_reducible refine wpl_boxT rfl 35 _ rfl (pkC P a P.N.length c) rfl ?_); clear t1; intro w0 k0 b0 s0; have K0 := hid k0; have B0 := hid b0; clear k0 b0 s0)
    | (have _t := t2; (with_reducible refine wpl_boxT rfl 35 _ rfl (pkC Q b Q.N.length d) rfl ?_); clear t2; intro w1 k1 b1 s1; have K1 := hid (K0.out.mono b1); have L1 := hid k1; have B1 := hid (kept_trans B0.out b1); clear k1 b1 s1)
    | (have _t := t3; (with_reducible refine wpl_loadPk rfl _ rfl w.heap.size rfl K1.out ?_); clear t3))
  refine (HF.out w1 B1.out).mono ?_
  rintro e w2 ⟨na, nc, rfl, hp⟩
  have hne := hid (Nat.ne_of_lt K0.out.lt)
  have hle := hid (Nat.le_of_lt K0.out.lt)
  have B2 := hid (kept_trans B1.out hp.2); have O2 := hid hp.1; have K2 := hid (K1.out.mono hp.2); have L2 := hid (L1.out.mono hp.2)
  clear hp
  go_wp2_with (first
    | (have _t := t4; (with_reducible refine wpl_storePk rfl _ _ rfl w.heap.size rfl R na R.N.length nc rfl K2.out rfl ?_); clear t4; intro w3 k3 g3; have K3 := hid k3; have L3 := hid (L2.out.grownS g3 hne.out.symm); have B3 := hid (below_grownS B2.out g3 (Nat.le_refl _) B2.out.size); have O3 := hid (own_setK O2.out K2.out g3); clear k3 g3)
    | (have _t := t5; (with_reducible refine wpl_loadPk rfl _ rfl w0.heap.size rfl L3.out ?_); clear t5))
  refine (HG.out w3 B3.out).mono ?_
  rintro e w4 ⟨nb, nd, rfl, hp⟩
  have B4 := hid (kept_trans B3.out hp.2); have O4 := hid (O3.out.mono hp.2); have U4 := hid hp.1; have K4 := hid (K3.out.mono hp.2); have L4 := hid (L3.out.mono hp.2)
  clear hp
  go_wp2_with (first
    | (have _t := t6; (with_reducible refine wpl_storePk rfl _ _ rfl w0.heap.size rfl S nb S.N.length nd rfl L4.out rfl ?_); clear t6; intro w5 k5 g5; have L5 := hid k5; have K5 := hid (K4.out.grownS g5 hne.out); have B5 := hid (below_grownS B4.out g5 hle.out B4.out.size); have O5 := hid (own_setK O4.out L4.out g5); have U5 := hid (own_setK U4.out L4.out g5); clear k5 g5)
    | (have _t := t7; (with_reducible refine wpl_loadPk rfl _ rfl w.heap.size rfl K5.out ?_); clear t7))
  refine (HPut.out w5 na nc O5.out.row).mono ?_
  rintro e w6 ⟨ba, bc, rfl, ho, b6⟩
  have B6 := hid (kept_trans B5.out b6); have O6 := hid (O5.out.mono b6); have U6 := hid (U5.out.mono b6); have K6 := hid (K5.out.mono b6); have L6 := hid (L5.out.mono b6); have HB6 := hid ho
  clear ho b6
  go_wp2_with ((have _t := t8; (with_reducible refine wpl_loadPk rfl _ rfl w0.heap.size rfl L6.out ?_); clear t8))
  refine (HQut.out w6 nb nd U6.out.row).mono ?_
  rintro e w7 ⟨bb, bd, rfl, ho, b7⟩
  have B7 := hid (kept_trans B6.out b7); have O7 := hid (O6.out.mono b7); have U7 := hid (U6.out.mono b7); have K7 := hid (K6.out.mono b7); have L7 := hid (L6.out.mono b7); have HB7 := hid (HB6.out.mono b7); have HC7 := hid ho
  clear ho b7
  go_wp2_with (first
    | (have _t := t9; (with_reducible refine wpl_loadPk rfl _ rfl w.heap.size rfl K7.out ?_); clear t9)
    | (have _t := t10; (with_reducible refine wpl_loadPk rfl _ rfl w0.heap.size rfl L7.out ?_); clear t10))
  refine (HEq.out na nb nc nd w7 O7.out.row U7.out.row).mono ?_
  rintro e w8 ⟨rfl, b8⟩
  have B8 := hid (kept_trans B7.out b8); have HB8 := hid (HB7.out.mono b8); have HC8 := hid (HC7.out.mono b8)
  clear b8
  go_wp2_with fail
  refine (HSame.out w8 ba bb bc bd HB8.out.row HC8.out.row).mono ?_
  rintro e w9 ⟨rfl, b9⟩
  have B9 := hid (kept_trans B8.out b9)
  clear b9
  go_wp2_with fail
  refine (lives07_any w9).mono ?_
  rintro e w10 ⟨rfl, b10⟩
  have B10 := hid (kept_trans B9.out b10)
  clear b10
  go_wp2_with fail
  go_ret
  exact ⟨by simp, B10.out⟩

set_option maxRecDepth 100000 in
set_option maxHeartbeats 8000000 in
theorem WireOne_01 (w : World) (P Q : PkM) (a b : Option Addr) (c d : Nat) (hP : smallP P) (hQ : smallP Q) (ha : Row w 1 a P.N.length c (P.N.map strV)) (hb : Row w 1 b Q.N.length d (Q.N.map strV)) (h1 : putE (fewP P) = 0) (h2 : putE (fewP Q) = 1) :
    Calls Try.prog 7 #[.agg (pkC P a P.N.length c).toArray, .agg (pkC Q b Q.N.length d).toArray] w fun e w' => e = .returned (.bool true) ∧ Below w.heap.size w w' := by
  have HF := hid (fun (W : World) (h : Below w.heap.size w W) => few_any P a c W (ha.mono h))
  have HG := hid (fun (W : World) (h : Below w.heap.size w W) => few_any Q b d W (hb.mono h))
  have hm := few_may hP
  have hn := few_may hQ
  have HPut := hid (fun (W : World) (na : Option Addr) (nc : Nat) (r : Row W 1 na (fewP P).N.length nc ((fewP P).N.map strV)) => wirePut_any hm.small hm.short hm.names hm.n9 r)
  have HQut := hid (fun (W : World) (na : Option Addr) (nc : Nat) (r : Row W 1 na (fewP Q).N.length nc ((fewP Q).N.map strV)) => wirePut_any hn.small hn.short hn.names hn.n9 r)
  have HEq := hid (fun (a b : Option Addr) (c d : Nat) (W : World) (r1 : Row W 1 a (fewP P).N.length c ((fewP P).N.map strV)) (r2 : Row W 1 b (fewP Q).N.length d ((fewP Q).N.map strV)) => samePk_any (fewP P) (fewP Q) a b c d W r1 r2)
  have hbl := putB_len (fewP P)
  have hcl := putB_len (fewP Q)
  rw [h1] at HPut
  rw [h2] at HQut
  generalize fewP P = R at *
  generalize fewP Q = S at *
  generalize putB R = pb at *
  generalize putB S = qb at *
  clear ha hb hm hn h1 h2
  have hpb := hid hbl
  have hqb := hid hcl
  clear hbl hcl
  have t1 : True := trivial
  have t2 : True := trivial
  have t3 : True := trivial
  have t4 : True := trivial
  have t5 : True := trivial
  have t6 : True := trivial
  have t7 : True := trivial
  have t8 : True := trivial
  have t9 : True := trivial
  have t10 : True := trivial
  go_enter Try.func7, Try.ntmps7
  go_wp2_with (first
    | (have _t := t1; (with_reducible refine wpl_boxT rfl 35 _ rfl (pkC P a P.N.length c) rfl ?_); clear t1; intro w0 k0 b0 s0; have K0 := hid k0; have B0 := hid b0; clear k0 b0 s0)
    | (have _t := t2; (with_reducible refine wpl_boxT rfl 35 _ rfl (pkC Q b Q.N.length d) rfl ?_); clear t2; intro w1 k1 b1 s1; have K1 := hid (K0.out.mono b1); have L1 := hid k1; have B1 := hid (kept_trans B0.out b1); clear k1 b1 s1)
    | (have _t := t3; (with_reducible refine wpl_loadPk rfl _ rfl w.heap.size rfl K1.out ?_); clear t3))
  refine (HF.out w1 B1.out).mono ?_
  rintro e w2 ⟨na, nc, rfl, hp⟩
  have hne := hid (Nat.ne_of_lt K0.out.lt)
  have hle := hid (Nat.le_of_lt K0.out.lt)
  have B2 := hid (kept_trans B1.out hp.2); have O2 := hid hp.1; have K2 := hid (K1.out.mono hp.2); have L2 := hid (L1.out.mono hp.2)
  clear hp
  go_wp2_with (first
    | (have _t := t4; (with_reducible refine wpl_storePk rfl _ _ rfl w.heap.size rfl R na R.N.length nc rfl K2.out rfl ?_); clear t4; intro w3 k3 g3; have K3 := hid k3; have L3 := hid (L2.out.grownS g3 hne.out.symm); have B3 := hid (below_grownS B2.out g3 (Nat.le_refl _) B2.out.size); have O3 := hid (own_setK O2.out K2.out g3); clear k3 g3)
    | (have _t := t5; (with_reducible refine wpl_loadPk rfl _ rfl w0.heap.size rfl L3.out ?_); clear t5))
  refine (HG.out w3 B3.out).mono ?_
  rintro e w4 ⟨nb, nd, rfl, hp⟩
  have B4 := hid (kept_trans B3.out hp.2); have O4 := hid (O3.out.mono hp.2); have U4 := hid hp.1; have K4 := hid (K3.out.mono hp.2); have L4 := hid (L3.out.mono hp.2)
  clear hp
  go_wp2_with (first
    | (have _t := t6; (with_reducible refine wpl_storePk rfl _ _ rfl w0.heap.size rfl S nb S.N.length nd rfl L4.out rfl ?_); clear t6; intro w5 k5 g5; have L5 := hid k5; have K5 := hid (K4.out.grownS g5 hne.out); have B5 := hid (below_grownS B4.out g5 hle.out B4.out.size); have O5 := hid (own_setK O4.out L4.out g5); have U5 := hid (own_setK U4.out L4.out g5); clear k5 g5)
    | (have _t := t7; (with_reducible refine wpl_loadPk rfl _ rfl w.heap.size rfl K5.out ?_); clear t7))
  refine (HPut.out w5 na nc O5.out.row).mono ?_
  rintro e w6 ⟨ba, bc, rfl, ho, b6⟩
  have B6 := hid (kept_trans B5.out b6); have O6 := hid (O5.out.mono b6); have U6 := hid (U5.out.mono b6); have K6 := hid (K5.out.mono b6); have L6 := hid (L5.out.mono b6); have HB6 := hid ho
  clear ho b6
  go_wp2_with ((have _t := t8; (with_reducible refine wpl_loadPk rfl _ rfl w0.heap.size rfl L6.out ?_); clear t8))
  refine (HQut.out w6 nb nd U6.out.row).mono ?_
  rintro e w7 ⟨bb, bd, rfl, ho, b7⟩
  have B7 := hid (kept_trans B6.out b7); have O7 := hid (O6.out.mono b7); have U7 := hid (U6.out.mono b7); have K7 := hid (K6.out.mono b7); have L7 := hid (L6.out.mono b7); have HB7 := hid (HB6.out.mono b7); have HC7 := hid ho
  clear ho b7
  have B9 := hid B7.out
  obtain ⟨w9, hw9⟩ : ∃ w9, w9 = w7 := ⟨_, rfl⟩
  subst hw9
  go_wp2_with fail
  refine (lives07_any _).mono ?_
  rintro e w10 ⟨rfl, b10⟩
  have B10 := hid (kept_trans B9.out b10)
  clear b10
  go_wp2_with fail
  go_ret
  exact ⟨by simp, B10.out⟩

set_option maxRecDepth 100000 in
set_option maxHeartbeats 8000000 in
theorem WireOne_10 (w : World) (P Q : PkM) (a b : Option Addr) (c d : Nat) (hP : smallP P) (hQ : smallP Q) (ha : Row w 1 a P.N.length c (P.N.map strV)) (hb : Row w 1 b Q.N.length d (Q.N.map strV)) (h1 : putE (fewP P) = 1) (h2 : putE (fewP Q) = 0) :
    Calls Try.prog 7 #[.agg (pkC P a P.N.length c).toArray, .agg (pkC Q b Q.N.length d).toArray] w fun e w' => e = .returned (.bool true) ∧ Below w.heap.size w w' := by
  have HF := hid (fun (W : World) (h : Below w.heap.size w W) => few_any P a c W (ha.mono h))
  have HG := hid (fun (W : World) (h : Below w.heap.size w W) => few_any Q b d W (hb.mono h))
  have hm := few_may hP
  have hn := few_may hQ
  have HPut := hid (fun (W : World) (na : Option Addr) (nc : Nat) (r : Row W 1 na (fewP P).N.length nc ((fewP P).N.map strV)) => wirePut_any hm.small hm.short hm.names hm.n9 r)
  have HQut := hid (fun (W : World) (na : Option Addr) (nc : Nat) (r : Row W 1 na (fewP Q).N.length nc ((fewP Q).N.map strV)) => wirePut_any hn.small hn.short hn.names hn.n9 r)
  have HEq := hid (fun (a b : Option Addr) (c d : Nat) (W : World) (r1 : Row W 1 a (fewP P).N.length c ((fewP P).N.map strV)) (r2 : Row W 1 b (fewP Q).N.length d ((fewP Q).N.map strV)) => samePk_any (fewP P) (fewP Q) a b c d W r1 r2)
  have hbl := putB_len (fewP P)
  have hcl := putB_len (fewP Q)
  rw [h1] at HPut
  rw [h2] at HQut
  generalize fewP P = R at *
  generalize fewP Q = S at *
  generalize putB R = pb at *
  generalize putB S = qb at *
  clear ha hb hm hn h1 h2
  have hpb := hid hbl
  have hqb := hid hcl
  clear hbl hcl
  have t1 : True := trivial
  have t2 : True := trivial
  have t3 : True := trivial
  have t4 : True := trivial
  have t5 : True := trivial
  have t6 : True := trivial
  have t7 : True := trivial
  have t8 : True := trivial
  have t9 : True := trivial
  have t10 : True := trivial
  go_enter Try.func7, Try.ntmps7
  go_wp2_with (first
    | (have _t := t1; (with_reducible refine wpl_boxT rfl 35 _ rfl (pkC P a P.N.length c) rfl ?_); clear t1; intro w0 k0 b0 s0; have K0 := hid k0; have B0 := hid b0; clear k0 b0 s0)
    | (have _t := t2; (with_reducible refine wpl_boxT rfl 35 _ rfl (pkC Q b Q.N.length d) rfl ?_); clear t2; intro w1 k1 b1 s1; have K1 := hid (K0.out.mono b1); have L1 := hid k1; have B1 := hid (kept_trans B0.out b1); clear k1 b1 s1)
    | (have _t := t3; (with_reducible refine wpl_loadPk rfl _ rfl w.heap.size rfl K1.out ?_); clear t3))
  refine (HF.out w1 B1.out).mono ?_
  rintro e w2 ⟨na, nc, rfl, hp⟩
  have hne := hid (Nat.ne_of_lt K0.out.lt)
  have hle := hid (Nat.le_of_lt K0.out.lt)
  have B2 := hid (kept_trans B1.out hp.2); have O2 := hid hp.1; have K2 := hid (K1.out.mono hp.2); have L2 := hid (L1.out.mono hp.2)
  clear hp
  go_wp2_with (first
    | (have _t := t4; (with_reducible refine wpl_storePk rfl _ _ rfl w.heap.size rfl R na R.N.length nc rfl K2.out rfl ?_); clear t4; intro w3 k3 g3; have K3 := hid k3; have L3 := hid (L2.out.grownS g3 hne.out.symm); have B3 := hid (below_grownS B2.out g3 (Nat.le_refl _) B2.out.size); have O3 := hid (own_setK O2.out K2.out g3); clear k3 g3)
    | (have _t := t5; (with_reducible refine wpl_loadPk rfl _ rfl w0.heap.size rfl L3.out ?_); clear t5))
  refine (HG.out w3 B3.out).mono ?_
  rintro e w4 ⟨nb, nd, rfl, hp⟩
  have B4 := hid (kept_trans B3.out hp.2); have O4 := hid (O3.out.mono hp.2); have U4 := hid hp.1; have K4 := hid (K3.out.mono hp.2); have L4 := hid (L3.out.mono hp.2)
  clear hp
  go_wp2_with (first
    | (have _t := t6; (with_reducible refine wpl_storePk rfl _ _ rfl w0.heap.size rfl S nb S.N.length nd rfl L4.out rfl ?_); clear t6; intro w5 k5 g5; have L5 := hid k5; have K5 := hid (K4.out.grownS g5 hne.out); have B5 := hid (below_grownS B4.out g5 hle.out B4.out.size); have O5 := hid (own_setK O4.out L4.out g5); have U5 := hid (own_setK U4.out L4.out g5); clear k5 g5)
    | (have _t := t7; (with_reducible refine wpl_loadPk rfl _ rfl w.heap.size rfl K5.out ?_); clear t7))
  refine (HPut.out w5 na nc O5.out.row).mono ?_
  rintro e w6 ⟨ba, bc, rfl, ho, b6⟩
  have B6 := hid (kept_trans B5.out b6); have O6 := hid (O5.out.mono b6); have U6 := hid (U5.out.mono b6); have K6 := hid (K5.out.mono b6); have L6 := hid (L5.out.mono b6); have HB6 := hid ho
  clear ho b6
  go_wp2_with ((have _t := t8; (with_reducible refine wpl_loadPk rfl _ rfl w0.heap.size rfl L6.out ?_); clear t8))
  refine (HQut.out w6 nb nd U6.out.row).mono ?_
  rintro e w7 ⟨bb, bd, rfl, ho, b7⟩
  have B7 := hid (kept_trans B6.out b7); have O7 := hid (O6.out.mono b7); have U7 := hid (U6.out.mono b7); have K7 := hid (K6.out.mono b7); have L7 := hid (L6.out.mono b7); have HB7 := hid (HB6.out.mono b7); have HC7 := hid ho
  clear ho b7
  have B9 := hid B7.out
  obtain ⟨w9, hw9⟩ : ∃ w9, w9 = w7 := ⟨_, rfl⟩
  subst hw9
  go_wp2_with fail
  refine (lives07_any _).mono ?_
  rintro e w10 ⟨rfl, b10⟩
  have B10 := hid (kept_trans B9.out b10)
  clear b10
  go_wp2_with fail
  go_ret
  exact ⟨by simp, B10.out⟩

set_option maxRecDepth 100000 in
set_option maxHeartbeats 8000000 in
theorem WireOne_11 (w : World) (P Q : PkM) (a b : Option Addr) (c d : Nat) (hP : smallP P) (hQ : smallP Q) (ha : Row w 1 a P.N.length c (P.N.map strV)) (hb : Row w 1 b Q.N.length d (Q.N.map strV)) (h1 : putE (fewP P) = 1) (h2 : putE (fewP Q) = 1) :
    Calls Try.prog 7 #[.agg (pkC P a P.N.length c).toArray, .agg (pkC Q b Q.N.length d).toArray] w fun e w' => e = .returned (.bool true) ∧ Below w.heap.size w w' := by
  have HF := hid (fun (W : World) (h : Below w.heap.size w W) => few_any P a c W (ha.mono h))
  have HG := hid (fun (W : World) (h : Below w.heap.size w W) => few_any Q b d W (hb.mono h))
  have hm := few_may hP
  have hn := few_may hQ
  have HPut := hid (fun (W : World) (na : Option Addr) (nc : Nat) (r : Row W 1 na (fewP P).N.length nc ((fewP P).N.map strV)) => wirePut_any hm.small hm.short hm.names hm.n9 r)
  have HQut := hid (fun (W : World) (na : Option Addr) (nc : Nat) (r : Row W 1 na (fewP Q).N.length nc ((fewP Q).N.map strV)) => wirePut_any hn.small hn.short hn.names hn.n9 r)
  have HEq := hid (fun (a b : Option Addr) (c d : Nat) (W : World) (r1 : Row W 1 a (fewP P).N.length c ((fewP P).N.map strV)) (r2 : Row W 1 b (fewP Q).N.length d ((fewP Q).N.map strV)) => samePk_any (fewP P) (fewP Q) a b c d W r1 r2)
  have hbl := putB_len (fewP P)
  have hcl := putB_len (fewP Q)
  rw [h1] at HPut
  rw [h2] at HQut
  generalize fewP P = R at *
  generalize fewP Q = S at *
  generalize putB R = pb at *
  generalize putB S = qb at *
  clear ha hb hm hn h1 h2
  have hpb := hid hbl
  have hqb := hid hcl
  clear hbl hcl
  have t1 : True := trivial
  have t2 : True := trivial
  have t3 : True := trivial
  have t4 : True := trivial
  have t5 : True := trivial
  have t6 : True := trivial
  have t7 : True := trivial
  have t8 : True := trivial
  have t9 : True := trivial
  have t10 : True := trivial
  go_enter Try.func7, Try.ntmps7
  go_wp2_with (first
    | (have _t := t1; (with_reducible refine wpl_boxT rfl 35 _ rfl (pkC P a P.N.length c) rfl ?_); clear t1; intro w0 k0 b0 s0; have K0 := hid k0; have B0 := hid b0; clear k0 b0 s0)
    | (have _t := t2; (with_reducible refine wpl_boxT rfl 35 _ rfl (pkC Q b Q.N.length d) rfl ?_); clear t2; intro w1 k1 b1 s1; have K1 := hid (K0.out.mono b1); have L1 := hid k1; have B1 := hid (kept_trans B0.out b1); clear k1 b1 s1)
    | (have _t := t3; (with_reducible refine wpl_loadPk rfl _ rfl w.heap.size rfl K1.out ?_); clear t3))
  refine (HF.out w1 B1.out).mono ?_
  rintro e w2 ⟨na, nc, rfl, hp⟩
  have hne := hid (Nat.ne_of_lt K0.out.lt)
  have hle := hid (Nat.le_of_lt K0.out.lt)
  have B2 := hid (kept_trans B1.out hp.2); have O2 := hid hp.1; have K2 := hid (K1.out.mono hp.2); have L2 := hid (L1.out.mono hp.2)
  clear hp
  go_wp2_with (first
    | (have _t := t4; (with_reducible refine wpl_storePk rfl _ _ rfl w.heap.size rfl R na R.N.length nc rfl K2.out rfl ?_); clear t4; intro w3 k3 g3; have K3 := hid k3; have L3 := hid (L2.out.grownS g3 hne.out.symm); have B3 := hid (below_grownS B2.out g3 (Nat.le_refl _) B2.out.size); have O3 := hid (own_setK O2.out K2.out g3); clear k3 g3)
    | (have _t := t5; (with_reducible refine wpl_loadPk rfl _ rfl w0.heap.size rfl L3.out ?_); clear t5))
  refine (HG.out w3 B3.out).mono ?_
  rintro e w4 ⟨nb, nd, rfl, hp⟩
  have B4 := hid (kept_trans B3.out hp.2); have O4 := hid (O3.out.mono hp.2); have U4 := hid hp.1; have K4 := hid (K3.out.mono hp.2); have L4 := hid (L3.out.mono hp.2)
  clear hp
  go_wp2_with (first
    | (have _t := t6; (with_reducible refine wpl_storePk rfl _ _ rfl w0.heap.size rfl S nb S.N.length nd rfl L4.out rfl ?_); clear t6; intro w5 k5 g5; have L5 := hid k5; have K5 := hid (K4.out.grownS g5 hne.out); have B5 := hid (below_grownS B4.out g5 hle.out B4.out.size); have O5 := hid (own_setK O4.out L4.out g5); have U5 := hid (own_setK U4.out L4.out g5); clear k5 g5)
    | (have _t := t7; (with_reducible refine wpl_loadPk rfl _ rfl w.heap.size rfl K5.out ?_); clear t7))
  refine (HPut.out w5 na nc O5.out.row).mono ?_
  rintro e w6 ⟨ba, bc, rfl, ho, b6⟩
  have B6 := hid (kept_trans B5.out b6); have O6 := hid (O5.out.mono b6); have U6 := hid (U5.out.mono b6); have K6 := hid (K5.out.mono b6); have L6 := hid (L5.out.mono b6); have HB6 := hid ho
  clear ho b6
  go_wp2_with ((have _t := t8; (with_reducible refine wpl_loadPk rfl _ rfl w0.heap.size rfl L6.out ?_); clear t8))
  refine (HQut.out w6 nb nd U6.out.row).mono ?_
  rintro e w7 ⟨bb, bd, rfl, ho, b7⟩
  have B7 := hid (kept_trans B6.out b7); have O7 := hid (O6.out.mono b7); have U7 := hid (U6.out.mono b7); have K7 := hid (K6.out.mono b7); have L7 := hid (L6.out.mono b7); have HB7 := hid (HB6.out.mono b7); have HC7 := hid ho
  clear ho b7
  have B9 := hid B7.out
  obtain ⟨w9, hw9⟩ : ∃ w9, w9 = w7 := ⟨_, rfl⟩
  subst hw9
  go_wp2_with fail
  refine (lives07_any _).mono ?_
  rintro e w10 ⟨rfl, b10⟩
  have B10 := hid (kept_trans B9.out b10)
  clear b10
  go_wp2_with fail
  go_ret
  exact ⟨by simp, B10.out⟩

theorem WireOne_walk (w : World) (P : PkM) (a : Option Addr) (c : Nat) (hP : smallP P) (ha : Row w 1 a P.N.length c (P.N.map strV)) (Q : PkM) (b : Option Addr) (d : Nat) (hQ : smallP Q) (hb : Row w 1 b Q.N.length d (Q.N.map strV)) :
    Calls Try.prog 7 #[.agg (pkC P a P.N.length c).toArray, .agg (pkC Q b Q.N.length d).toArray] w fun e w' => e = .returned (.bool true) ∧ Below w.heap.size w w' := by
  rcases putE_01 (fewP P) with h1 | h1 <;> rcases putE_01 (fewP Q) with h2 | h2
  · cases h3 : eqPk (fewP P) (fewP Q) with
    | true => exact WireOne_00true w P Q a b c d hP hQ ha hb h1 h2 h3
    | false => exact WireOne_00false w P Q a b c d hP hQ ha hb h1 h2 h3
  · exact WireOne_01 w P Q a b c d hP hQ ha hb h1 h2
  · exact WireOne_10 w P Q a b c d hP hQ ha hb h1 h2
  · exact WireOne_11 w P Q a b c d hP hQ ha hb h1 h2
end Go.Proofs.Ytanediaaidfcaaa
