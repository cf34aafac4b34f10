/- A packet is put as the document's bytes. -/
import Derived.Test.YtanediaaidfcaaaWirFq
namespace Go.Proofs.Ytanediaaidfcaaa
open Go.RowKit
set_option linter.unusedSimpArgs false
set_option linter.unusedVariables false

set_option maxRecDepth 100000 in
set_option maxHeartbeats 4000000 in
theorem WirePuts_walk (w : World) (P : PkM) (a : Option Addr) (c : Nat) (hP : smallP P) (ha : Row w 1 a P.N.length c (P.N.map strV)) :
    Calls Try.prog 3 #[.agg (pkC P a P.N.length c).toArray] w fun e w' => e = .returned (.bool true) ∧ Below w.heap.size w w' := by
  have HF := hid (fun (W : World) (b : Below w.heap.size w W) => few_any P a c W (ha.mono b))
  have hm := few_may hP
  have HPut := hid (fun (W : World) (na : Option Addr) (nc : Nat) (r : Row W 1 na (fewP P).N.length nc ((fewP P).N.map strV)) => wirePut_any hm.small hm.short hm.names hm.n9 r)
  have HRef := hid (fun (W : World) (na : Option Addr) (nc : Nat) (r : Row W 1 na (fewP P).N.length nc ((fewP P).N.map strV)) => putRef07_any hm.small hm.short hm.names hm.n9 r)
  have hbl := putB_len (fewP P)
  generalize fewP P = R at *
  generalize putB R = pb at *
  generalize putE R = pe at *
  clear ha hm
  have HSame : Hid (∀ (W : World) (a1 a2 : Option Addr) (c1 c2 : Nat), RowB W a1 c1 pb → RowB W a2 c2 pb → Calls Try.prog 12 #[.slice a1 pb.length c1, .slice a2 pb.length c2] W fun e w' => e = .returned (.bool true) ∧ Below W.heap.size W w') := hid (fun W a1 a2 c1 c2 r1 r2 => by
    have h := same_any a1 a2 c1 c2 pb pb W r1 r2 (by omega) (by omega)
    rwa [decide_eq_true rfl] at h)
  have hpb := hid hbl
  clear hbl
  have t1 : True := trivial
  have t2 : True := trivial
  have t3 : True := trivial
  have t4 : True := trivial
  go_enter Try.func3, Try.ntmps3
  go_wp2_with (first
    | (have _t := t1; (with_reducible refine wpl_boxT rfl 35 _ rfl (pkC P a P.N.length c) rfl ?_); clear t1; intro w1 k1 b1 s1; have K1 := hid k1; have B1 := hid b1; clear k1 b1 s1)
    | (have _t := t2; (with_reducible refine wpl_loadPk rfl _ rfl w.heap.size rfl K1.out ?_); clear t2))
  refine (HF.out w1 B1.out).mono ?_
  rintro e w2 ⟨na, nc, rfl, hp⟩
  have B2 := hid (kept_trans B1.out hp.2); have O2 := hid hp.1; have K2 := hid (K1.out.mono hp.2)
  clear hp
  go_wp2_with (first
    | (have _t := t3; (with_reducible refine wpl_storePk rfl _ _ rfl w.heap.size rfl R na R.N.length nc rfl K2.out rfl ?_); clear t3; intro w3 k3 g3; have K3 := hid k3; have B3 := hid (below_grownS B2.out g3 (Nat.le_refl _) B2.out.size); have O3 := hid (own_setK O2.out K2.out g3); clear k3 g3)
    | (have _t := t4; (with_reducible refine wpl_loadPk rfl _ rfl w.heap.size rfl K3.out ?_); clear t4))
  refine (HPut.out w3 na nc O3.out.row).mono ?_
  rintro e w4 ⟨ba, bc, rfl, ho, b4⟩
  have B4 := hid (kept_trans B3.out b4); have O4 := hid (O3.out.mono b4); have K4 := hid (K3.out.mono b4); have HB := hid ho
  clear ho b4
  have t5 : True := trivial
  go_wp2_with ((have _t := t5; (with_reducible refine wpl_loadPk rfl _ rfl w.heap.size rfl K4.out ?_); clear t5))
  refine (HRef.out w4 na nc O4.out.row).mono ?_
  rintro e w5 ⟨bb, bd, rfl, ho, b5⟩
  have B5 := hid (kept_trans B4.out b5); have HC := hid ho; have HB5 := hid (HB.out.mono b5)
  clear ho b5
  go_wp2_with fail
  refine (HSame.out w5 ba bb bc bd HB5.out.row HC.out.row).mono ?_
  rintro e w6 ⟨rfl, b6⟩
  have B6 := hid (kept_trans B5.out b6)
  clear b6
  go_wp2_with fail
  refine (lives07_any w6).mono ?_
  rintro e w7 ⟨rfl, b7⟩
  have B7 := hid (kept_trans B6.out b7)
  clear b7
  go_wp2_with fail
  go_ret
  exact ⟨by simp, B7.out⟩
end Go.Proofs.Ytanediaaidfcaaa
