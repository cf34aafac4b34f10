/- What is handed in stays, and what is told is new. -/
import Derived.Test.YtanediaaidfcaaaWirTu
import Derived.Deep.RegionWith
namespace Go.Proofs.Ytanediaaidfcaaa
open Go.RowKit
set_option linter.unusedSimpArgs false
set_option linter.unusedVariables false

theorem putB_none' {P : PkM} (h : putE P = 1) : putB P = [] := by
  unfold putE at h
  unfold putB
  cases hw : putW P with
  | none => rfl
  | some e => rw [hw, Option.isSome_some, if_pos rfl] at h; cases h
theorem own_putW {w : World} {B : Nat} {e : TypeId} {g n c : Nat} {cs : List Value} (h : Own w B e 1 (some ⟨g, 0, none⟩) n c cs) {k : Nat} (hk : k < n) :
    (∃ v, w.cell? ⟨g, k, none⟩ = some v) ∧ w.frozen? ⟨g, k, none⟩ = false ∧ B ≤ g ∧ (∃ L, Blk w g e L) ∧ ∀ v, ∃ cs', Own (w.setCell ⟨g, k, none⟩ v) B e 1 (some ⟨g, 0, none⟩) n c cs' := by
  obtain ⟨L, hb, hl, hB, ht, hn, hc⟩ := Own.blk h
  refine ⟨Blk.someCell hb (by omega), Blk.frozen hb k, hB, ⟨L, hb⟩, fun v => ⟨_, Own.of_blk (Blk.set hb k v) hB hn hc (by simpa using hl)⟩⟩

set_option maxRecDepth 100000 in
set_option maxHeartbeats 4000000 in
theorem WireOwns_no (w : World) (P : PkM) (a : Option Addr) (c : Nat) (hP : smallP P) (ha : Row w 1 a P.N.length c (P.N.map strV)) (h1 : putE (fewP P) = 1) :
    Calls Try.prog 8 #[.agg (pkC P a P.N.length c).toArray] w fun e w' => e = .returned (.bool true) ∧ Below w.heap.size w w' := by
  have HF := hid (fun (W : World) (b : Below w.heap.size w W) => few_any P a c W (ha.mono b))
  have hm := few_may hP
  have HPut := hid (fun (W : World) (na : Option Addr) (nc : Nat) (r : Row W 1 na (fewP P).N.length nc ((fewP P).N.map strV)) => wirePut_any hm.small hm.short hm.names hm.n9 r)
  rw [h1, putB_none' h1] at HPut
  generalize fewP P = R at *
  clear ha hm h1
  have t1 : True := trivial
  have t2 : True := trivial
  have t3 : True := trivial
  have t4 : True := trivial
  go_enter Try.func8, Try.ntmps8
  go_wp2_with (first
    | (have _t := t1; (with_reducible refine wpl_boxT rfl 35 _ rfl (pkC P a P.N.length c) rfl ?_); clear t1; intro w1 k1 b1 s1; have K1 := hid k1; have B1 := hid b1; clear k1 b1 s1)
    | (have _t := t2; (with_reducible refine wpl_loadPk rfl _ rfl w.heap.size rfl K1.out ?_); clear t2))
  refine (HF.out w1 B1.out).mono ?_
  rintro e w2 ⟨na, nc, rfl, hp⟩
  have B2 := hid (kept_trans B1.out hp.2); have O2 := hid hp.1; have K2 := hid (K1.out.mono hp.2)
  clear hp
  go_wp2_with (first
    | (have _t := t3; (with_reducible refine wpl_storePk rfl _ _ rfl w.heap.size rfl R na R.N.length nc rfl K2.out rfl ?_); clear t3; intro w3 k3 g3; have K3 := hid k3; have B3 := hid (below_grownS B2.out g3 (Nat.le_refl _) B2.out.size); have O3 := hid (own_setK O2.out K2.out g3); clear k3 g3)
    | (have _t := t4; (with_reducible refine wpl_loadPk rfl _ rfl w.heap.size rfl K3.out ?_); clear t4))
  refine (HPut.out w3 na nc O3.out.row).mono ?_
  rintro e w4 ⟨ba, bc, rfl, ho, b4⟩
  have B4 := hid (kept_trans B3.out b4)
  clear ho b4
  go_wp2_with fail
  refine (lives07_any _).mono ?_
  rintro e w9 ⟨rfl, b9⟩
  have B9 := hid (kept_trans B4.out b9)
  clear b9
  go_wp2_with fail
  go_ret
  exact ⟨rfl, B9.out⟩

set_option maxRecDepth 100000 in
set_option maxHeartbeats 8000000 in
theorem WireOwns_yes (w : World) (P : PkM) (a : Option Addr) (c : Nat) (hP : smallP P) (ha : Row w 1 a P.N.length c (P.N.map strV)) (h1 : putE (fewP P) = 0) :
    Calls Try.prog 8 #[.agg (pkC P a P.N.length c).toArray] w fun e w' => e = .returned (.bool true) ∧ Below w.heap.size w w' := by
  have HF := hid (fun (W : World) (b : Below w.heap.size w W) => few_any P a c W (ha.mono b))
  have hm := few_may hP
  have HPut := hid (fun (W : World) (na : Option Addr) (nc : Nat) (r : Row W 1 na (fewP P).N.length nc ((fewP P).N.map strV)) => wirePut_any hm.small hm.short hm.names hm.n9 r)
  have hbl := putB_len (fewP P)
  have HRead := hid (fun (W : World) (na : Option Addr) (nc : Nat) (r : RowB W na nc (putB (fewP P))) => wireRead_any r (by omega))
  rw [(round1 hm.small h1).2] at HRead
  rw [h1] at HPut
  have hD9 := (rwP_may (putB (fewP P))).n9
  generalize rwP (putB (fewP P)) = D at *
  generalize fewP P = R at *
  generalize putB R = pb at *
  clear ha hm h1
  have HSame : Hid (∀ (W : World) (a1 a2 : Option Addr) (c1 c2 : Nat), RowB W a1 c1 pb → RowB W a2 c2 pb → Calls Try.prog 12 #[.slice a1 pb.length c1, .slice a2 pb.length c2] W fun e w' => e = .returned (.bool true) ∧ Below W.heap.size W w') := hid (fun W a1 a2 c1 c2 r1 r2 => by
    have h := same_any a1 a2 c1 c2 pb pb W r1 r2 (by omega) (by omega)
    rwa [decide_eq_true rfl] at h)
  have t1 : True := trivial
  have t2 : True := trivial
  have t3 : True := trivial
  have t4 : True := trivial
  have t5 : True := trivial
  have t6 : True := trivial
  have t7 : True := trivial
  have t8 : True := trivial
  have t9 : True := trivial
  go_enter Try.func8, Try.ntmps8
  go_wp2_with (first
    | (have _t := t1; (with_reducible refine wpl_boxT rfl 35 _ rfl (pkC P a P.N.length c) rfl ?_); clear t1; intro w1 k1 b1 s1; have K1 := hid k1; have B1 := hid b1; clear k1 b1 s1)
    | (have _t := t2; (with_reducible refine wpl_loadPk rfl _ rfl w.heap.size rfl K1.out ?_); clear t2))
  refine (HF.out w1 B1.out).mono ?_
  rintro e w2 ⟨na, nc, rfl, hp⟩
  have B2 := hid (kept_trans B1.out hp.2); have O2 := hid hp.1; have K2 := hid (K1.out.mono hp.2)
  clear hp
  go_wp2_with (first
    | (have _t := t3; (with_reducible refine wpl_storePk rfl _ _ rfl w.heap.size rfl R na R.N.length nc rfl K2.out rfl ?_); clear t3; intro w3 k3 g3; have K3 := hid k3; have B3 := hid (below_grownS B2.out g3 (Nat.le_refl _) B2.out.size); have O3 := hid (own_setK O2.out K2.out g3); clear k3 g3)
    | (have _t := t4; (with_reducible refine wpl_loadPk rfl _ rfl w.heap.size rfl K3.out ?_); clear t4))
  refine (HPut.out w3 na nc O3.out.row).mono ?_
  rintro e w4 ⟨ba, bc, rfl, ho, b4⟩
  have B4 := hid (kept_trans B3.out b4); have O4 := hid (O3.out.mono b4); have K4 := hid (K3.out.mono b4); have HB4 := hid ho
  clear ho b4
  go_wp2_with (first
    | (at_builtin; have _t := t5; refine wpl_append rfl (.tmp 29) (.tmp 30) rfl E8 w4.heap.size rfl rfl (Own.nil _ _ _ _) HB4.out.row (byteV_one pb) (by omega) (by omega) (Nat.le_refl _) ?_; clear t5; intro oa oc w5 o5 g5 b5; simp only [Nat.zero_add, List.nil_append] at o5 ⊢; have OW5 := hid o5; have B5 := hid (kept_trans B4.out b5); have O5 := hid (O4.out.mono b5); have K5 := hid (K4.out.mono b5); have HB5 := hid (HB4.out.mono b5); clear o5 g5 b5))
  refine (HRead.out w5 ba bc HB5.out.row).mono ?_
  rintro e w6 ⟨da, dc, rfl, hp⟩
  have B6 := hid (kept_trans B5.out hp.2); have F6 := hid hp.2; have V6 := hid hp.1
  clear hp
  go_wp2_with (first
    | (have _t := t6; (with_reducible refine wpl_allocPk rfl rfl ?_); clear t6; intro w7 k7 b7 s7; have L7 := hid k7; have F7 := hid (kept_trans F6.out b7); have V7 := hid (V6.out.mono b7); have hle := hid F6.out.size; clear k7 b7 s7)
    | (have _t := t7; (with_reducible refine wpl_storePk rfl _ _ rfl w6.heap.size rfl D da D.N.length dc rfl L7.out rfl ?_); clear t7; intro w8 k8 g8; have L8 := hid k8; have F8 := hid (below_grownS F7.out g8 hle.out F7.out.size); have V8 := hid (own_setK V7.out L7.out g8); clear k8 g8))
  go_loopw [8] (fun i wr => ∃ j : Nat, j ≤ D.N.length ∧ i = .int .i64 j ∧ Blk wr w6.heap.size 35 (pkC D da D.N.length dc) ∧ (∃ cs, Own wr w5.heap.size 9 1 da D.N.length dc cs) ∧ Below w5.heap.size w5 wr) (fun i _ => D.N.length - (intOf i).toNat)
  case atStart => exact ⟨0, Nat.zero_le _, rfl, L8.out, ⟨_, V8.out⟩, F8.out⟩
  case round =>
    obtain ⟨j, hj, rfl, hL, ⟨cs, hv⟩, hF⟩ := hrel
    have hcell : wr.cell? ⟨w6.heap.size, 23, none⟩ = some (.slice da D.N.length dc) := Blk.cell hL (i := 23) (by show 23 < 43; omega)
    by_cases hlt : j < D.N.length
    · obtain ⟨gv, rfl⟩ := own_someO hv (by omega)
      obtain ⟨⟨old, hold⟩, hfr, hge, ⟨LL, hLL⟩, hset⟩ := own_putW hv hlt
      have hsc := hid (hset (.string (bsW [120])))
      have hne : w6.heap.size ≠ gv := by
        intro q
        have h1 : wr.heap[w6.heap.size]? = some (.cells (pkC D (some ⟨gv, 0, none⟩) D.N.length dc).toArray 35 (0, 0)) := hL
        have h2 : wr.heap[gv]? = some (.cells LL.toArray 9 (0, 0)) := hLL
        rw [q, h2] at h1
        have h3 := Option.some.inj h1
        injection h3 with _ h4
        cases h4
      have HL := hid hL; have HF8 := hid hF; have HGE := hid hge; have HNE := hid hne
      have hv9 := hid hv
      clear hset hL hF hge hv hne hLL
      go_wp2
      go_roundw
      case rel => exact ⟨j + 1, by omega, by go_num, HL.out.grownS (sg_set (sg_refl wr (some gv)) j _) HNE.out, hsc.out, HF8.out.setCell HGE.out _⟩
      case measure => simp [intOf]; omega
    · obtain rfl : j = D.N.length := by omega
      have B9 := hid (kept_trans B5.out hF)
      have R9a := hid (HB5.out.row.mono hF); have R9o := hid (OW5.out.row.mono hF)
      have O9 := hid (O5.out.mono hF); have K9 := hid (K5.out.mono hF); have HB9 := hid (HB5.out.mono hF); have OW9 := hid (OW5.out.mono hF)
      clear hL hv hF
      go_wp2_with fail
      refine (HSame.out wr ba oa bc oc R9a.out R9o.out).mono ?_
      rintro e w10 ⟨rfl, b10⟩
      have B10 := hid (kept_trans B9.out b10); have O10 := hid (O9.out.mono b10); have K10 := hid (K9.out.mono b10); have HB10 := hid (HB9.out.mono b10); have OW10 := hid (OW9.out.mono b10)
      clear b10
      go_wp2_with fail
      go_loopw [10] (fun i wq => ∃ j : Nat, j ≤ pb.length ∧ i = .int .i64 j ∧ Blk wq w.heap.size 35 (pkC R na R.N.length nc) ∧ Own wq w1.heap.size 9 1 na R.N.length nc (R.N.map strV) ∧ (∃ cs, Own wq w3.heap.size 5 1 ba pb.length bc cs) ∧ OwnB wq w4.heap.size oa oc pb ∧ Below w.heap.size w wq) (fun i _ => pb.length - (intOf i).toNat)
      case atStart => exact ⟨0, Nat.zero_le _, rfl, K10.out, O10.out, ⟨_, HB10.out⟩, OW10.out, B10.out⟩
      case round =>
        obtain ⟨j, hj, rfl, hK, hO, ⟨cs, hv⟩, hOW, hB⟩ := hrel
        by_cases hlt : j < pb.length
        · obtain ⟨gb, rfl⟩ := own_someO hv (by omega)
          obtain ⟨⟨old, hold⟩, hfr, hge, ⟨LL, hLL⟩, hset⟩ := own_putW hv hlt
          have hsc := hid (hset (.int .u8 7))
          have hlt4 : gb < w4.heap.size := by obtain ⟨_, hq, _⟩ := Own.blk HB4.out; exact hq.lt
          have hne : w.heap.size ≠ gb := by have := K3.out.lt; omega
          have hwl : w.heap.size ≤ gb := by have := K3.out.lt; omega
          have HK := hid (hK.grownS (sg_set (sg_refl _ (some gb)) j (.int .u8 7)) hne)
          have HO := hid (own_setK hO hLL (sg_set (sg_refl _ (some gb)) j (.int .u8 7)))
          have HOW := hid (own_grownO hOW (sg_set (sg_refl _ (some gb)) j (.int .u8 7)) hlt4)
          have HBB := hid (hB.setCell (p := ⟨gb, j, none⟩) hwl (.int .u8 7))
          clear hset hK hO hge hv hne hLL hOW hB hwl hlt4
          go_wp2
          go_roundw
          case rel => exact ⟨j + 1, by omega, by go_num, HK.out, HO.out, hsc.out, HOW.out, HBB.out⟩
          case measure => simp [intOf]; omega
        · obtain rfl : j = pb.length := by omega
          have K11 := hid hK; have O11 := hid hO; have OW11 := hid hOW; have B11 := hid hB
          clear hK hO hv hOW hB
          go_wp2_with ((have _t := t8; (with_reducible refine wpl_loadPk rfl _ rfl w.heap.size rfl K11.out ?_); clear t8))
          refine (HPut.out _ na nc O11.out.row).mono ?_
          rintro e w12 ⟨bb, bd, rfl, ho, b12⟩
          have B12 := hid (kept_trans B11.out b12); have HC12 := hid ho; have OW12 := hid (OW11.out.mono b12)
          clear ho b12
          go_wp2_with fail
          refine (HSame.out w12 bb oa bd oc HC12.out.row OW12.out.row).mono ?_
          rintro e w13 ⟨rfl, b13⟩
          have B13 := hid (kept_trans B12.out b13)
          clear b13
          go_wp2_with fail
          refine (lives07_any _).mono ?_
          rintro e w14 ⟨rfl, b14⟩
          have B14 := hid (kept_trans B13.out b14)
          clear b14
          go_wp2_with fail
          go_ret
          exact ⟨rfl, B14.out⟩

theorem WireOwns_walk (w : World) (P : PkM) (a : Option Addr) (c : Nat) (hP : smallP P) (ha : Row w 1 a P.N.length c (P.N.map strV)) :
    Calls Try.prog 8 #[.agg (pkC P a P.N.length c).toArray] w fun e w' => e = .returned (.bool true) ∧ Below w.heap.size w w' := by
  rcases putE_01 (fewP P) with h1 | h1
  · exact WireOwns_yes w P a c hP ha h1
  · exact WireOwns_no w P a c hP ha h1
end Go.Proofs.Ytanediaaidfcaaa
