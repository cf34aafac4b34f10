/- A packet with one byte turned is refused. (genWirTurn.py) -/
import Derived.Test.YtanediaaidfcaaaWirTu
namespace Go.Proofs.Ytanediaaidfcaaa
open Go.RowKit
set_option linter.unusedSimpArgs false
set_option linter.unusedVariables false
theorem putB_none {P : PkM} (h : putE P = 1) : putB P = [] := by
  unfold putE at h
  unfold putB
  cases hw : putW P with
  | none => rfl
  | some e => rw [hw, Option.isSome_some, if_pos rfl] at h; cases h

set_option maxRecDepth 100000 in
set_option maxHeartbeats 8000000 in
theorem WireTurned_no (w : World) (P : PkM) (a : Option Addr) (c : Nat) (hP : smallP P) (ha : Row w 1 a P.N.length c (P.N.map strV)) (at_ : Int) (hat : (Lit.int .i64 at_).wf = true) (X : Nat) (hX : X < 256) (h1 : putE (fewP P) = 1) :
    Calls Try.prog 6 #[.agg (pkC P a P.N.length c).toArray, .int .i64 at_, .int .u8 (X : Int)] w fun e w' => e = .returned (.bool true) ∧ Below w.heap.size w w' := by
  have hab := i64_bd hat
  clear hat
  have HF := hid (fun (W : World) (h : Below w.heap.size w W) => few_any P a c W (ha.mono h))
  have hm := few_may hP
  have HPut := hid (fun (W : World) (na : Option Addr) (nc : Nat) (r : Row W 1 na (fewP P).N.length nc ((fewP P).N.map strV)) => wirePut_any hm.small hm.short hm.names hm.n9 r)
  have hbl := putB_len (fewP P)
  rw [h1] at HPut
  rw [putB_none h1] at HPut
  clear ha hm h1 hbl
  generalize fewP P = R at *
  have t1 : True := trivial
  have t2 : True := trivial
  have t3 : True := trivial
  have t4 : True := trivial
  go_enter Try.func6, Try.ntmps6
  go_wp2_with (first
    | (have _t := t1; (with_reducible refine wpl_boxT rfl 35 _ rfl (pkC P a P.N.length c) rfl ?_); clear t1; intro w1 k1 b1 s1; have K1 := hid k1; have B1 := hid b1; clear k1 b1 s1)
    | (have _t := t2; (with_reducible refine wpl_loadPk rfl _ rfl w.heap.size rfl K1.out ?_); clear t2))
  refine (HF.out w1 B1.out).mono ?_
  rintro e w2 ⟨na, nc, rfl, hp⟩
  have B2 := hid (kept_trans B1.out hp.2); have O2 := hid hp.1
  clear hp
  go_wp2_with fail
  refine (HPut.out w2 na nc O2.out.row).mono ?_
  rintro e w3 ⟨ba, bc, rfl, ho, b3⟩
  have B3 := hid (kept_trans B2.out b3)
  clear ho b3
  go_wp2_with fail
  refine (lives07_any _).mono ?_
  rintro e w9 ⟨rfl, b9⟩
  have B9 := hid (kept_trans B3.out b9)
  clear b9
  go_wp2_with fail
  go_ret
  exact ⟨rfl, B9.out⟩

set_option maxRecDepth 100000 in
set_option maxHeartbeats 8000000 in
theorem WireTurned_nil (w : World) (P : PkM) (a : Option Addr) (c : Nat) (hP : smallP P) (ha : Row w 1 a P.N.length c (P.N.map strV)) (at_ : Int) (hat : (Lit.int .i64 at_).wf = true) (X : Nat) (hX : X < 256) (h1 : putE (fewP P) = 0) (hX0 : X = 0) :
    Calls Try.prog 6 #[.agg (pkC P a P.N.length c).toArray, .int .i64 at_, .int .u8 (X : Int)] w fun e w' => e = .returned (.bool true) ∧ Below w.heap.size w w' := by
  have hab := i64_bd hat
  clear hat
  have HF := hid (fun (W : World) (h : Below w.heap.size w W) => few_any P a c W (ha.mono h))
  have hm := few_may hP
  have HPut := hid (fun (W : World) (na : Option Addr) (nc : Nat) (r : Row W 1 na (fewP P).N.length nc ((fewP P).N.map strV)) => wirePut_any hm.small hm.short hm.names hm.n9 r)
  have hbl := putB_len (fewP P)
  rw [h1] at HPut
  obtain ⟨e, _, _, e3⟩ := putE_zero h1
  have hn4 : 4 ≤ (putB (fewP P)).length := by rw [e3, List.length_append, le_length]; omega
  subst hX0
  clear ha hm h1 e3
  generalize fewP P = R at *
  generalize putB R = pb at *
  have hnz : ¬ ((pb.length : Int) = 0) := by omega
  have hnz2 : ¬ (pb.length = 0) := by omega
  have hnz3 : decide ((pb.length : Int) = 0) = false := decide_eq_false hnz
  have hnz4 : decide (pb.length = 0) = false := decide_eq_false hnz2
  have hgt : (0 : Int) < (pb.length : Int) := by omega
  have t1 : True := trivial
  have t2 : True := trivial
  have t3 : True := trivial
  have t4 : True := trivial
  go_enter Try.func6, Try.ntmps6
  go_wp2_with (first
    | (have _t := t1; (with_reducible refine wpl_boxT rfl 35 _ rfl (pkC P a P.N.length c) rfl ?_); clear t1; intro w1 k1 b1 s1; have K1 := hid k1; have B1 := hid b1; clear k1 b1 s1)
    | (have _t := t2; (with_reducible refine wpl_loadPk rfl _ rfl w.heap.size rfl K1.out ?_); clear t2))
  refine (HF.out w1 B1.out).mono ?_
  rintro e w2 ⟨na, nc, rfl, hp⟩
  have B2 := hid (kept_trans B1.out hp.2); have O2 := hid hp.1
  clear hp
  go_wp2_with fail
  refine (HPut.out w2 na nc O2.out.row).mono ?_
  rintro e w3 ⟨ba, bc, rfl, ho, b3⟩
  have B3 := hid (kept_trans B2.out b3)
  clear ho b3
  go_wp2_with fail
  refine (lives07_any _).mono ?_
  rintro e w9 ⟨rfl, b9⟩
  have B9 := hid (kept_trans B3.out b9)
  clear b9
  go_wp2_with fail
  go_ret
  exact ⟨rfl, B9.out⟩

set_option maxRecDepth 100000 in
set_option maxHeartbeats 8000000 in
theorem WireTurned_neg (w : World) (P : PkM) (a : Option Addr) (c : Nat) (hP : smallP P) (ha : Row w 1 a P.N.length c (P.N.map strV)) (at_ : Int) (hat : (Lit.int .i64 at_).wf = true) (X : Nat) (hX : X < 256) (h1 : putE (fewP P) = 0) (hX0 : ¬ X = 0) (h0 : at_ < 0) :
    Calls Try.prog 6 #[.agg (pkC P a P.N.length c).toArray, .int .i64 at_, .int .u8 (X : Int)] w fun e w' => e = .returned (.bool true) ∧ Below w.heap.size w w' := by
  have hab := i64_bd hat
  clear hat
  have HF := hid (fun (W : World) (h : Below w.heap.size w W) => few_any P a c W (ha.mono h))
  have hm := few_may hP
  have HPut := hid (fun (W : World) (na : Option Addr) (nc : Nat) (r : Row W 1 na (fewP P).N.length nc ((fewP P).N.map strV)) => wirePut_any hm.small hm.short hm.names hm.n9 r)
  have hbl := putB_len (fewP P)
  rw [h1] at HPut
  obtain ⟨e, _, _, e3⟩ := putE_zero h1
  have hn4 : 4 ≤ (putB (fewP P)).length := by rw [e3, List.length_append, le_length]; omega
  have turned := fun (m : Nat) (x : UInt8) (hm : m < (putB (fewP P)).length) (hx : x ≠ 0) => show rwE ((putB (fewP P)).set m ((putB (fewP P)).getD m 0 ^^^ x)) = 4 by rw [e3] at hm ⊢; exact turned07 hm hx
  clear ha hm h1 e3
  generalize fewP P = R at *
  generalize putB R = pb at *
  have hnz : ¬ ((pb.length : Int) = 0) := by omega
  have hnz2 : ¬ (pb.length = 0) := by omega
  have hnz3 : decide ((pb.length : Int) = 0) = false := decide_eq_false hnz
  have hnz4 : decide (pb.length = 0) = false := decide_eq_false hnz2
  have hX0' : ¬ ((X : Int) = 0) := by omega
  have hq1 : ((pb.length : Int) == 0) = false := beq_eq_false_iff_ne.2 hnz
  have hq2 : ((X : Int) == 0) = false := beq_eq_false_iff_ne.2 hX0'
  have hq3 : (((pb.length : Int) == 0) || ((X : Int) == 0)) = false := by rw [hq1, hq2]; rfl
  obtain ⟨A, hA, hAlt⟩ : ∃ A : Nat, (-(at_ + 1)) % (pb.length : Int) = (A : Int) ∧ A < pb.length := by
    have h1 := Int.emod_nonneg (-(at_ + 1)) hnz
    have h2 := Int.emod_lt_of_pos (-(at_ + 1)) (by omega : (0 : Int) < (pb.length : Int))
    obtain ⟨A, e⟩ := Int.eq_ofNat_of_zero_le h1
    exact ⟨A, e, by omega⟩
  replace hA := neg_tmod_of' h0 (by omega) hA
  have hx8 : UInt8.ofNat X ≠ 0 := by
    intro e
    have := congrArg UInt8.toNat e
    simp at this; omega
  have TU := turned A (UInt8.ofNat X) hAlt hx8
  have HRead := hid (fun (W : World) (na : Option Addr) (nc : Nat) (r : RowB W na nc (pb.set A (pb.getD A 0 ^^^ UInt8.ofNat X))) => wireRead_any r (by rw [List.length_set]; omega))
  rw [TU] at HRead
  simp only [List.length_set] at HRead
  generalize rwP (pb.set A (pb.getD A 0 ^^^ UInt8.ofNat X)) = D at *
  have hAi : (A : Int) < (pb.length : Int) := by omega
  have hA0 : (0 : Int) ≤ (A : Int) := by omega
  clear turned TU hx8
  have t1 : True := trivial
  have t2 : True := trivial
  have t3 : True := trivial
  have t4 : True := trivial
  go_enter Try.func6, Try.ntmps6
  go_wp2_with (first
    | (have _t := t1; (with_reducible refine wpl_boxT rfl 35 _ rfl (pkC P a P.N.length c) rfl ?_); clear t1; intro w1 k1 b1 s1; have K1 := hid k1; have B1 := hid b1; clear k1 b1 s1)
    | (have _t := t2; (with_reducible refine wpl_loadPk rfl _ rfl w.heap.size rfl K1.out ?_); clear t2))
  refine (HF.out w1 B1.out).mono ?_
  rintro e w2 ⟨na, nc, rfl, hp⟩
  have B2 := hid (kept_trans B1.out hp.2); have O2 := hid hp.1
  clear hp
  go_wp2_with fail
  refine (HPut.out w2 na nc O2.out.row).mono ?_
  rintro e w3 ⟨ba, bc, rfl, ho, b3⟩
  have b3' := kept_trans B2.out b3
  have r1 := ho.row
  obtain ⟨g, o', rfl, _, _⟩ := r1.at (by omega)
  have ho' : o' = 0 := by
    rcases ho.2 with ⟨h, _⟩ | ⟨_, _, _, h, _⟩ <;> cases h; rfl
  subst ho'
  obtain ⟨Z, hblk, hBg, hZ, hZc⟩ := own_bytes ho
  obtain ⟨_, _, e0, _, hcell⟩ := r1.bytes (by omega)
  cases e0
  have hc0 := hcell A (by omega)
  rw [Nat.zero_add] at hc0
  have hf0 := hblk.frozen A
  have hxb0 := bAt_lt pb A
  have hBg' : w.heap.size ≤ g := Nat.le_trans B2.out.size hBg
  clear ho hcell r1 b3
  have HBLK := hid hblk; have B3 := hid b3'; clear hblk b3'
  go_wp2_with fail
  have hb2 := set_blk HBLK.out (A := A) (by omega) (pb.getD A 0 ^^^ UInt8.ofNat X)
  rw [xor_byte pb A hX] at hb2
  have b4 : Below w.heap.size w (w3.setCell ⟨g, A, none⟩ (.int .u8 (bits BinOp.xor IntKind.u8 (bAt pb A : Int) (X : Int)))) := B3.out.setCell hBg' (.int .u8 (bits BinOp.xor IntKind.u8 (bAt pb A : Int) (X : Int)))
  clear hc0 hf0
  generalize World.setCell _ _ _ = w4 at *
  have B4 := hid b4
  clear b4
  refine (HRead.out w4 (some ⟨g, 0, none⟩) bc (blk_row hb2 (by rw [List.length_set]; exact hZc) (by omega))).mono ?_
  rintro e w5 ⟨da, dc, rfl, hp⟩
  have B5 := hid (kept_trans B4.out hp.2)
  clear hp hb2
  go_wp2_with (first
    | (have _t := t3; (with_reducible refine wpl_allocPk rfl rfl ?_); clear t3; intro w6 k6 b6 s6; have L6 := hid k6; have B6 := hid (kept_trans B5.out b6); clear k6 b6 s6)
    | (have _t := t4; (with_reducible refine wpl_storePk rfl _ _ rfl w5.heap.size rfl D da D.N.length dc rfl L6.out rfl ?_); clear t4; intro w7 k7 g7; have B7 := hid (below_grownS B6.out g7 B5.out.size B6.out.size); clear k7 g7))
  refine (lives07_any _).mono ?_
  rintro e w9 ⟨rfl, b9⟩
  have B9 := hid (kept_trans B7.out b9)
  clear b9
  go_wp2_with fail
  go_ret
  exact ⟨rfl, B9.out⟩

set_option maxRecDepth 100000 in
set_option maxHeartbeats 8000000 in
theorem WireTurned_pos (w : World) (P : PkM) (a : Option Addr) (c : Nat) (hP : smallP P) (ha : Row w 1 a P.N.length c (P.N.map strV)) (at_ : Int) (hat : (Lit.int .i64 at_).wf = true) (X : Nat) (hX : X < 256) (h1 : putE (fewP P) = 0) (hX0 : ¬ X = 0) (h0 : 0 ≤ at_) :
    Calls Try.prog 6 #[.agg (pkC P a P.N.length c).toArray, .int .i64 at_, .int .u8 (X : Int)] w fun e w' => e = .returned (.bool true) ∧ Below w.heap.size w w' := by
  have hab := i64_bd hat
  clear hat
  have HF := hid (fun (W : World) (h : Below w.heap.size w W) => few_any P a c W (ha.mono h))
  have hm := few_may hP
  have HPut := hid (fun (W : World) (na : Option Addr) (nc : Nat) (r : Row W 1 na (fewP P).N.length nc ((fewP P).N.map strV)) => wirePut_any hm.small hm.short hm.names hm.n9 r)
  have hbl := putB_len (fewP P)
  rw [h1] at HPut
  obtain ⟨e, _, _, e3⟩ := putE_zero h1
  have hn4 : 4 ≤ (putB (fewP P)).length := by rw [e3, List.length_append, le_length]; omega
  have turned := fun (m : Nat) (x : UInt8) (hm : m < (putB (fewP P)).length) (hx : x ≠ 0) => show rwE ((putB (fewP P)).set m ((putB (fewP P)).getD m 0 ^^^ x)) = 4 by rw [e3] at hm ⊢; exact turned07 hm hx
  clear ha hm h1 e3
  generalize fewP P = R at *
  generalize putB R = pb at *
  have hnz : ¬ ((pb.length : Int) = 0) := by omega
  have hnz2 : ¬ (pb.length = 0) := by omega
  have hnz3 : decide ((pb.length : Int) = 0) = false := decide_eq_false hnz
  have hnz4 : decide (pb.length = 0) = false := decide_eq_false hnz2
  have hX0' : ¬ ((X : Int) = 0) := by omega
  have hq1 : ((pb.length : Int) == 0) = false := beq_eq_false_iff_ne.2 hnz
  have hq2 : ((X : Int) == 0) = false := beq_eq_false_iff_ne.2 hX0'
  have hq3 : (((pb.length : Int) == 0) || ((X : Int) == 0)) = false := by rw [hq1, hq2]; rfl
  obtain ⟨A, hA, hAlt⟩ : ∃ A : Nat, (at_) % (pb.length : Int) = (A : Int) ∧ A < pb.length := by
    have h1 := Int.emod_nonneg (at_) hnz
    have h2 := Int.emod_lt_of_pos (at_) (by omega : (0 : Int) < (pb.length : Int))
    obtain ⟨A, e⟩ := Int.eq_ofNat_of_zero_le h1
    exact ⟨A, e, by omega⟩
  have hA' : at_.tmod (pb.length : Int) = (A : Int) := by rw [Int.tmod_eq_emod_of_nonneg h0]; exact hA
  have hx8 : UInt8.ofNat X ≠ 0 := by
    intro e
    have := congrArg UInt8.toNat e
    simp at this; omega
  have TU := turned A (UInt8.ofNat X) hAlt hx8
  have HRead := hid (fun (W : World) (na : Option Addr) (nc : Nat) (r : RowB W na nc (pb.set A (pb.getD A 0 ^^^ UInt8.ofNat X))) => wireRead_any r (by rw [List.length_set]; omega))
  rw [TU] at HRead
  simp only [List.length_set] at HRead
  generalize rwP (pb.set A (pb.getD A 0 ^^^ UInt8.ofNat X)) = D at *
  have hAi : (A : Int) < (pb.length : Int) := by omega
  have hA0 : (0 : Int) ≤ (A : Int) := by omega
  clear turned TU hx8
  have t1 : True := trivial
  have t2 : True := trivial
  have t3 : True := trivial
  have t4 : True := trivial
  go_enter Try.func6, Try.ntmps6
  go_wp2_with (first
    | (have _t := t1; (with_reducible refine wpl_boxT rfl 35 _ rfl (pkC P a P.N.length c) rfl ?_); clear t1; intro w1 k1 b1 s1; have K1 := hid k1; have B1 := hid b1; clear k1 b1 s1)
    | (have _t := t2; (with_reducible refine wpl_loadPk rfl _ rfl w.heap.size rfl K1.out ?_); clear t2))
  refine (HF.out w1 B1.out).mono ?_
  rintro e w2 ⟨na, nc, rfl, hp⟩
  have B2 := hid (kept_trans B1.out hp.2); have O2 := hid hp.1
  clear hp
  go_wp2_with fail
  refine (HPut.out w2 na nc O2.out.row).mono ?_
  rintro e w3 ⟨ba, bc, rfl, ho, b3⟩
  have b3' := kept_trans B2.out b3
  have r1 := ho.row
  obtain ⟨g, o', rfl, _, _⟩ := r1.at (by omega)
  have ho' : o' = 0 := by
    rcases ho.2 with ⟨h, _⟩ | ⟨_, _, _, h, _⟩ <;> cases h; rfl
  subst ho'
  obtain ⟨Z, hblk, hBg, hZ, hZc⟩ := own_bytes ho
  obtain ⟨_, _, e0, _, hcell⟩ := r1.bytes (by omega)
  cases e0
  have hc0 := hcell A (by omega)
  rw [Nat.zero_add] at hc0
  have hf0 := hblk.frozen A
  have hxb0 := bAt_lt pb A
  have hBg' : w.heap.size ≤ g := Nat.le_trans B2.out.size hBg
  clear ho hcell r1 b3
  have HBLK := hid hblk; have B3 := hid b3'; clear hblk b3'
  go_wp2_with fail
  have hb2 := set_blk HBLK.out (A := A) (by omega) (pb.getD A 0 ^^^ UInt8.ofNat X)
  rw [xor_byte pb A hX] at hb2
  have b4 : Below w.heap.size w (w3.setCell ⟨g, A, none⟩ (.int .u8 (bits BinOp.xor IntKind.u8 (bAt pb A : Int) (X : Int)))) := B3.out.setCell hBg' (.int .u8 (bits BinOp.xor IntKind.u8 (bAt pb A : Int) (X : Int)))
  clear hc0 hf0
  generalize World.setCell _ _ _ = w4 at *
  have B4 := hid b4
  clear b4
  refine (HRead.out w4 (some ⟨g, 0, none⟩) bc (blk_row hb2 (by rw [List.length_set]; exact hZc) (by omega))).mono ?_
  rintro e w5 ⟨da, dc, rfl, hp⟩
  have B5 := hid (kept_trans B4.out hp.2)
  clear hp hb2
  go_wp2_with (first
    | (have _t := t3; (with_reducible refine wpl_allocPk rfl rfl ?_); clear t3; intro w6 k6 b6 s6; have L6 := hid k6; have B6 := hid (kept_trans B5.out b6); clear k6 b6 s6)
    | (have _t := t4; (with_reducible refine wpl_storePk rfl _ _ rfl w5.heap.size rfl D da D.N.length dc rfl L6.out rfl ?_); clear t4; intro w7 k7 g7; have B7 := hid (below_grownS B6.out g7 B5.out.size B6.out.size); clear k7 g7))
  refine (lives07_any _).mono ?_
  rintro e w9 ⟨rfl, b9⟩
  have B9 := hid (kept_trans B7.out b9)
  clear b9
  go_wp2_with fail
  go_ret
  exact ⟨rfl, B9.out⟩

theorem WireTurned_walk (w : World) (P : PkM) (a : Option Addr) (c : Nat) (hP : smallP P) (ha : Row w 1 a P.N.length c (P.N.map strV)) (at_ : Int) (hat : (Lit.int .i64 at_).wf = true) (x : Int) (hx : (Lit.int .u8 x).wf = true) :
    Calls Try.prog 6 #[.agg (pkC P a P.N.length c).toArray, .int .i64 at_, .int .u8 x] w fun e w' => e = .returned (.bool true) ∧ Below w.heap.size w w' := by
  have hxb := u8_bd hx
  obtain ⟨X, rfl⟩ := Int.eq_ofNat_of_zero_le hxb.1
  have hX : X < 256 := by omega
  rcases putE_01 (fewP P) with h1 | h1
  · by_cases hX0 : X = 0
    · exact WireTurned_nil w P a c hP ha at_ hat X hX h1 hX0
    · rcases (by omega : at_ < 0 ∨ 0 ≤ at_) with h0 | h0
      · exact WireTurned_neg w P a c hP ha at_ hat X hX h1 hX0 h0
      · exact WireTurned_pos w P a c hP ha at_ hat X hX h1 hX0 h0
  · exact WireTurned_no w P a c hP ha at_ hat X hX h1
end Go.Proofs.Ytanediaaidfcaaa
