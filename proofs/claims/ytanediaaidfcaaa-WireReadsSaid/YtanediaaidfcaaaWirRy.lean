/- The document's Read. (genWirRead.py) -/
import Derived.Test.YtanediaaidfcaaaWirMj
import Derived.Test.YtanediaaidfcaaaWirLb
namespace Go.Proofs.Ytanediaaidfcaaa
open Go.RowKit
set_option linter.unusedSimpArgs false
set_option linter.unusedVariables false

set_option maxRecDepth 100000 in
set_option maxHeartbeats 8000000 in
/-- the document's Read of a body with a right sum: walked behind its first words -/
theorem read07_ok {w : World} {a : Option Addr} {c : Nat} {xs : List UInt8} {m : Nat} (hm : m = xs.length) (hl : xs.length ≤ 500) (r0 : ∀ W, Below w.heap.size w W → RowB W a c xs) (hcap : m + 4 ≤ c) (hc9 : c ≤ 9223372036854775807)
    {ss : List UInt8} (HSeal : Hid (∀ W : World, Below w.heap.size w W → Calls Try.prog 17 #[.slice a m c] W (RetB W ss)))
    (HSame : Hid (∀ (W : World) (sa : Option Addr) (sc : Nat), Below w.heap.size w W → RowB W sa sc ss → Calls Try.prog 12 #[.slice sa ss.length sc, .slice a (m + 4) c] W fun e w' => e = .returned (.bool true) ∧ Below W.heap.size W w')) :
    Calls Try.prog 15 #[.slice a (m + 4) c] w fun e w' => ∃ na nc, e = .returned (.tuple #[.agg (pkC (dP xs) na (dP xs).N.length nc).toArray, .int .i64 (dE xs)]) ∧ PkO w w' (dP xs) na nc := by
  have t1 : True := trivial
  have t2 : True := trivial
  have t3 : True := trivial
  have ez0 : IntKind.i64.wrap ((m : Int) + 4 - 4) = (m : Int) := by rw [show (m : Int) + 4 - 4 = m by omega]; exact IntWalk.i64_in _ (by omega)
  have ez1 : IntKind.i64.wrap (((m + 4 : Nat) : Int) - 4) = (m : Int) := by rw [show ((m + 4 : Nat) : Int) - 4 = m by omega]; exact IntWalk.i64_in _ (by omega)
  have d1 : decide ((m : Int) < 0) = false := decide_eq_false (by omega)
  have d2 : decide ((m : Int) + 4 < 4) = false := decide_eq_false (by omega)
  have d3 : decide (((m + 4 : Nat) : Int) < 4) = false := decide_eq_false (by omega)
  have i0 : 0 ≤ (m : Int) := by omega
  have i1 : (m : Int) ≤ (c : Int) := by omega
  obtain ⟨rs, hrsw⟩ : ∃ rs, rs = w.heap.size := ⟨_, rfl⟩
  have HM := hid hm
  have HRW := hid r0
  clear hm r0
  go_enter Try.func15, Try.ntmps15
  go_wp2_with (first
    | (have _t := t1; (with_reducible refine wpl_allocPk rfl rfl ?_); clear t1; intro w1 k1 b1 s1; have K1 := hid k1; have B1 := hid b1; have S1 := hid s1; clear k1 b1 s1)
    | (have _t := t2; (with_reducible refine wpl_allocPk rfl rfl ?_); clear t2; intro w5 k5 b5 s5; refine wpk_enterH (N := 139) (l := [(6, .pointer (some ⟨w4.heap.size, 0, none⟩)), (5, .pointer (some ⟨w3.heap.size, 0, none⟩)), (2, .pointer (some ⟨w.heap.size, 0, none⟩))]) ⟨rfl, (by intro x hx; simp only [List.mem_cons, List.not_mem_nil, or_false] at hx; rcases hx with rfl | rfl | rfl <;> rfl), rfl⟩ fun a0 h0 => ?_; have K5 := hid k5; have B5 := hid b5; have S5 := hid s5; clear k5 b5 s5)
    | (go_at_call 17; refine (HSeal.out w1 B1.out).mono ?_; rintro e w2 ⟨sa, sc, rfl, os, b2⟩; have B2 := hid b2; have OS := hid os; clear b2 os)
    | (go_at_call 12; refine (HSame.out w2 sa sc (kept_trans B1.out B2.out) OS.out.row).mono ?_; rintro e w3 ⟨rfl, b3⟩; have B3 := hid b3; clear b3)
    | (have _t := t3; (with_reducible refine wpl_boxT rfl 64 _ rfl [.slice a m c, .int .i64 0, .bool false] rfl ?_); clear t3; intro w4 k4 b4 s4; have K4 := hid k4; have B4 := hid b4; have S4 := hid s4; clear k4 b4 s4))
  refine hid ?_
  obtain ⟨g, hgw⟩ : ∃ g, g = w3.heap.size := ⟨_, rfl⟩
  obtain ⟨pk, hpw⟩ : ∃ g, g = w4.heap.size := ⟨_, rfl⟩
  rw [← hgw, ← hpw, ← hrsw] at h0
  obtain ⟨W0, hW0⟩ : ∃ W, W = w1 := ⟨_, rfl⟩
  have B13 : Below w1.heap.size w1 w3 := kept_trans B2.out B3.out
  have hg : W0.heap.size ≤ g := by rw [hW0, hgw]; exact B13.size
  have B15 : Below w1.heap.size w1 w5 := kept_trans (kept_trans B13 B4.out) B5.out
  have hpk : W0.heap.size ≤ pk := by rw [hW0, hpw]; exact Nat.le_trans B13.size B4.out.size
  obtain ⟨s0, hs0⟩ : ∃ s, s = (⟨P0z, 0, false⟩ : RS) := ⟨_, rfl⟩
  have HZ0 := hid hs0
  have HS0 : Hid (RdS W0 w5 g pk a c xs none 0 s0) := hid (by
    rw [hs0, hW0]
    refine ⟨?_, by rw [hpw]; exact K5.out, Own.nil _ _ _ _, B15, Nat.zero_le _⟩
    have := K4.out.mono B5.out
    rw [← hgw, HM.out] at this
    exact this)
  have HR0 : Hid (RowB W0 a c xs) := hid (by rw [hW0]; exact HRW.out w1 B1.out)
  have HRS : Hid (∀ W, Below W0.heap.size W0 W → Blk W rs 35 (pkC P0z none 0 0)) := hid (fun W b => by rw [hW0] at b; rw [hrsw]; exact K1.out.mono b)
  have hrs : w.heap.size ≤ rs := by omega
  have hsz : w.heap.size ≤ W0.heap.size := by rw [hW0]; exact B1.out.size
  have HDX := docR_ok xs
  have HIN : Hid (∀ (na : Option Addr) (nc : Nat) (W : World), Row W 1 na (docR xs).Q.N.length nc ((docR xs).Q.N.map strV) → Calls Try.prog 23 #[.agg (pkC (docR xs).Q na (docR xs).Q.N.length nc).toArray] W fun e w' => ∃ ba bc, ∃ bs : List UInt8, e = .returned (.tuple #[.slice ba bs.length bc, .bool (inW (docR xs).Q).isSome]) ∧ OwnB w' W.heap.size ba bc bs ∧ (∀ e, inW (docR xs).Q = some e → bs = e) ∧ Below W.heap.size W w') :=
    hid (fun na nc W r => innerRef_any (docR xs).Q HDX.1.small (fun o _ => Nat.le_trans (HDX.1.long o) hl) (fun s hs => Nat.le_trans (HDX.1.names s hs) hl) HDX.2 na nc W r)
  have HOKD : Hid (docOk xs = (!(docR xs).no && decide ((docR xs).at_ = xs.length) && (inW (docR xs).Q).isSome)) := hid rfl
  have B01 := B1.out
  rw [← hW0] at B01
  have HB01 := hid B01
  have HEND : Hid ((docOk xs = false → ∀ w', Below w.heap.size w w' → ∃ na nc, Ending.returned (.tuple #[.agg (pkC P0z none 0 0).toArray, .int .i64 2]) = .returned (.tuple #[.agg (pkC (dP xs) na (dP xs).N.length nc).toArray, .int .i64 (dE xs)]) ∧ PkO w w' (dP xs) na nc) ∧ (docOk xs = true → ∀ oa oc w', Own w' W0.heap.size 9 1 oa (docR xs).Q.N.length oc ((docR xs).Q.N.map strV) → Below w.heap.size w w' → ∃ na nc, Ending.returned (.tuple #[.agg (pkC (docR xs).Q oa (docR xs).Q.N.length oc).toArray, .int .i64 0]) = .returned (.tuple #[.agg (pkC (dP xs) na (dP xs).N.length nc).toArray, .int .i64 (dE xs)]) ∧ PkO w w' (dP xs) na nc)) := hid (by
    refine ⟨fun q w' b => ?_, fun q na nc w' o b => ?_⟩
    · rw [docOk_iff] at q
      have e1 : decP xs = none := by cases h : decP xs with
        | none => rfl
        | some Q => rw [h] at q; cases q
      have e2 : dP xs = P0z := by unfold dP; rw [e1]; rfl
      have e3 : dE xs = 2 := by unfold dE; rw [e1]; rfl
      rw [e2, e3]
      exact ⟨none, 0, rfl, Own.nil _ _ _ _, b⟩
    · have e1 := dec_of_docR q
      have e2 : dP xs = (docR xs).Q := by unfold dP; rw [e1, Option.getD_some]
      have e3 : dE xs = 0 := by unfold dE; rw [e1, Option.isSome_some, if_pos rfl]
      rw [e2, e3]
      exact ⟨na, nc, rfl, Own.low o hsz, b⟩)
  have hl : xs.length ≤ 1000000 := by omega
  clear HDX hs0 hgw hpw hrsw hW0 B13 B15 K1 B1 S1 K5 B5 S5 B2 OS B3 K4 B4 S4 HRW HSeal HSame HM
  go_step
  go_step
  go_step
  go_step
  go_step
  refine wpk_val h0 (wanted_none rfl) rfl (by decide) (fr rfl) (.pointer (some ⟨g, 0, none⟩)) (by unfold execOp; simp only [h0.eval (k := 5) (v := .pointer (some ⟨g, 0, none⟩)) (by simp)]; rfl) fun a2 h1 => ?_
  refine wpk_call h1 (wanted_none rfl) rfl (by decide) (fr rfl) (fun args => call_25 args _) rfl #[.pointer (some ⟨g, 0, none⟩), .int .i64 1] (by simp only [List.map_toArray, List.map_cons, List.map_nil, h1.eval (k := 31) (v := .pointer (some ⟨g, 0, none⟩)) (by simp)]; rfl) (R := fun v w' => ∃ n : Nat, v = .int .i64 (n : Int) ∧ n = (rnum xs s0.at_ s0.no 1).1 ∧ RdS W0 w' g pk a c xs none 0 (numS xs 1 s0)) (HS0.out.num HR0.out hg hl 1 (by decide)) fun a4 v1 wc1 hr1 h3 => ?_
  obtain ⟨n1, rfl, e1, q1⟩ := hr1
  have HC1 := hid q1; have EN1 := hid e1
  clear q1 e1
  refine wpk_val h3 (wanted_none rfl) rfl (by decide) (fr rfl) (.pointer (some ⟨pk, 0, none⟩)) (by unfold execOp; simp only [h3.eval (k := 6) (v := .pointer (some ⟨pk, 0, none⟩)) (by simp)]; exact run_v (fa_35_0_0 (pk) _)) fun a6 h5 => ?_
  obtain ⟨wd1, hw1⟩ : ∃ w', w' = wc1.setCell ⟨pk, 0, none⟩ (.int .i64 (n1 : Int)) := ⟨_, rfl⟩
  obtain ⟨s1, hs1⟩ : ∃ sx, sx = stepR xs s0 (.num 1 0 1 5) := ⟨_, rfl⟩
  have HD1 : Hid (RdS W0 wd1 g pk a c xs none 0 s1) := hid (by rw [hw1, hs1]; exact HC1.out.setI hpk (0) 1 5 EN1.out (by rfl))
  have HS1 := hid hs1
  clear hs1
  refine wpk_skipv h5 (wanted_none rfl) rfl (w' := wd1) (by rw [hw1]; unfold execOp; simp only [h5.eval (k := 33) (v := .pointer (some ⟨pk, 0, none⟩)) (by simp), h5.eval (k := 32) (v := .int .i64 (n1 : Int)) (by simp)]; exact run_u (storeI (HC1.out.p.cell (i := 0) (by show 0 < 43; omega)) (HC1.out.p.frozen 0) _)) fun a8 h7 => ?_
  clear hw1 HC1 EN1 
  have h9 := h7.subs (l' := [(6, .pointer (some ⟨pk, 0, none⟩)), (5, .pointer (some ⟨g, 0, none⟩)), (2, .pointer (some ⟨rs, 0, none⟩))]) rfl
  clear h7
  go_step
  go_step
  go_step
  go_step
  go_step
  refine wpk_val h9 (wanted_none rfl) rfl (by decide) (fr rfl) (.pointer (some ⟨g, 0, none⟩)) (by unfold execOp; simp only [h9.eval (k := 5) (v := .pointer (some ⟨g, 0, none⟩)) (by simp)]; rfl) fun a11 h10 => ?_
  refine wpk_call h10 (wanted_none rfl) rfl (by decide) (fr rfl) (fun args => call_25 args _) rfl #[.pointer (some ⟨g, 0, none⟩), .int .i64 1] (by simp only [List.map_toArray, List.map_cons, List.map_nil, h10.eval (k := 34) (v := .pointer (some ⟨g, 0, none⟩)) (by simp)]; rfl) (R := fun v w' => ∃ n : Nat, v = .int .i64 (n : Int) ∧ n = (rnum xs s1.at_ s1.no 1).1 ∧ RdS W0 w' g pk a c xs none 0 (numS xs 1 s1)) (HD1.out.num HR0.out hg hl 1 (by decide)) fun a13 v2 wc2 hr2 h12 => ?_
  obtain ⟨n2, rfl, e2, q2⟩ := hr2
  have HC2 := hid q2; have EN2 := hid e2
  clear q2 e2
  refine wpk_val h12 (wanted_none rfl) rfl (by decide) (fr rfl) (.pointer (some ⟨pk, 1, none⟩)) (by unfold execOp; simp only [h12.eval (k := 6) (v := .pointer (some ⟨pk, 0, none⟩)) (by simp)]; exact run_v (fa_35_0_1 (pk) _)) fun a15 h14 => ?_
  obtain ⟨wd2, hw2⟩ : ∃ w', w' = wc2.setCell ⟨pk, 1, none⟩ (.int .i64 (n2 : Int)) := ⟨_, rfl⟩
  obtain ⟨s2, hs2⟩ : ∃ sx, sx = stepR xs s1 (.num 1 1 1 8) := ⟨_, rfl⟩
  have HD2 : Hid (RdS W0 wd2 g pk a c xs none 0 s2) := hid (by rw [hw2, hs2]; exact HC2.out.setI hpk (1) 1 8 EN2.out (by rfl))
  have HS2 := hid hs2
  clear hs2
  refine wpk_skipv h14 (wanted_none rfl) rfl (w' := wd2) (by rw [hw2]; unfold execOp; simp only [h14.eval (k := 36) (v := .pointer (some ⟨pk, 1, none⟩)) (by simp), h14.eval (k := 35) (v := .int .i64 (n2 : Int)) (by simp)]; exact run_u (storeI (HC2.out.p.cell (i := 1) (by show 1 < 43; omega)) (HC2.out.p.frozen 1) _)) fun a17 h16 => ?_
  clear hw2 HC2 EN2 HD1
  have h18 := h16.subs (l' := [(6, .pointer (some ⟨pk, 0, none⟩)), (5, .pointer (some ⟨g, 0, none⟩)), (2, .pointer (some ⟨rs, 0, none⟩))]) rfl
  clear h16
  go_step
  go_step
  go_step
  go_step
  go_step
  refine wpk_val h18 (wanted_none rfl) rfl (by decide) (fr rfl) (.pointer (some ⟨g, 0, none⟩)) (by unfold execOp; simp only [h18.eval (k := 5) (v := .pointer (some ⟨g, 0, none⟩)) (by simp)]; rfl) fun a20 h19 => ?_
  refine wpk_call h19 (wanted_none rfl) rfl (by decide) (fr rfl) (fun args => call_25 args _) rfl #[.pointer (some ⟨g, 0, none⟩), .int .i64 4] (by simp only [List.map_toArray, List.map_cons, List.map_nil, h19.eval (k := 37) (v := .pointer (some ⟨g, 0, none⟩)) (by simp)]; rfl) (R := fun v w' => ∃ n : Nat, v = .int .i64 (n : Int) ∧ n = (rnum xs s2.at_ s2.no 4).1 ∧ RdS W0 w' g pk a c xs none 0 (numS xs 4 s2)) (HD2.out.num HR0.out hg hl 4 (by decide)) fun a22 v3 wc3 hr3 h21 => ?_
  obtain ⟨n3, rfl, e3, q3⟩ := hr3
  have HC3 := hid q3; have EN3 := hid e3
  clear q3 e3
  refine wpk_val h21 (wanted_none rfl) rfl (by decide) (fr rfl) (.pointer (some ⟨pk, 2, none⟩)) (by unfold execOp; simp only [h21.eval (k := 6) (v := .pointer (some ⟨pk, 0, none⟩)) (by simp)]; exact run_v (fa_35_0_2 (pk) _)) fun a24 h23 => ?_
  obtain ⟨wd3, hw3⟩ : ∃ w', w' = wc3.setCell ⟨pk, 2, none⟩ (.int .i64 (n3 : Int)) := ⟨_, rfl⟩
  obtain ⟨s3, hs3⟩ : ∃ sx, sx = stepR xs s2 (.num 4 2 0 9223372036854775807) := ⟨_, rfl⟩
  have HD3 : Hid (RdS W0 wd3 g pk a c xs none 0 s3) := hid (by rw [hw3, hs3]; exact HC3.out.setI hpk (2) 0 9223372036854775807 EN3.out (by rfl))
  have HS3 := hid hs3
  clear hs3
  refine wpk_skipv h23 (wanted_none rfl) rfl (w' := wd3) (by rw [hw3]; unfold execOp; simp only [h23.eval (k := 39) (v := .pointer (some ⟨pk, 2, none⟩)) (by simp), h23.eval (k := 38) (v := .int .i64 (n3 : Int)) (by simp)]; exact run_u (storeI (HC3.out.p.cell (i := 2) (by show 2 < 43; omega)) (HC3.out.p.frozen 2) _)) fun a26 h25 => ?_
  clear hw3 HC3 EN3 HD2
  have h27 := h25.subs (l' := [(6, .pointer (some ⟨pk, 0, none⟩)), (5, .pointer (some ⟨g, 0, none⟩)), (2, .pointer (some ⟨rs, 0, none⟩))]) rfl
  clear h25
  go_step
  go_step
  go_step
  go_step
  go_step
  refine wpk_val h27 (wanted_none rfl) rfl (by decide) (fr rfl) (.pointer (some ⟨g, 0, none⟩)) (by unfold execOp; simp only [h27.eval (k := 5) (v := .pointer (some ⟨g, 0, none⟩)) (by simp)]; rfl) fun a29 h28 => ?_
  refine wpk_call h28 (wanted_none rfl) rfl (by decide) (fr rfl) (fun args => call_25 args _) rfl #[.pointer (some ⟨g, 0, none⟩), .int .i64 8] (by simp only [List.map_toArray, List.map_cons, List.map_nil, h28.eval (k := 40) (v := .pointer (some ⟨g, 0, none⟩)) (by simp)]; rfl) (R := fun v w' => ∃ n : Nat, v = .int .i64 (n : Int) ∧ n = (rnum xs s3.at_ s3.no 8).1 ∧ RdS W0 w' g pk a c xs none 0 (numS xs 8 s3)) (HD3.out.num HR0.out hg hl 8 (by decide)) fun a31 v4 wc4 hr4 h30 => ?_
  obtain ⟨n4, rfl, e4, q4⟩ := hr4
  have HC4 := hid q4; have EN4 := hid e4
  clear q4 e4
  refine wpk_val h30 (wanted_none rfl) rfl (by decide) (fr rfl) (.pointer (some ⟨pk, 3, none⟩)) (by unfold execOp; simp only [h30.eval (k := 6) (v := .pointer (some ⟨pk, 0, none⟩)) (by simp)]; exact run_v (fa_35_0_3 (pk) _)) fun a33 h32 => ?_
  obtain ⟨wd4, hw4⟩ : ∃ w', w' = wc4.setCell ⟨pk, 3, none⟩ (.int .i64 (n4 : Int)) := ⟨_, rfl⟩
  obtain ⟨s4, hs4⟩ : ∃ sx, sx = stepR xs s3 (.num 8 3 0 9223372036854775807) := ⟨_, rfl⟩
  have HD4 : Hid (RdS W0 wd4 g pk a c xs none 0 s4) := hid (by rw [hw4, hs4]; exact HC4.out.setI hpk (3) 0 9223372036854775807 EN4.out (by rfl))
  have HS4 := hid hs4
  clear hs4
  refine wpk_skipv h32 (wanted_none rfl) rfl (w' := wd4) (by rw [hw4]; unfold execOp; simp only [h32.eval (k := 42) (v := .pointer (some ⟨pk, 3, none⟩)) (by simp), h32.eval (k := 41) (v := .int .i64 (n4 : Int)) (by simp)]; exact run_u (storeI (HC4.out.p.cell (i := 3) (by show 3 < 43; omega)) (HC4.out.p.frozen 3) _)) fun a35 h34 => ?_
  clear hw4 HC4 EN4 HD3
  have h36 := h34.subs (l' := [(6, .pointer (some ⟨pk, 0, none⟩)), (5, .pointer (some ⟨g, 0, none⟩)), (2, .pointer (some ⟨rs, 0, none⟩))]) rfl
  clear h34
  go_step
  go_step
  go_step
  have HH : Hid (headR xs = s4) := hid (by rw [HS4.out, HS3.out, HS2.out, HS1.out, HZ0.out]; rfl)
  have hN4 : Hid (s4.Q.N = []) := hid (by rw [← HH.out]; exact head_N xs)
  obtain ⟨kd, hkd⟩ : ∃ k, k = s4.Q.I 0 := ⟨_, rfl⟩
  have HKD := hid hkd
  clear hkd
  refine wp_join (J := fun a' w' => ∃ na nc, Kn 139 [(6, .pointer (some ⟨pk, 0, none⟩)), (5, .pointer (some ⟨g, 0, none⟩)), (2, .pointer (some ⟨rs, 0, none⟩))] a' ∧ RdS W0 w' g pk a c xs na nc (docR xs)) ?_ ?_
  · by_cases hq : 1 ≤ kd ∧ kd ≤ 5
    · rcases (by omega : kd = 1 ∨ kd = 2 ∨ kd = 3 ∨ kd = 4 ∨ kd = 5) with hk | hk | hk | hk | hk
      · skip
        have e1 : (kd == 1) = true := by rw [hk]; rfl
        have e2 : (kd == 2) = false := by rw [hk]; rfl
        have e3 : (kd == 3) = false := by rw [hk]; rfl
        have e4 : (kd == 4) = false := by rw [hk]; rfl
        have e5 : (kd == 5) = false := by rw [hk]; rfl
        go_step
        go_step
        go_step
        refine wpk_val h36 (wanted_none rfl) rfl (by decide) (fr rfl) (.pointer (some ⟨pk, 0, none⟩)) (by unfold execOp; simp only [h36.eval (k := 6) (v := .pointer (some ⟨pk, 0, none⟩)) (by simp)]; exact run_v (fa_35_0_0 (pk) _)) fun a38 h37 => ?_
        refine wpk_val h37 (wanted_none rfl) rfl (by decide) (fr rfl) (.int .i64 kd) (by unfold execOp; simp only [h37.eval (k := 43) (v := .pointer (some ⟨pk, 0, none⟩)) (by simp)]; exact run_v (loadI (by have z := HD4.out.p.cell (i := 0) (by show 0 < 43; omega); rw [HKD.out]; exact z))) fun a40 h39 => ?_
        have h41 := h39.subs (l' := [(44, .int .i64 kd), (6, .pointer (some ⟨pk, 0, none⟩)), (5, .pointer (some ⟨g, 0, none⟩)), (2, .pointer (some ⟨rs, 0, none⟩))]) rfl
        clear h39
        go_step
        go_step
        go_step
        go_step
        go_step
        go_step
        refine wpk_val h41 (wanted_none rfl) rfl (by decide) (fr rfl) (.bool true) (by unfold execOp; simp only [h41.eval (k := 44) (v := .int .i64 kd) (by simp)]; exact run_v (eqIb _ _ _ _ _ e1)) fun a43 h42 => ?_
        refine wpk_val h42 (wanted_none rfl) rfl (by decide) (fr rfl) (.bool true) (by unfold execOp; simp only [h42.eval (k := 46) (v := .bool true) (by simp)]; rfl) fun a45 h44 => ?_
        have h46 := h44.subs (l' := [(45, .bool true), (44, .int .i64 kd), (6, .pointer (some ⟨pk, 0, none⟩)), (5, .pointer (some ⟨g, 0, none⟩)), (2, .pointer (some ⟨rs, 0, none⟩))]) rfl
        clear h44
        go_step
        go_step
        go_step
        refine wp_cond (t := true) (h46.eval (k := 45) (v := .bool true) (by simp)) ?_
        simp only [if_true]
        have h47 := h46.subs (l' := [(44, .int .i64 kd), (6, .pointer (some ⟨pk, 0, none⟩)), (5, .pointer (some ⟨g, 0, none⟩)), (2, .pointer (some ⟨rs, 0, none⟩))]) rfl
        clear h46
        go_step
        go_step
        refine wpk_val h47 (wanted_none rfl) rfl (by decide) (fr rfl) (.pointer (some ⟨g, 0, none⟩)) (by unfold execOp; simp only [h47.eval (k := 5) (v := .pointer (some ⟨g, 0, none⟩)) (by simp)]; rfl) fun a49 h48 => ?_
        refine wpk_call h48 (wanted_none rfl) rfl (by decide) (fr rfl) (fun args => call_25 args _) rfl #[.pointer (some ⟨g, 0, none⟩), .int .i64 1] (by simp only [List.map_toArray, List.map_cons, List.map_nil, h48.eval (k := 47) (v := .pointer (some ⟨g, 0, none⟩)) (by simp)]; rfl) (R := fun v w' => ∃ n : Nat, v = .int .i64 (n : Int) ∧ n = (rnum xs s4.at_ s4.no 1).1 ∧ RdS W0 w' g pk a c xs none 0 (numS xs 1 s4)) (HD4.out.num HR0.out hg hl 1 (by decide)) fun a51 v5 wc5 hr5 h50 => ?_
        obtain ⟨n5, rfl, e5, q5⟩ := hr5
        have HC5 := hid q5; have EN5 := hid e5
        clear q5 e5
        refine wpk_val h50 (wanted_none rfl) rfl (by decide) (fr rfl) (.pointer (some ⟨pk, 4, none⟩)) (by unfold execOp; simp only [h50.eval (k := 6) (v := .pointer (some ⟨pk, 0, none⟩)) (by simp)]; exact run_v (fa_35_0_4 (pk) _)) fun a53 h52 => ?_
        obtain ⟨wd5, hw5⟩ : ∃ w', w' = wc5.setCell ⟨pk, 4, none⟩ (.int .i64 (n5 : Int)) := ⟨_, rfl⟩
        obtain ⟨s5, hs5⟩ : ∃ sx, sx = stepR xs s4 (.num 1 4 1 4) := ⟨_, rfl⟩
        have HD5 : Hid (RdS W0 wd5 g pk a c xs none 0 s5) := hid (by rw [hw5, hs5]; exact HC5.out.setI hpk (4) 1 4 EN5.out (by rfl))
        have HS5 := hid hs5
        clear hs5
        refine wpk_skipv h52 (wanted_none rfl) rfl (w' := wd5) (by rw [hw5]; unfold execOp; simp only [h52.eval (k := 49) (v := .pointer (some ⟨pk, 4, none⟩)) (by simp), h52.eval (k := 48) (v := .int .i64 (n5 : Int)) (by simp)]; exact run_u (storeI (HC5.out.p.cell (i := 4) (by show 4 < 43; omega)) (HC5.out.p.frozen 4) _)) fun a55 h54 => ?_
        clear hw5 HC5 EN5 
        have h56 := h54.subs (l' := [(44, .int .i64 kd), (6, .pointer (some ⟨pk, 0, none⟩)), (5, .pointer (some ⟨g, 0, none⟩)), (2, .pointer (some ⟨rs, 0, none⟩))]) rfl
        clear h54
        go_step
        go_step
        go_step
        go_step
        go_step
        refine wpk_val h56 (wanted_none rfl) rfl (by decide) (fr rfl) (.pointer (some ⟨g, 0, none⟩)) (by unfold execOp; simp only [h56.eval (k := 5) (v := .pointer (some ⟨g, 0, none⟩)) (by simp)]; rfl) fun a58 h57 => ?_
        refine wpk_call h57 (wanted_none rfl) rfl (by decide) (fr rfl) (fun args => call_25 args _) rfl #[.pointer (some ⟨g, 0, none⟩), .int .i64 4] (by simp only [List.map_toArray, List.map_cons, List.map_nil, h57.eval (k := 50) (v := .pointer (some ⟨g, 0, none⟩)) (by simp)]; rfl) (R := fun v w' => ∃ n : Nat, v = .int .i64 (n : Int) ∧ n = (rnum xs s5.at_ s5.no 4).1 ∧ RdS W0 w' g pk a c xs none 0 (numS xs 4 s5)) (HD5.out.num HR0.out hg hl 4 (by decide)) fun a60 v6 wc6 hr6 h59 => ?_
        obtain ⟨n6, rfl, e6, q6⟩ := hr6
        have HC6 := hid q6; have EN6 := hid e6
        clear q6 e6
        refine wpk_val h59 (wanted_none rfl) rfl (by decide) (fr rfl) (.pointer (some ⟨pk, 5, none⟩)) (by unfold execOp; simp only [h59.eval (k := 6) (v := .pointer (some ⟨pk, 0, none⟩)) (by simp)]; exact run_v (fa_35_0_5 (pk) _)) fun a62 h61 => ?_
        obtain ⟨wd6, hw6⟩ : ∃ w', w' = wc6.setCell ⟨pk, 5, none⟩ (.int .i64 (n6 : Int)) := ⟨_, rfl⟩
        obtain ⟨s6, hs6⟩ : ∃ sx, sx = stepR xs s5 (.num 4 5 0 9223372036854775807) := ⟨_, rfl⟩
        have HD6 : Hid (RdS W0 wd6 g pk a c xs none 0 s6) := hid (by rw [hw6, hs6]; exact HC6.out.setI hpk (5) 0 9223372036854775807 EN6.out (by rfl))
        have HS6 := hid hs6
        clear hs6
        refine wpk_skipv h61 (wanted_none rfl) rfl (w' := wd6) (by rw [hw6]; unfold execOp; simp only [h61.eval (k := 52) (v := .pointer (some ⟨pk, 5, none⟩)) (by simp), h61.eval (k := 51) (v := .int .i64 (n6 : Int)) (by simp)]; exact run_u (storeI (HC6.out.p.cell (i := 5) (by show 5 < 43; omega)) (HC6.out.p.frozen 5) _)) fun a64 h63 => ?_
        clear hw6 HC6 EN6 HD5
        have h65 := h63.subs (l' := [(44, .int .i64 kd), (6, .pointer (some ⟨pk, 0, none⟩)), (5, .pointer (some ⟨g, 0, none⟩)), (2, .pointer (some ⟨rs, 0, none⟩))]) rfl
        clear h63
        go_step
        go_step
        go_step
        go_step
        go_step
        refine wpk_val h65 (wanted_none rfl) rfl (by decide) (fr rfl) (.pointer (some ⟨g, 0, none⟩)) (by unfold execOp; simp only [h65.eval (k := 5) (v := .pointer (some ⟨g, 0, none⟩)) (by simp)]; rfl) fun a67 h66 => ?_
        refine wpk_call h66 (wanted_none rfl) rfl (by decide) (fr rfl) (fun args => call_25 args _) rfl #[.pointer (some ⟨g, 0, none⟩), .int .i64 2] (by simp only [List.map_toArray, List.map_cons, List.map_nil, h66.eval (k := 53) (v := .pointer (some ⟨g, 0, none⟩)) (by simp)]; rfl) (R := fun v w' => ∃ n : Nat, v = .int .i64 (n : Int) ∧ n = (rnum xs s6.at_ s6.no 2).1 ∧ RdS W0 w' g pk a c xs none 0 (numS xs 2 s6)) (HD6.out.num HR0.out hg hl 2 (by decide)) fun a69 v7 wc7 hr7 h68 => ?_
        obtain ⟨n7, rfl, e7, q7⟩ := hr7
        have HC7 := hid q7; have EN7 := hid e7
        clear q7 e7
        refine wpk_val h68 (wanted_none rfl) rfl (by decide) (fr rfl) (.pointer (some ⟨pk, 6, none⟩)) (by unfold execOp; simp only [h68.eval (k := 6) (v := .pointer (some ⟨pk, 0, none⟩)) (by simp)]; exact run_v (fa_35_0_6 (pk) _)) fun a71 h70 => ?_
        obtain ⟨wd7, hw7⟩ : ∃ w', w' = wc7.setCell ⟨pk, 6, none⟩ (.int .i64 (n7 : Int)) := ⟨_, rfl⟩
        obtain ⟨s7, hs7⟩ : ∃ sx, sx = stepR xs s6 (.num 2 6 0 9223372036854775807) := ⟨_, rfl⟩
        have HD7 : Hid (RdS W0 wd7 g pk a c xs none 0 s7) := hid (by rw [hw7, hs7]; exact HC7.out.setI hpk (6) 0 9223372036854775807 EN7.out (by rfl))
        have HS7 := hid hs7
        clear hs7
        refine wpk_skipv h70 (wanted_none rfl) rfl (w' := wd7) (by rw [hw7]; unfold execOp; simp only [h70.eval (k := 55) (v := .pointer (some ⟨pk, 6, none⟩)) (by simp), h70.eval (k := 54) (v := .int .i64 (n7 : Int)) (by simp)]; exact run_u (storeI (HC7.out.p.cell (i := 6) (by show 6 < 43; omega)) (HC7.out.p.frozen 6) _)) fun a73 h72 => ?_
        clear hw7 HC7 EN7 HD6
        have h74 := h72.subs (l' := [(44, .int .i64 kd), (6, .pointer (some ⟨pk, 0, none⟩)), (5, .pointer (some ⟨g, 0, none⟩)), (2, .pointer (some ⟨rs, 0, none⟩))]) rfl
        clear h72
        go_step
        go_step
        go_step
        go_step
        go_step
        refine wpk_val h74 (wanted_none rfl) rfl (by decide) (fr rfl) (.pointer (some ⟨g, 0, none⟩)) (by unfold execOp; simp only [h74.eval (k := 5) (v := .pointer (some ⟨g, 0, none⟩)) (by simp)]; rfl) fun a76 h75 => ?_
        refine wpk_call h75 (wanted_none rfl) rfl (by decide) (fr rfl) (fun args => call_26 args _) rfl #[.pointer (some ⟨g, 0, none⟩), .int .i64 2] (by simp only [List.map_toArray, List.map_cons, List.map_nil, h75.eval (k := 56) (v := .pointer (some ⟨g, 0, none⟩)) (by simp)]; rfl) (R := fun v w' => ∃ tx : List UInt8, v = .string (bsW tx) ∧ tx = (rtext xs s7.at_ s7.no 2).1 ∧ RdS W0 w' g pk a c xs none 0 (txtS xs 2 s7)) (HD7.out.text HR0.out hg hl 2 (by decide)) fun a78 v8 wc8 hr8 h77 => ?_
        obtain ⟨n8, rfl, e8, q8⟩ := hr8
        have HC8 := hid q8; have EN8 := hid e8
        clear q8 e8
        refine wpk_val h77 (wanted_none rfl) rfl (by decide) (fr rfl) (.pointer (some ⟨pk, 7, none⟩)) (by unfold execOp; simp only [h77.eval (k := 6) (v := .pointer (some ⟨pk, 0, none⟩)) (by simp)]; exact run_v (fa_35_0_7 (pk) _)) fun a80 h79 => ?_
        obtain ⟨wd8, hw8⟩ : ∃ w', w' = wc8.setCell ⟨pk, 7, none⟩ (.string (bsW n8)) := ⟨_, rfl⟩
        obtain ⟨s8, hs8⟩ : ∃ sx, sx = stepR xs s7 (.text 2 128 7) := ⟨_, rfl⟩
        have HD8 : Hid (RdS W0 wd8 g pk a c xs none 0 s8) := hid (by rw [hw8, hs8]; exact HC8.out.setS hpk 7 128 EN8.out)
        have HS8 := hid hs8
        clear hs8
        refine wpk_skipv h79 (wanted_none rfl) rfl (w' := wd8) (by rw [hw8]; unfold execOp; simp only [h79.eval (k := 58) (v := .pointer (some ⟨pk, 7, none⟩)) (by simp), h79.eval (k := 57) (v := .string (bsW n8)) (by simp)]; exact run_u (storeS (HC8.out.p.cell (i := 7) (by show 7 < 43; omega)) (HC8.out.p.frozen 7) _)) fun a82 h81 => ?_
        clear hw8 HC8 EN8 HD7
        have h83 := h81.subs (l' := [(44, .int .i64 kd), (6, .pointer (some ⟨pk, 0, none⟩)), (5, .pointer (some ⟨g, 0, none⟩)), (2, .pointer (some ⟨rs, 0, none⟩))]) rfl
        clear h81
        go_step
        go_step
        go_step
        go_step
        go_step
        refine wpk_val h83 (wanted_none rfl) rfl (by decide) (fr rfl) (.pointer (some ⟨g, 0, none⟩)) (by unfold execOp; simp only [h83.eval (k := 5) (v := .pointer (some ⟨g, 0, none⟩)) (by simp)]; rfl) fun a85 h84 => ?_
        refine wpk_call h84 (wanted_none rfl) rfl (by decide) (fr rfl) (fun args => call_25 args _) rfl #[.pointer (some ⟨g, 0, none⟩), .int .i64 8] (by simp only [List.map_toArray, List.map_cons, List.map_nil, h84.eval (k := 59) (v := .pointer (some ⟨g, 0, none⟩)) (by simp)]; rfl) (R := fun v w' => ∃ n : Nat, v = .int .i64 (n : Int) ∧ n = (rnum xs s8.at_ s8.no 8).1 ∧ RdS W0 w' g pk a c xs none 0 (numS xs 8 s8)) (HD8.out.num HR0.out hg hl 8 (by decide)) fun a87 v9 wc9 hr9 h86 => ?_
        obtain ⟨n9, rfl, e9, q9⟩ := hr9
        have HC9 := hid q9; have EN9 := hid e9
        clear q9 e9
        refine wpk_val h86 (wanted_none rfl) rfl (by decide) (fr rfl) (.pointer (some ⟨pk, 8, none⟩)) (by unfold execOp; simp only [h86.eval (k := 6) (v := .pointer (some ⟨pk, 0, none⟩)) (by simp)]; exact run_v (fa_35_0_8 (pk) _)) fun a89 h88 => ?_
        obtain ⟨wd9, hw9⟩ : ∃ w', w' = wc9.setCell ⟨pk, 8, none⟩ (.int .i64 (n9 : Int)) := ⟨_, rfl⟩
        obtain ⟨s9, hs9⟩ : ∃ sx, sx = stepR xs s8 (.num 8 8 0 9223372036854775807) := ⟨_, rfl⟩
        have HD9 : Hid (RdS W0 wd9 g pk a c xs none 0 s9) := hid (by rw [hw9, hs9]; exact HC9.out.setI hpk (8) 0 9223372036854775807 EN9.out (by rfl))
        have HS9 := hid hs9
        clear hs9
        refine wpk_skipv h88 (wanted_none rfl) rfl (w' := wd9) (by rw [hw9]; unfold execOp; simp only [h88.eval (k := 61) (v := .pointer (some ⟨pk, 8, none⟩)) (by simp), h88.eval (k := 60) (v := .int .i64 (n9 : Int)) (by simp)]; exact run_u (storeI (HC9.out.p.cell (i := 8) (by show 8 < 43; omega)) (HC9.out.p.frozen 8) _)) fun a91 h90 => ?_
        clear hw9 HC9 EN9 HD8
        have h92 := h90.subs (l' := [(44, .int .i64 kd), (6, .pointer (some ⟨pk, 0, none⟩)), (5, .pointer (some ⟨g, 0, none⟩)), (2, .pointer (some ⟨rs, 0, none⟩))]) rfl
        clear h90
        go_step
        go_step
        go_step
        go_step
        refine wpk_val h92 (wanted_none rfl) rfl (by decide) (fr rfl) (.pointer (some ⟨g, 0, none⟩)) (by unfold execOp; simp only [h92.eval (k := 5) (v := .pointer (some ⟨g, 0, none⟩)) (by simp)]; rfl) fun a94 h93 => ?_
        refine wpk_call h93 (wanted_none rfl) rfl (by decide) (fr rfl) (fun args => call_25 args _) rfl #[.pointer (some ⟨g, 0, none⟩), .int .i64 8] (by simp only [List.map_toArray, List.map_cons, List.map_nil, h93.eval (k := 62) (v := .pointer (some ⟨g, 0, none⟩)) (by simp)]; rfl) (R := fun v w' => ∃ n : Nat, v = .int .i64 (n : Int) ∧ n = (rnum xs s9.at_ s9.no 8).1 ∧ RdS W0 w' g pk a c xs none 0 (numS xs 8 s9)) (HD9.out.num HR0.out hg hl 8 (by decide)) fun a96 v10 wc10 hr10 h95 => ?_
        obtain ⟨n10, rfl, e10, q10⟩ := hr10
        have HC10 := hid q10; have EN10 := hid e10
        clear q10 e10
        refine wpk_val h95 (wanted_none rfl) rfl (by decide) (fr rfl) (.pointer (some ⟨pk, 9, none⟩)) (by unfold execOp; simp only [h95.eval (k := 6) (v := .pointer (some ⟨pk, 0, none⟩)) (by simp)]; exact run_v (fa_35_0_9 (pk) _)) fun a98 h97 => ?_
        obtain ⟨wd10, hw10⟩ : ∃ w', w' = wc10.setCell ⟨pk, 9, none⟩ (.int .i64 (n10 : Int)) := ⟨_, rfl⟩
        obtain ⟨s10, hs10⟩ : ∃ sx, sx = stepR xs s9 (.num 8 9 0 9223372036854775807) := ⟨_, rfl⟩
        have HD10 : Hid (RdS W0 wd10 g pk a c xs none 0 s10) := hid (by rw [hw10, hs10]; exact HC10.out.setI hpk (9) 0 9223372036854775807 EN10.out (by rfl))
        have HS10 := hid hs10
        clear hs10
        refine wpk_skipv h97 (wanted_none rfl) rfl (w' := wd10) (by rw [hw10]; unfold execOp; simp only [h97.eval (k := 64) (v := .pointer (some ⟨pk, 9, none⟩)) (by simp), h97.eval (k := 63) (v := .int .i64 (n10 : Int)) (by simp)]; exact run_u (storeI (HC10.out.p.cell (i := 9) (by show 9 < 43; omega)) (HC10.out.p.frozen 9) _)) fun a100 h99 => ?_
        clear hw10 HC10 EN10 HD9
        have h101 := h99.subs (l' := [(44, .int .i64 kd), (6, .pointer (some ⟨pk, 0, none⟩)), (5, .pointer (some ⟨g, 0, none⟩)), (2, .pointer (some ⟨rs, 0, none⟩))]) rfl
        clear h99
        go_step
        go_step
        have h102 := h101.subs (l' := [(6, .pointer (some ⟨pk, 0, none⟩)), (5, .pointer (some ⟨g, 0, none⟩)), (2, .pointer (some ⟨rs, 0, none⟩))]) rfl
        clear h101
        exact ⟨none, 0, h102, by rw [show docR xs = s10 by unfold docR; rw [HH.out, ← HKD.out, hk, if_pos (by decide), HS10.out, HS9.out, HS8.out, HS7.out, HS6.out, HS5.out]; rfl]; exact HD10.out⟩
      · skip
        have e1 : (kd == 1) = false := by rw [hk]; rfl
        have e2 : (kd == 2) = true := by rw [hk]; rfl
        have e3 : (kd == 3) = false := by rw [hk]; rfl
        have e4 : (kd == 4) = false := by rw [hk]; rfl
        have e5 : (kd == 5) = false := by rw [hk]; rfl
        go_step
        go_step
        go_step
        refine wpk_val h36 (wanted_none rfl) rfl (by decide) (fr rfl) (.pointer (some ⟨pk, 0, none⟩)) (by unfold execOp; simp only [h36.eval (k := 6) (v := .pointer (some ⟨pk, 0, none⟩)) (by simp)]; exact run_v (fa_35_0_0 (pk) _)) fun a104 h103 => ?_
        refine wpk_val h103 (wanted_none rfl) rfl (by decide) (fr rfl) (.int .i64 kd) (by unfold execOp; simp only [h103.eval (k := 43) (v := .pointer (some ⟨pk, 0, none⟩)) (by simp)]; exact run_v (loadI (by have z := HD4.out.p.cell (i := 0) (by show 0 < 43; omega); rw [HKD.out]; exact z))) fun a106 h105 => ?_
        have h107 := h105.subs (l' := [(44, .int .i64 kd), (6, .pointer (some ⟨pk, 0, none⟩)), (5, .pointer (some ⟨g, 0, none⟩)), (2, .pointer (some ⟨rs, 0, none⟩))]) rfl
        clear h105
        go_step
        go_step
        go_step
        go_step
        go_step
        go_step
        refine wpk_val h107 (wanted_none rfl) rfl (by decide) (fr rfl) (.bool false) (by unfold execOp; simp only [h107.eval (k := 44) (v := .int .i64 kd) (by simp)]; exact run_v (eqIb _ _ _ _ _ e1)) fun a109 h108 => ?_
        refine wpk_val h108 (wanted_none rfl) rfl (by decide) (fr rfl) (.bool false) (by unfold execOp; simp only [h108.eval (k := 46) (v := .bool false) (by simp)]; rfl) fun a111 h110 => ?_
        have h112 := h110.subs (l' := [(45, .bool false), (44, .int .i64 kd), (6, .pointer (some ⟨pk, 0, none⟩)), (5, .pointer (some ⟨g, 0, none⟩)), (2, .pointer (some ⟨rs, 0, none⟩))]) rfl
        clear h110
        go_step
        go_step
        go_step
        refine wp_cond (t := false) (h112.eval (k := 45) (v := .bool false) (by simp)) ?_
        simp only [Bool.false_eq_true, if_false]
        have h113 := h112.subs (l' := [(44, .int .i64 kd), (6, .pointer (some ⟨pk, 0, none⟩)), (5, .pointer (some ⟨g, 0, none⟩)), (2, .pointer (some ⟨rs, 0, none⟩))]) rfl
        clear h112
        go_step
        go_step
        refine wpk_val h113 (wanted_none rfl) rfl (by decide) (fr rfl) (.bool true) (by unfold execOp; simp only [h113.eval (k := 44) (v := .int .i64 kd) (by simp)]; exact run_v (eqIb _ _ _ _ _ e2)) fun a115 h114 => ?_
        refine wpk_val h114 (wanted_none rfl) rfl (by decide) (fr rfl) (.bool true) (by unfold execOp; simp only [h114.eval (k := 66) (v := .bool true) (by simp)]; rfl) fun a117 h116 => ?_
        have h118 := h116.subs (l' := [(65, .bool true), (44, .int .i64 kd), (6, .pointer (some ⟨pk, 0, none⟩)), (5, .pointer (some ⟨g, 0, none⟩)), (2, .pointer (some ⟨rs, 0, none⟩))]) rfl
        clear h116
        go_step
        go_step
        go_step
        refine wp_cond (t := true) (h118.eval (k := 65) (v := .bool true) (by simp)) ?_
        simp only [if_true]
        have h119 := h118.subs (l' := [(44, .int .i64 kd), (6, .pointer (some ⟨pk, 0, none⟩)), (5, .pointer (some ⟨g, 0, none⟩)), (2, .pointer (some ⟨rs, 0, none⟩))]) rfl
        clear h118
        go_step
        go_step
        refine wpk_val h119 (wanted_none rfl) rfl (by decide) (fr rfl) (.pointer (some ⟨g, 0, none⟩)) (by unfold execOp; simp only [h119.eval (k := 5) (v := .pointer (some ⟨g, 0, none⟩)) (by simp)]; rfl) fun a121 h120 => ?_
        refine wpk_call h120 (wanted_none rfl) rfl (by decide) (fr rfl) (fun args => call_25 args _) rfl #[.pointer (some ⟨g, 0, none⟩), .int .i64 1] (by simp only [List.map_toArray, List.map_cons, List.map_nil, h120.eval (k := 67) (v := .pointer (some ⟨g, 0, none⟩)) (by simp)]; rfl) (R := fun v w' => ∃ n : Nat, v = .int .i64 (n : Int) ∧ n = (rnum xs s4.at_ s4.no 1).1 ∧ RdS W0 w' g pk a c xs none 0 (numS xs 1 s4)) (HD4.out.num HR0.out hg hl 1 (by decide)) fun a123 v5 wc5 hr5 h122 => ?_
        obtain ⟨n5, rfl, e5, q5⟩ := hr5
        have HC5 := hid q5; have EN5 := hid e5
        clear q5 e5
        refine wpk_val h122 (wanted_none rfl) rfl (by decide) (fr rfl) (.pointer (some ⟨pk, 4, none⟩)) (by unfold execOp; simp only [h122.eval (k := 6) (v := .pointer (some ⟨pk, 0, none⟩)) (by simp)]; exact run_v (fa_35_0_4 (pk) _)) fun a125 h124 => ?_
        obtain ⟨wd5, hw5⟩ : ∃ w', w' = wc5.setCell ⟨pk, 4, none⟩ (.int .i64 (n5 : Int)) := ⟨_, rfl⟩
        obtain ⟨s5, hs5⟩ : ∃ sx, sx = stepR xs s4 (.num 1 4 1 4) := ⟨_, rfl⟩
        have HD5 : Hid (RdS W0 wd5 g pk a c xs none 0 s5) := hid (by rw [hw5, hs5]; exact HC5.out.setI hpk (4) 1 4 EN5.out (by rfl))
        have HS5 := hid hs5
        clear hs5
        refine wpk_skipv h124 (wanted_none rfl) rfl (w' := wd5) (by rw [hw5]; unfold execOp; simp only [h124.eval (k := 69) (v := .pointer (some ⟨pk, 4, none⟩)) (by simp), h124.eval (k := 68) (v := .int .i64 (n5 : Int)) (by simp)]; exact run_u (storeI (HC5.out.p.cell (i := 4) (by show 4 < 43; omega)) (HC5.out.p.frozen 4) _)) fun a127 h126 => ?_
        clear hw5 HC5 EN5 
        have h128 := h126.subs (l' := [(44, .int .i64 kd), (6, .pointer (some ⟨pk, 0, none⟩)), (5, .pointer (some ⟨g, 0, none⟩)), (2, .pointer (some ⟨rs, 0, none⟩))]) rfl
        clear h126
        go_step
        go_step
        go_step
        go_step
        go_step
        refine wpk_val h128 (wanted_none rfl) rfl (by decide) (fr rfl) (.pointer (some ⟨g, 0, none⟩)) (by unfold execOp; simp only [h128.eval (k := 5) (v := .pointer (some ⟨g, 0, none⟩)) (by simp)]; rfl) fun a130 h129 => ?_
        refine wpk_call h129 (wanted_none rfl) rfl (by decide) (fr rfl) (fun args => call_25 args _) rfl #[.pointer (some ⟨g, 0, none⟩), .int .i64 1] (by simp only [List.map_toArray, List.map_cons, List.map_nil, h129.eval (k := 70) (v := .pointer (some ⟨g, 0, none⟩)) (by simp)]; rfl) (R := fun v w' => ∃ n : Nat, v = .int .i64 (n : Int) ∧ n = (rnum xs s5.at_ s5.no 1).1 ∧ RdS W0 w' g pk a c xs none 0 (numS xs 1 s5)) (HD5.out.num HR0.out hg hl 1 (by decide)) fun a132 v6 wc6 hr6 h131 => ?_
        obtain ⟨n6, rfl, e6, q6⟩ := hr6
        have HC6 := hid q6; have EN6 := hid e6
        clear q6 e6
        refine wpk_val h131 (wanted_none rfl) rfl (by decide) (fr rfl) (.pointer (some ⟨pk, 19, none⟩)) (by unfold execOp; simp only [h131.eval (k := 6) (v := .pointer (some ⟨pk, 0, none⟩)) (by simp)]; exact run_v (fa_35_0_12 (pk) _)) fun a134 h133 => ?_
        obtain ⟨wd6, hw6⟩ : ∃ w', w' = wc6.setCell ⟨pk, 19, none⟩ (.int .i64 (n6 : Int)) := ⟨_, rfl⟩
        obtain ⟨s6, hs6⟩ : ∃ sx, sx = stepR xs s5 (.num 1 19 0 9223372036854775807) := ⟨_, rfl⟩
        have HD6 : Hid (RdS W0 wd6 g pk a c xs none 0 s6) := hid (by rw [hw6, hs6]; exact HC6.out.setI hpk (19) 0 9223372036854775807 EN6.out (by rfl))
        have HS6 := hid hs6
        clear hs6
        refine wpk_skipv h133 (wanted_none rfl) rfl (w' := wd6) (by rw [hw6]; unfold execOp; simp only [h133.eval (k := 72) (v := .pointer (some ⟨pk, 19, none⟩)) (by simp), h133.eval (k := 71) (v := .int .i64 (n6 : Int)) (by simp)]; exact run_u (storeE (HC6.out.p.cell (i := 19) (by show 19 < 43; omega)) (HC6.out.p.frozen 19) _)) fun a136 h135 => ?_
        clear hw6 HC6 EN6 HD5
        have h137 := h135.subs (l' := [(44, .int .i64 kd), (6, .pointer (some ⟨pk, 0, none⟩)), (5, .pointer (some ⟨g, 0, none⟩)), (2, .pointer (some ⟨rs, 0, none⟩))]) rfl
        clear h135
        go_step
        go_step
        go_step
        go_step
        go_step
        refine wpk_val h137 (wanted_none rfl) rfl (by decide) (fr rfl) (.pointer (some ⟨g, 0, none⟩)) (by unfold execOp; simp only [h137.eval (k := 5) (v := .pointer (some ⟨g, 0, none⟩)) (by simp)]; rfl) fun a139 h138 => ?_
        refine wpk_call h138 (wanted_none rfl) rfl (by decide) (fr rfl) (fun args => call_26 args _) rfl #[.pointer (some ⟨g, 0, none⟩), .int .i64 2] (by simp only [List.map_toArray, List.map_cons, List.map_nil, h138.eval (k := 73) (v := .pointer (some ⟨g, 0, none⟩)) (by simp)]; rfl) (R := fun v w' => ∃ tx : List UInt8, v = .string (bsW tx) ∧ tx = (rtext xs s6.at_ s6.no 2).1 ∧ RdS W0 w' g pk a c xs none 0 (txtS xs 2 s6)) (HD6.out.text HR0.out hg hl 2 (by decide)) fun a141 v7 wc7 hr7 h140 => ?_
        obtain ⟨n7, rfl, e7, q7⟩ := hr7
        have HC7 := hid q7; have EN7 := hid e7
        clear q7 e7
        refine wpk_val h140 (wanted_none rfl) rfl (by decide) (fr rfl) (.pointer (some ⟨pk, 7, none⟩)) (by unfold execOp; simp only [h140.eval (k := 6) (v := .pointer (some ⟨pk, 0, none⟩)) (by simp)]; exact run_v (fa_35_0_7 (pk) _)) fun a143 h142 => ?_
        obtain ⟨wd7, hw7⟩ : ∃ w', w' = wc7.setCell ⟨pk, 7, none⟩ (.string (bsW n7)) := ⟨_, rfl⟩
        obtain ⟨s7, hs7⟩ : ∃ sx, sx = stepR xs s6 (.text 2 128 7) := ⟨_, rfl⟩
        have HD7 : Hid (RdS W0 wd7 g pk a c xs none 0 s7) := hid (by rw [hw7, hs7]; exact HC7.out.setS hpk 7 128 EN7.out)
        have HS7 := hid hs7
        clear hs7
        refine wpk_skipv h142 (wanted_none rfl) rfl (w' := wd7) (by rw [hw7]; unfold execOp; simp only [h142.eval (k := 75) (v := .pointer (some ⟨pk, 7, none⟩)) (by simp), h142.eval (k := 74) (v := .string (bsW n7)) (by simp)]; exact run_u (storeS (HC7.out.p.cell (i := 7) (by show 7 < 43; omega)) (HC7.out.p.frozen 7) _)) fun a145 h144 => ?_
        clear hw7 HC7 EN7 HD6
        have h146 := h144.subs (l' := [(44, .int .i64 kd), (6, .pointer (some ⟨pk, 0, none⟩)), (5, .pointer (some ⟨g, 0, none⟩)), (2, .pointer (some ⟨rs, 0, none⟩))]) rfl
        clear h144
        go_step
        go_step
        go_step
        go_step
        refine wpk_val h146 (wanted_none rfl) rfl (by decide) (fr rfl) (.pointer (some ⟨g, 0, none⟩)) (by unfold execOp; simp only [h146.eval (k := 5) (v := .pointer (some ⟨g, 0, none⟩)) (by simp)]; rfl) fun a148 h147 => ?_
        refine wpk_call h147 (wanted_none rfl) rfl (by decide) (fr rfl) (fun args => call_25 args _) rfl #[.pointer (some ⟨g, 0, none⟩), .int .i64 8] (by simp only [List.map_toArray, List.map_cons, List.map_nil, h147.eval (k := 76) (v := .pointer (some ⟨g, 0, none⟩)) (by simp)]; rfl) (R := fun v w' => ∃ n : Nat, v = .int .i64 (n : Int) ∧ n = (rnum xs s7.at_ s7.no 8).1 ∧ RdS W0 w' g pk a c xs none 0 (numS xs 8 s7)) (HD7.out.num HR0.out hg hl 8 (by decide)) fun a150 v8 wc8 hr8 h149 => ?_
        obtain ⟨n8, rfl, e8, q8⟩ := hr8
        have HC8 := hid q8; have EN8 := hid e8
        clear q8 e8
        refine wpk_val h149 (wanted_none rfl) rfl (by decide) (fr rfl) (.pointer (some ⟨pk, 8, none⟩)) (by unfold execOp; simp only [h149.eval (k := 6) (v := .pointer (some ⟨pk, 0, none⟩)) (by simp)]; exact run_v (fa_35_0_8 (pk) _)) fun a152 h151 => ?_
        obtain ⟨wd8, hw8⟩ : ∃ w', w' = wc8.setCell ⟨pk, 8, none⟩ (.int .i64 (n8 : Int)) := ⟨_, rfl⟩
        obtain ⟨s8, hs8⟩ : ∃ sx, sx = stepR xs s7 (.num 8 8 0 9223372036854775807) := ⟨_, rfl⟩
        have HD8 : Hid (RdS W0 wd8 g pk a c xs none 0 s8) := hid (by rw [hw8, hs8]; exact HC8.out.setI hpk (8) 0 9223372036854775807 EN8.out (by rfl))
        have HS8 := hid hs8
        clear hs8
        refine wpk_skipv h151 (wanted_none rfl) rfl (w' := wd8) (by rw [hw8]; unfold execOp; simp only [h151.eval (k := 78) (v := .pointer (some ⟨pk, 8, none⟩)) (by simp), h151.eval (k := 77) (v := .int .i64 (n8 : Int)) (by simp)]; exact run_u (storeI (HC8.out.p.cell (i := 8) (by show 8 < 43; omega)) (HC8.out.p.frozen 8) _)) fun a154 h153 => ?_
        clear hw8 HC8 EN8 HD7
        have h155 := h153.subs (l' := [(44, .int .i64 kd), (6, .pointer (some ⟨pk, 0, none⟩)), (5, .pointer (some ⟨g, 0, none⟩)), (2, .pointer (some ⟨rs, 0, none⟩))]) rfl
        clear h153
        go_step
        go_step
        have h156 := h155.subs (l' := [(6, .pointer (some ⟨pk, 0, none⟩)), (5, .pointer (some ⟨g, 0, none⟩)), (2, .pointer (some ⟨rs, 0, none⟩))]) rfl
        clear h155
        exact ⟨none, 0, h156, by rw [show docR xs = s8 by unfold docR; rw [HH.out, ← HKD.out, hk, if_pos (by decide), HS8.out, HS7.out, HS6.out, HS5.out]; rfl]; exact HD8.out⟩
      · skip
        have e1 : (kd == 1) = false := by rw [hk]; rfl
        have e2 : (kd == 2) = false := by rw [hk]; rfl
        have e3 : (kd == 3) = true := by rw [hk]; rfl
        have e4 : (kd == 4) = false := by rw [hk]; rfl
        have e5 : (kd == 5) = false := by rw [hk]; rfl
        go_step
        go_step
        go_step
        refine wpk_val h36 (wanted_none rfl) rfl (by decide) (fr rfl) (.pointer (some ⟨pk, 0, none⟩)) (by unfold execOp; simp only [h36.eval (k := 6) (v := .pointer (some ⟨pk, 0, none⟩)) (by simp)]; exact run_v (fa_35_0_0 (pk) _)) fun a158 h157 => ?_
        refine wpk_val h157 (wanted_none rfl) rfl (by decide) (fr rfl) (.int .i64 kd) (by unfold execOp; simp only [h157.eval (k := 43) (v := .pointer (some ⟨pk, 0, none⟩)) (by simp)]; exact run_v (loadI (by have z := HD4.out.p.cell (i := 0) (by show 0 < 43; omega); rw [HKD.out]; exact z))) fun a160 h159 => ?_
        have h161 := h159.subs (l' := [(44, .int .i64 kd), (6, .pointer (some ⟨pk, 0, none⟩)), (5, .pointer (some ⟨g, 0, none⟩)), (2, .pointer (some ⟨rs, 0, none⟩))]) rfl
        clear h159
        go_step
        go_step
        go_step
        go_step
        go_step
        go_step
        refine wpk_val h161 (wanted_none rfl) rfl (by decide) (fr rfl) (.bool false) (by unfold execOp; simp only [h161.eval (k := 44) (v := .int .i64 kd) (by simp)]; exact run_v (eqIb _ _ _ _ _ e1)) fun a163 h162 => ?_
        refine wpk_val h162 (wanted_none rfl) rfl (by decide) (fr rfl) (.bool false) (by unfold execOp; simp only [h162.eval (k := 46) (v := .bool false) (by simp)]; rfl) fun a165 h164 => ?_
        have h166 := h164.subs (l' := [(45, .bool false), (44, .int .i64 kd), (6, .pointer (some ⟨pk, 0, none⟩)), (5, .pointer (some ⟨g, 0, none⟩)), (2, .pointer (some ⟨rs, 0, none⟩))]) rfl
        clear h164
        go_step
        go_step
        go_step
        refine wp_cond (t := false) (h166.eval (k := 45) (v := .bool false) (by simp)) ?_
        simp only [Bool.false_eq_true, if_false]
        have h167 := h166.subs (l' := [(44, .int .i64 kd), (6, .pointer (some ⟨pk, 0, none⟩)), (5, .pointer (some ⟨g, 0, none⟩)), (2, .pointer (some ⟨rs, 0, none⟩))]) rfl
        clear h166
        go_step
        go_step
        refine wpk_val h167 (wanted_none rfl) rfl (by decide) (fr rfl) (.bool false) (by unfold execOp; simp only [h167.eval (k := 44) (v := .int .i64 kd) (by simp)]; exact run_v (eqIb _ _ _ _ _ e2)) fun a169 h168 => ?_
        refine wpk_val h168 (wanted_none rfl) rfl (by decide) (fr rfl) (.bool false) (by unfold execOp; simp only [h168.eval (k := 66) (v := .bool false) (by simp)]; rfl) fun a171 h170 => ?_
        have h172 := h170.subs (l' := [(65, .bool false), (44, .int .i64 kd), (6, .pointer (some ⟨pk, 0, none⟩)), (5, .pointer (some ⟨g, 0, none⟩)), (2, .pointer (some ⟨rs, 0, none⟩))]) rfl
        clear h170
        go_step
        go_step
        go_step
        refine wp_cond (t := false) (h172.eval (k := 65) (v := .bool false) (by simp)) ?_
        simp only [Bool.false_eq_true, if_false]
        have h173 := h172.subs (l' := [(44, .int .i64 kd), (6, .pointer (some ⟨pk, 0, none⟩)), (5, .pointer (some ⟨g, 0, none⟩)), (2, .pointer (some ⟨rs, 0, none⟩))]) rfl
        clear h172
        go_step
        go_step
        refine wpk_val h173 (wanted_none rfl) rfl (by decide) (fr rfl) (.bool true) (by unfold execOp; simp only [h173.eval (k := 44) (v := .int .i64 kd) (by simp)]; exact run_v (eqIb _ _ _ _ _ e3)) fun a175 h174 => ?_
        refine wpk_val h174 (wanted_none rfl) rfl (by decide) (fr rfl) (.bool true) (by unfold execOp; simp only [h174.eval (k := 80) (v := .bool true) (by simp)]; rfl) fun a177 h176 => ?_
        have h178 := h176.subs (l' := [(79, .bool true), (44, .int .i64 kd), (6, .pointer (some ⟨pk, 0, none⟩)), (5, .pointer (some ⟨g, 0, none⟩)), (2, .pointer (some ⟨rs, 0, none⟩))]) rfl
        clear h176
        go_step
        go_step
        go_step
        refine wp_cond (t := true) (h178.eval (k := 79) (v := .bool true) (by simp)) ?_
        simp only [if_true]
        have h179 := h178.subs (l' := [(44, .int .i64 kd), (6, .pointer (some ⟨pk, 0, none⟩)), (5, .pointer (some ⟨g, 0, none⟩)), (2, .pointer (some ⟨rs, 0, none⟩))]) rfl
        clear h178
        go_step
        go_step
        refine wpk_val h179 (wanted_none rfl) rfl (by decide) (fr rfl) (.pointer (some ⟨g, 0, none⟩)) (by unfold execOp; simp only [h179.eval (k := 5) (v := .pointer (some ⟨g, 0, none⟩)) (by simp)]; rfl) fun a181 h180 => ?_
        refine wpk_call h180 (wanted_none rfl) rfl (by decide) (fr rfl) (fun args => call_25 args _) rfl #[.pointer (some ⟨g, 0, none⟩), .int .i64 1] (by simp only [List.map_toArray, List.map_cons, List.map_nil, h180.eval (k := 81) (v := .pointer (some ⟨g, 0, none⟩)) (by simp)]; rfl) (R := fun v w' => ∃ n : Nat, v = .int .i64 (n : Int) ∧ n = (rnum xs s4.at_ s4.no 1).1 ∧ RdS W0 w' g pk a c xs none 0 (numS xs 1 s4)) (HD4.out.num HR0.out hg hl 1 (by decide)) fun a183 v5 wc5 hr5 h182 => ?_
        obtain ⟨n5, rfl, e5, q5⟩ := hr5
        have HC5 := hid q5; have EN5 := hid e5
        clear q5 e5
        refine wpk_val h182 (wanted_none rfl) rfl (by decide) (fr rfl) (.pointer (some ⟨pk, 4, none⟩)) (by unfold execOp; simp only [h182.eval (k := 6) (v := .pointer (some ⟨pk, 0, none⟩)) (by simp)]; exact run_v (fa_35_0_4 (pk) _)) fun a185 h184 => ?_
        obtain ⟨wd5, hw5⟩ : ∃ w', w' = wc5.setCell ⟨pk, 4, none⟩ (.int .i64 (n5 : Int)) := ⟨_, rfl⟩
        obtain ⟨s5, hs5⟩ : ∃ sx, sx = stepR xs s4 (.num 1 4 0 9223372036854775807) := ⟨_, rfl⟩
        have HD5 : Hid (RdS W0 wd5 g pk a c xs none 0 s5) := hid (by rw [hw5, hs5]; exact HC5.out.setI hpk (4) 0 9223372036854775807 EN5.out (by rfl))
        have HS5 := hid hs5
        clear hs5
        refine wpk_skipv h184 (wanted_none rfl) rfl (w' := wd5) (by rw [hw5]; unfold execOp; simp only [h184.eval (k := 83) (v := .pointer (some ⟨pk, 4, none⟩)) (by simp), h184.eval (k := 82) (v := .int .i64 (n5 : Int)) (by simp)]; exact run_u (storeI (HC5.out.p.cell (i := 4) (by show 4 < 43; omega)) (HC5.out.p.frozen 4) _)) fun a187 h186 => ?_
        clear hw5 HC5 EN5 
        have h188 := h186.subs (l' := [(44, .int .i64 kd), (6, .pointer (some ⟨pk, 0, none⟩)), (5, .pointer (some ⟨g, 0, none⟩)), (2, .pointer (some ⟨rs, 0, none⟩))]) rfl
        clear h186
        go_step
        go_step
        go_step
        go_step
        go_step
        refine wpk_val h188 (wanted_none rfl) rfl (by decide) (fr rfl) (.pointer (some ⟨g, 0, none⟩)) (by unfold execOp; simp only [h188.eval (k := 5) (v := .pointer (some ⟨g, 0, none⟩)) (by simp)]; rfl) fun a190 h189 => ?_
        refine wpk_call h189 (wanted_none rfl) rfl (by decide) (fr rfl) (fun args => call_25 args _) rfl #[.pointer (some ⟨g, 0, none⟩), .int .i64 1] (by simp only [List.map_toArray, List.map_cons, List.map_nil, h189.eval (k := 84) (v := .pointer (some ⟨g, 0, none⟩)) (by simp)]; rfl) (R := fun v w' => ∃ n : Nat, v = .int .i64 (n : Int) ∧ n = (rnum xs s5.at_ s5.no 1).1 ∧ RdS W0 w' g pk a c xs none 0 (numS xs 1 s5)) (HD5.out.num HR0.out hg hl 1 (by decide)) fun a192 v6 wc6 hr6 h191 => ?_
        obtain ⟨n6, rfl, e6, q6⟩ := hr6
        have HC6 := hid q6; have EN6 := hid e6
        clear q6 e6
        refine wpk_val h191 (wanted_none rfl) rfl (by decide) (fr rfl) (.pointer (some ⟨pk, 18, none⟩)) (by unfold execOp; simp only [h191.eval (k := 6) (v := .pointer (some ⟨pk, 0, none⟩)) (by simp)]; exact run_v (fa_35_0_11 (pk) _)) fun a194 h193 => ?_
        obtain ⟨wd6, hw6⟩ : ∃ w', w' = wc6.setCell ⟨pk, 18, none⟩ (.int .i64 (n6 : Int)) := ⟨_, rfl⟩
        obtain ⟨s6, hs6⟩ : ∃ sx, sx = stepR xs s5 (.num 1 18 0 9223372036854775807) := ⟨_, rfl⟩
        have HD6 : Hid (RdS W0 wd6 g pk a c xs none 0 s6) := hid (by rw [hw6, hs6]; exact HC6.out.setI hpk (18) 0 9223372036854775807 EN6.out (by rfl))
        have HS6 := hid hs6
        clear hs6
        refine wpk_skipv h193 (wanted_none rfl) rfl (w' := wd6) (by rw [hw6]; unfold execOp; simp only [h193.eval (k := 86) (v := .pointer (some ⟨pk, 18, none⟩)) (by simp), h193.eval (k := 85) (v := .int .i64 (n6 : Int)) (by simp)]; exact run_u (storeI (HC6.out.p.cell (i := 18) (by show 18 < 43; omega)) (HC6.out.p.frozen 18) _)) fun a196 h195 => ?_
        clear hw6 HC6 EN6 HD5
        have h197 := h195.subs (l' := [(44, .int .i64 kd), (6, .pointer (some ⟨pk, 0, none⟩)), (5, .pointer (some ⟨g, 0, none⟩)), (2, .pointer (some ⟨rs, 0, none⟩))]) rfl
        clear h195
        go_step
        go_step
        go_step
        go_step
        go_step
        refine wpk_val h197 (wanted_none rfl) rfl (by decide) (fr rfl) (.pointer (some ⟨g, 0, none⟩)) (by unfold execOp; simp only [h197.eval (k := 5) (v := .pointer (some ⟨g, 0, none⟩)) (by simp)]; rfl) fun a199 h198 => ?_
        refine wpk_call h198 (wanted_none rfl) rfl (by decide) (fr rfl) (fun args => call_26 args _) rfl #[.pointer (some ⟨g, 0, none⟩), .int .i64 1] (by simp only [List.map_toArray, List.map_cons, List.map_nil, h198.eval (k := 87) (v := .pointer (some ⟨g, 0, none⟩)) (by simp)]; rfl) (R := fun v w' => ∃ tx : List UInt8, v = .string (bsW tx) ∧ tx = (rtext xs s6.at_ s6.no 1).1 ∧ RdS W0 w' g pk a c xs none 0 (txtS xs 1 s6)) (HD6.out.text HR0.out hg hl 1 (by decide)) fun a201 v7 wc7 hr7 h200 => ?_
        obtain ⟨n7, rfl, e7, q7⟩ := hr7
        have HC7 := hid q7; have EN7 := hid e7
        clear q7 e7
        refine wpk_val h200 (wanted_none rfl) rfl (by decide) (fr rfl) (.pointer (some ⟨pk, 10, none⟩)) (by unfold execOp; simp only [h200.eval (k := 6) (v := .pointer (some ⟨pk, 0, none⟩)) (by simp)]; exact run_v (fa_35_0_10 (pk) _)) fun a203 h202 => ?_
        refine wpk_val h202 (wanted_none rfl) rfl (by decide) (fr rfl) (.pointer (some ⟨pk, 11, none⟩)) (by unfold execOp; simp only [h202.eval (k := 89) (v := .pointer (some ⟨pk, 10, none⟩)) (by simp)]; exact run_v (fa_23_10_1 (pk) _)) fun a205 h204 => ?_
        obtain ⟨wd7, hw7⟩ : ∃ w', w' = wc7.setCell ⟨pk, 11, none⟩ (.string (bsW n7)) := ⟨_, rfl⟩
        obtain ⟨s7, hs7⟩ : ∃ sx, sx = stepR xs s6 (.text 1 100 11) := ⟨_, rfl⟩
        have HD7 : Hid (RdS W0 wd7 g pk a c xs none 0 s7) := hid (by rw [hw7, hs7]; exact HC7.out.setS hpk 11 100 EN7.out)
        have HS7 := hid hs7
        clear hs7
        refine wpk_skipv h204 (wanted_none rfl) rfl (w' := wd7) (by rw [hw7]; unfold execOp; simp only [h204.eval (k := 90) (v := .pointer (some ⟨pk, 11, none⟩)) (by simp), h204.eval (k := 88) (v := .string (bsW n7)) (by simp)]; exact run_u (storeS (HC7.out.p.cell (i := 11) (by show 11 < 43; omega)) (HC7.out.p.frozen 11) _)) fun a207 h206 => ?_
        clear hw7 HC7 EN7 HD6
        have h208 := h206.subs (l' := [(44, .int .i64 kd), (6, .pointer (some ⟨pk, 0, none⟩)), (5, .pointer (some ⟨g, 0, none⟩)), (2, .pointer (some ⟨rs, 0, none⟩))]) rfl
        clear h206
        go_step
        go_step
        go_step
        go_step
        go_step
        refine wpk_val h208 (wanted_none rfl) rfl (by decide) (fr rfl) (.pointer (some ⟨g, 0, none⟩)) (by unfold execOp; simp only [h208.eval (k := 5) (v := .pointer (some ⟨g, 0, none⟩)) (by simp)]; rfl) fun a210 h209 => ?_
        refine wpk_call h209 (wanted_none rfl) rfl (by decide) (fr rfl) (fun args => call_26 args _) rfl #[.pointer (some ⟨g, 0, none⟩), .int .i64 1] (by simp only [List.map_toArray, List.map_cons, List.map_nil, h209.eval (k := 91) (v := .pointer (some ⟨g, 0, none⟩)) (by simp)]; rfl) (R := fun v w' => ∃ tx : List UInt8, v = .string (bsW tx) ∧ tx = (rtext xs s7.at_ s7.no 1).1 ∧ RdS W0 w' g pk a c xs none 0 (txtS xs 1 s7)) (HD7.out.text HR0.out hg hl 1 (by decide)) fun a212 v8 wc8 hr8 h211 => ?_
        obtain ⟨n8, rfl, e8, q8⟩ := hr8
        have HC8 := hid q8; have EN8 := hid e8
        clear q8 e8
        refine wpk_val h211 (wanted_none rfl) rfl (by decide) (fr rfl) (.pointer (some ⟨pk, 10, none⟩)) (by unfold execOp; simp only [h211.eval (k := 6) (v := .pointer (some ⟨pk, 0, none⟩)) (by simp)]; exact run_v (fa_35_0_10 (pk) _)) fun a214 h213 => ?_
        refine wpk_val h213 (wanted_none rfl) rfl (by decide) (fr rfl) (.pointer (some ⟨pk, 12, none⟩)) (by unfold execOp; simp only [h213.eval (k := 93) (v := .pointer (some ⟨pk, 10, none⟩)) (by simp)]; exact run_v (fa_23_10_2 (pk) _)) fun a216 h215 => ?_
        obtain ⟨wd8, hw8⟩ : ∃ w', w' = wc8.setCell ⟨pk, 12, none⟩ (.string (bsW n8)) := ⟨_, rfl⟩
        obtain ⟨s8, hs8⟩ : ∃ sx, sx = stepR xs s7 (.text 1 100 12) := ⟨_, rfl⟩
        have HD8 : Hid (RdS W0 wd8 g pk a c xs none 0 s8) := hid (by rw [hw8, hs8]; exact HC8.out.setS hpk 12 100 EN8.out)
        have HS8 := hid hs8
        clear hs8
        refine wpk_skipv h215 (wanted_none rfl) rfl (w' := wd8) (by rw [hw8]; unfold execOp; simp only [h215.eval (k := 94) (v := .pointer (some ⟨pk, 12, none⟩)) (by simp), h215.eval (k := 92) (v := .string (bsW n8)) (by simp)]; exact run_u (storeS (HC8.out.p.cell (i := 12) (by show 12 < 43; omega)) (HC8.out.p.frozen 12) _)) fun a218 h217 => ?_
        clear hw8 HC8 EN8 HD7
        have h219 := h217.subs (l' := [(44, .int .i64 kd), (6, .pointer (some ⟨pk, 0, none⟩)), (5, .pointer (some ⟨g, 0, none⟩)), (2, .pointer (some ⟨rs, 0, none⟩))]) rfl
        clear h217
        go_step
        go_step
        go_step
        go_step
        go_step
        refine wpk_val h219 (wanted_none rfl) rfl (by decide) (fr rfl) (.pointer (some ⟨g, 0, none⟩)) (by unfold execOp; simp only [h219.eval (k := 5) (v := .pointer (some ⟨g, 0, none⟩)) (by simp)]; rfl) fun a221 h220 => ?_
        refine wpk_call h220 (wanted_none rfl) rfl (by decide) (fr rfl) (fun args => call_25 args _) rfl #[.pointer (some ⟨g, 0, none⟩), .int .i64 1] (by simp only [List.map_toArray, List.map_cons, List.map_nil, h220.eval (k := 95) (v := .pointer (some ⟨g, 0, none⟩)) (by simp)]; rfl) (R := fun v w' => ∃ n : Nat, v = .int .i64 (n : Int) ∧ n = (rnum xs s8.at_ s8.no 1).1 ∧ RdS W0 w' g pk a c xs none 0 (numS xs 1 s8)) (HD8.out.num HR0.out hg hl 1 (by decide)) fun a223 v9 wc9 hr9 h222 => ?_
        obtain ⟨n9, rfl, e9, q9⟩ := hr9
        have HC9 := hid q9; have EN9 := hid e9
        clear q9 e9
        refine wpk_val h222 (wanted_none rfl) rfl (by decide) (fr rfl) (.pointer (some ⟨pk, 10, none⟩)) (by unfold execOp; simp only [h222.eval (k := 6) (v := .pointer (some ⟨pk, 0, none⟩)) (by simp)]; exact run_v (fa_35_0_10 (pk) _)) fun a225 h224 => ?_
        refine wpk_val h224 (wanted_none rfl) rfl (by decide) (fr rfl) (.pointer (some ⟨pk, 13, none⟩)) (by unfold execOp; simp only [h224.eval (k := 97) (v := .pointer (some ⟨pk, 10, none⟩)) (by simp)]; exact run_v (fa_23_10_3 (pk) _)) fun a227 h226 => ?_
        obtain ⟨wd9, hw9⟩ : ∃ w', w' = wc9.setCell ⟨pk, 13, none⟩ (.int .i64 (n9 : Int)) := ⟨_, rfl⟩
        obtain ⟨s9, hs9⟩ : ∃ sx, sx = stepR xs s8 (.num 1 13 0 9223372036854775807) := ⟨_, rfl⟩
        have HD9 : Hid (RdS W0 wd9 g pk a c xs none 0 s9) := hid (by rw [hw9, hs9]; exact HC9.out.setI hpk (13) 0 9223372036854775807 EN9.out (by rfl))
        have HS9 := hid hs9
        clear hs9
        refine wpk_skipv h226 (wanted_none rfl) rfl (w' := wd9) (by rw [hw9]; unfold execOp; simp only [h226.eval (k := 98) (v := .pointer (some ⟨pk, 13, none⟩)) (by simp), h226.eval (k := 96) (v := .int .i64 (n9 : Int)) (by simp)]; exact run_u (storeI (HC9.out.p.cell (i := 13) (by show 13 < 43; omega)) (HC9.out.p.frozen 13) _)) fun a229 h228 => ?_
        clear hw9 HC9 EN9 HD8
        have h230 := h228.subs (l' := [(44, .int .i64 kd), (6, .pointer (some ⟨pk, 0, none⟩)), (5, .pointer (some ⟨g, 0, none⟩)), (2, .pointer (some ⟨rs, 0, none⟩))]) rfl
        clear h228
        go_step
        go_step
        go_step
        go_step
        refine wpk_val h230 (wanted_none rfl) rfl (by decide) (fr rfl) (.pointer (some ⟨g, 0, none⟩)) (by unfold execOp; simp only [h230.eval (k := 5) (v := .pointer (some ⟨g, 0, none⟩)) (by simp)]; rfl) fun a232 h231 => ?_
        refine wpk_call h231 (wanted_none rfl) rfl (by decide) (fr rfl) (fun args => call_25 args _) rfl #[.pointer (some ⟨g, 0, none⟩), .int .i64 4] (by simp only [List.map_toArray, List.map_cons, List.map_nil, h231.eval (k := 99) (v := .pointer (some ⟨g, 0, none⟩)) (by simp)]; rfl) (R := fun v w' => ∃ n : Nat, v = .int .i64 (n : Int) ∧ n = (rnum xs s9.at_ s9.no 4).1 ∧ RdS W0 w' g pk a c xs none 0 (numS xs 4 s9)) (HD9.out.num HR0.out hg hl 4 (by decide)) fun a234 v10 wc10 hr10 h233 => ?_
        obtain ⟨n10, rfl, e10, q10⟩ := hr10
        have HC10 := hid q10; have EN10 := hid e10
        clear q10 e10
        refine wpk_val h233 (wanted_none rfl) rfl (by decide) (fr rfl) (.pointer (some ⟨pk, 10, none⟩)) (by unfold execOp; simp only [h233.eval (k := 6) (v := .pointer (some ⟨pk, 0, none⟩)) (by simp)]; exact run_v (fa_35_0_10 (pk) _)) fun a236 h235 => ?_
        refine wpk_val h235 (wanted_none rfl) rfl (by decide) (fr rfl) (.pointer (some ⟨pk, 16, none⟩)) (by unfold execOp; simp only [h235.eval (k := 101) (v := .pointer (some ⟨pk, 10, none⟩)) (by simp)]; exact run_v (fa_23_10_6 (pk) _)) fun a238 h237 => ?_
        obtain ⟨wd10, hw10⟩ : ∃ w', w' = wc10.setCell ⟨pk, 16, none⟩ (.int .i64 (n10 : Int)) := ⟨_, rfl⟩
        obtain ⟨s10, hs10⟩ : ∃ sx, sx = stepR xs s9 (.num 4 16 0 9223372036854775807) := ⟨_, rfl⟩
        have HD10 : Hid (RdS W0 wd10 g pk a c xs none 0 s10) := hid (by rw [hw10, hs10]; exact HC10.out.setI hpk (16) 0 9223372036854775807 EN10.out (by rfl))
        have HS10 := hid hs10
        clear hs10
        refine wpk_skipv h237 (wanted_none rfl) rfl (w' := wd10) (by rw [hw10]; unfold execOp; simp only [h237.eval (k := 102) (v := .pointer (some ⟨pk, 16, none⟩)) (by simp), h237.eval (k := 100) (v := .int .i64 (n10 : Int)) (by simp)]; exact run_u (storeI (HC10.out.p.cell (i := 16) (by show 16 < 43; omega)) (HC10.out.p.frozen 16) _)) fun a240 h239 => ?_
        clear hw10 HC10 EN10 HD9
        have h241 := h239.subs (l' := [(44, .int .i64 kd), (6, .pointer (some ⟨pk, 0, none⟩)), (5, .pointer (some ⟨g, 0, none⟩)), (2, .pointer (some ⟨rs, 0, none⟩))]) rfl
        clear h239
        go_step
        go_step
        have h242 := h241.subs (l' := [(6, .pointer (some ⟨pk, 0, none⟩)), (5, .pointer (some ⟨g, 0, none⟩)), (2, .pointer (some ⟨rs, 0, none⟩))]) rfl
        clear h241
        exact ⟨none, 0, h242, by rw [show docR xs = s10 by unfold docR; rw [HH.out, ← HKD.out, hk, if_pos (by decide), HS10.out, HS9.out, HS8.out, HS7.out, HS6.out, HS5.out]; rfl]; exact HD10.out⟩
      · skip
        have e1 : (kd == 1) = false := by rw [hk]; rfl
        have e2 : (kd == 2) = false := by rw [hk]; rfl
        have e3 : (kd == 3) = false := by rw [hk]; rfl
        have e4 : (kd == 4) = true := by rw [hk]; rfl
        have e5 : (kd == 5) = false := by rw [hk]; rfl
        go_step
        go_step
        go_step
        refine wpk_val h36 (wanted_none rfl) rfl (by decide) (fr rfl) (.pointer (some ⟨pk, 0, none⟩)) (by unfold execOp; simp only [h36.eval (k := 6) (v := .pointer (some ⟨pk, 0, none⟩)) (by simp)]; exact run_v (fa_35_0_0 (pk) _)) fun a244 h243 => ?_
        refine wpk_val h243 (wanted_none rfl) rfl (by decide) (fr rfl) (.int .i64 kd) (by unfold execOp; simp only [h243.eval (k := 43) (v := .pointer (some ⟨pk, 0, none⟩)) (by simp)]; exact run_v (loadI (by have z := HD4.out.p.cell (i := 0) (by show 0 < 43; omega); rw [HKD.out]; exact z))) fun a246 h245 => ?_
        have h247 := h245.subs (l' := [(44, .int .i64 kd), (6, .pointer (some ⟨pk, 0, none⟩)), (5, .pointer (some ⟨g, 0, none⟩)), (2, .pointer (some ⟨rs, 0, none⟩))]) rfl
        clear h245
        go_step
        go_step
        go_step
        go_step
        go_step
        go_step
        refine wpk_val h247 (wanted_none rfl) rfl (by decide) (fr rfl) (.bool false) (by unfold execOp; simp only [h247.eval (k := 44) (v := .int .i64 kd) (by simp)]; exact run_v (eqIb _ _ _ _ _ e1)) fun a249 h248 => ?_
        refine wpk_val h248 (wanted_none rfl) rfl (by decide) (fr rfl) (.bool false) (by unfold execOp; simp only [h248.eval (k := 46) (v := .bool false) (by simp)]; rfl) fun a251 h250 => ?_
        have h252 := h250.subs (l' := [(45, .bool false), (44, .int .i64 kd), (6, .pointer (some ⟨pk, 0, none⟩)), (5, .pointer (some ⟨g, 0, none⟩)), (2, .pointer (some ⟨rs, 0, none⟩))]) rfl
        clear h250
        go_step
        go_step
        go_step
        refine wp_cond (t := false) (h252.eval (k := 45) (v := .bool false) (by simp)) ?_
        simp only [Bool.false_eq_true, if_false]
        have h253 := h252.subs (l' := [(44, .int .i64 kd), (6, .pointer (some ⟨pk, 0, none⟩)), (5, .pointer (some ⟨g, 0, none⟩)), (2, .pointer (some ⟨rs, 0, none⟩))]) rfl
        clear h252
        go_step
        go_step
        refine wpk_val h253 (wanted_none rfl) rfl (by decide) (fr rfl) (.bool false) (by unfold execOp; simp only [h253.eval (k := 44) (v := .int .i64 kd) (by simp)]; exact run_v (eqIb _ _ _ _ _ e2)) fun a255 h254 => ?_
        refine wpk_val h254 (wanted_none rfl) rfl (by decide) (fr rfl) (.bool false) (by unfold execOp; simp only [h254.eval (k := 66) (v := .bool false) (by simp)]; rfl) fun a257 h256 => ?_
        have h258 := h256.subs (l' := [(65, .bool false), (44, .int .i64 kd), (6, .pointer (some ⟨pk, 0, none⟩)), (5, .pointer (some ⟨g, 0, none⟩)), (2, .pointer (some ⟨rs, 0, none⟩))]) rfl
        clear h256
        go_step
        go_step
        go_step
        refine wp_cond (t := false) (h258.eval (k := 65) (v := .bool false) (by simp)) ?_
        simp only [Bool.false_eq_true, if_false]
        have h259 := h258.subs (l' := [(44, .int .i64 kd), (6, .pointer (some ⟨pk, 0, none⟩)), (5, .pointer (some ⟨g, 0, none⟩)), (2, .pointer (some ⟨rs, 0, none⟩))]) rfl
        clear h258
        go_step
        go_step
        refine wpk_val h259 (wanted_none rfl) rfl (by decide) (fr rfl) (.bool false) (by unfold execOp; simp only [h259.eval (k := 44) (v := .int .i64 kd) (by simp)]; exact run_v (eqIb _ _ _ _ _ e3)) fun a261 h260 => ?_
        refine wpk_val h260 (wanted_none rfl) rfl (by decide) (fr rfl) (.bool false) (by unfold execOp; simp only [h260.eval (k := 80) (v := .bool false) (by simp)]; rfl) fun a263 h262 => ?_
        have h264 := h262.subs (l' := [(79, .bool false), (44, .int .i64 kd), (6, .pointer (some ⟨pk, 0, none⟩)), (5, .pointer (some ⟨g, 0, none⟩)), (2, .pointer (some ⟨rs, 0, none⟩))]) rfl
        clear h262
        go_step
        go_step
        go_step
        refine wp_cond (t := false) (h264.eval (k := 79) (v := .bool false) (by simp)) ?_
        simp only [Bool.false_eq_true, if_false]
        have h265 := h264.subs (l' := [(44, .int .i64 kd), (6, .pointer (some ⟨pk, 0, none⟩)), (5, .pointer (some ⟨g, 0, none⟩)), (2, .pointer (some ⟨rs, 0, none⟩))]) rfl
        clear h264
        go_step
        go_step
        refine wpk_val h265 (wanted_none rfl) rfl (by decide) (fr rfl) (.bool true) (by unfold execOp; simp only [h265.eval (k := 44) (v := .int .i64 kd) (by simp)]; exact run_v (eqIb _ _ _ _ _ e4)) fun a267 h266 => ?_
        refine wpk_val h266 (wanted_none rfl) rfl (by decide) (fr rfl) (.bool true) (by unfold execOp; simp only [h266.eval (k := 104) (v := .bool true) (by simp)]; rfl) fun a269 h268 => ?_
        have h270 := h268.subs (l' := [(103, .bool true), (44, .int .i64 kd), (6, .pointer (some ⟨pk, 0, none⟩)), (5, .pointer (some ⟨g, 0, none⟩)), (2, .pointer (some ⟨rs, 0, none⟩))]) rfl
        clear h268
        go_step
        go_step
        go_step
        refine wp_cond (t := true) (h270.eval (k := 103) (v := .bool true) (by simp)) ?_
        simp only [if_true]
        have h271 := h270.subs (l' := [(44, .int .i64 kd), (6, .pointer (some ⟨pk, 0, none⟩)), (5, .pointer (some ⟨g, 0, none⟩)), (2, .pointer (some ⟨rs, 0, none⟩))]) rfl
        clear h270
        go_step
        refine wpk_val h271 (wanted_none rfl) rfl (by decide) (fr rfl) (.pointer (some ⟨g, 0, none⟩)) (by unfold execOp; simp only [h271.eval (k := 5) (v := .pointer (some ⟨g, 0, none⟩)) (by simp)]; rfl) fun a273 h272 => ?_
        refine wpk_call h272 (wanted_none rfl) rfl (by decide) (fr rfl) (fun args => call_told args _) rfl #[.pointer (some ⟨g, 0, none⟩), .pointer (some ⟨pk, 0, none⟩)] (by simp only [List.map_toArray, List.map_cons, List.map_nil, h272.eval (k := 105) (v := .pointer (some ⟨g, 0, none⟩)) (by simp), h272.eval (k := 6) (v := .pointer (some ⟨pk, 0, none⟩)) (by simp)]) (R := fun v w' => ∃ na' nc', v = .tuple #[] ∧ RdS W0 w' g pk a c xs na' nc' ((fRest 4).foldl (stepR xs) s4)) (told_any HD4 HR0 hg hpk hl (by rw [hN4.out]; decide)) fun a275 vt wt ht h274 => ?_
        obtain ⟨na', nc', rfl, q⟩ := ht
        have HT := hid q
        clear q
        have h276 := h274.subs (l' := [(44, .int .i64 kd), (6, .pointer (some ⟨pk, 0, none⟩)), (5, .pointer (some ⟨g, 0, none⟩)), (2, .pointer (some ⟨rs, 0, none⟩))]) rfl
        clear h274
        go_step
        go_step
        have h277 := h276.subs (l' := [(6, .pointer (some ⟨pk, 0, none⟩)), (5, .pointer (some ⟨g, 0, none⟩)), (2, .pointer (some ⟨rs, 0, none⟩))]) rfl
        clear h276
        exact ⟨na', nc', h277, by rw [show docR xs = (fRest 4).foldl (stepR xs) s4 by unfold docR; rw [HH.out, ← HKD.out, hk, if_pos (by decide)]]; exact HT.out⟩
      · skip
        have e1 : (kd == 1) = false := by rw [hk]; rfl
        have e2 : (kd == 2) = false := by rw [hk]; rfl
        have e3 : (kd == 3) = false := by rw [hk]; rfl
        have e4 : (kd == 4) = false := by rw [hk]; rfl
        have e5 : (kd == 5) = true := by rw [hk]; rfl
        go_step
        go_step
        go_step
        refine wpk_val h36 (wanted_none rfl) rfl (by decide) (fr rfl) (.pointer (some ⟨pk, 0, none⟩)) (by unfold execOp; simp only [h36.eval (k := 6) (v := .pointer (some ⟨pk, 0, none⟩)) (by simp)]; exact run_v (fa_35_0_0 (pk) _)) fun a279 h278 => ?_
        refine wpk_val h278 (wanted_none rfl) rfl (by decide) (fr rfl) (.int .i64 kd) (by unfold execOp; simp only [h278.eval (k := 43) (v := .pointer (some ⟨pk, 0, none⟩)) (by simp)]; exact run_v (loadI (by have z := HD4.out.p.cell (i := 0) (by show 0 < 43; omega); rw [HKD.out]; exact z))) fun a281 h280 => ?_
        have h282 := h280.subs (l' := [(44, .int .i64 kd), (6, .pointer (some ⟨pk, 0, none⟩)), (5, .pointer (some ⟨g, 0, none⟩)), (2, .pointer (some ⟨rs, 0, none⟩))]) rfl
        clear h280
        go_step
        go_step
        go_step
        go_step
        go_step
        go_step
        refine wpk_val h282 (wanted_none rfl) rfl (by decide) (fr rfl) (.bool false) (by unfold execOp; simp only [h282.eval (k := 44) (v := .int .i64 kd) (by simp)]; exact run_v (eqIb _ _ _ _ _ e1)) fun a284 h283 => ?_
        refine wpk_val h283 (wanted_none rfl) rfl (by decide) (fr rfl) (.bool false) (by unfold execOp; simp only [h283.eval (k := 46) (v := .bool false) (by simp)]; rfl) fun a286 h285 => ?_
        have h287 := h285.subs (l' := [(45, .bool false), (44, .int .i64 kd), (6, .pointer (some ⟨pk, 0, none⟩)), (5, .pointer (some ⟨g, 0, none⟩)), (2, .pointer (some ⟨rs, 0, none⟩))]) rfl
        clear h285
        go_step
        go_step
        go_step
        refine wp_cond (t := false) (h287.eval (k := 45) (v := .bool false) (by simp)) ?_
        simp only [Bool.false_eq_true, if_false]
        have h288 := h287.subs (l' := [(44, .int .i64 kd), (6, .pointer (some ⟨pk, 0, none⟩)), (5, .pointer (some ⟨g, 0, none⟩)), (2, .pointer (some ⟨rs, 0, none⟩))]) rfl
        clear h287
        go_step
        go_step
        refine wpk_val h288 (wanted_none rfl) rfl (by decide) (fr rfl) (.bool false) (by unfold execOp; simp only [h288.eval (k := 44) (v := .int .i64 kd) (by simp)]; exact run_v (eqIb _ _ _ _ _ e2)) fun a290 h289 => ?_
        refine wpk_val h289 (wanted_none rfl) rfl (by decide) (fr rfl) (.bool false) (by unfold execOp; simp only [h289.eval (k := 66) (v := .bool false) (by simp)]; rfl) fun a292 h291 => ?_
        have h293 := h291.subs (l' := [(65, .bool false), (44, .int .i64 kd), (6, .pointer (some ⟨pk, 0, none⟩)), (5, .pointer (some ⟨g, 0, none⟩)), (2, .pointer (some ⟨rs, 0, none⟩))]) rfl
        clear h291
        go_step
        go_step
        go_step
        refine wp_cond (t := false) (h293.eval (k := 65) (v := .bool false) (by simp)) ?_
        simp only [Bool.false_eq_true, if_false]
        have h294 := h293.subs (l' := [(44, .int .i64 kd), (6, .pointer (some ⟨pk, 0, none⟩)), (5, .pointer (some ⟨g, 0, none⟩)), (2, .pointer (some ⟨rs, 0, none⟩))]) rfl
        clear h293
        go_step
        go_step
        refine wpk_val h294 (wanted_none rfl) rfl (by decide) (fr rfl) (.bool false) (by unfold execOp; simp only [h294.eval (k := 44) (v := .int .i64 kd) (by simp)]; exact run_v (eqIb _ _ _ _ _ e3)) fun a296 h295 => ?_
        refine wpk_val h295 (wanted_none rfl) rfl (by decide) (fr rfl) (.bool false) (by unfold execOp; simp only [h295.eval (k := 80) (v := .bool false) (by simp)]; rfl) fun a298 h297 => ?_
        have h299 := h297.subs (l' := [(79, .bool false), (44, .int .i64 kd), (6, .pointer (some ⟨pk, 0, none⟩)), (5, .pointer (some ⟨g, 0, none⟩)), (2, .pointer (some ⟨rs, 0, none⟩))]) rfl
        clear h297
        go_step
        go_step
        go_step
        refine wp_cond (t := false) (h299.eval (k := 79) (v := .bool false) (by simp)) ?_
        simp only [Bool.false_eq_true, if_false]
        have h300 := h299.subs (l' := [(44, .int .i64 kd), (6, .pointer (some ⟨pk, 0, none⟩)), (5, .pointer (some ⟨g, 0, none⟩)), (2, .pointer (some ⟨rs, 0, none⟩))]) rfl
        clear h299
        go_step
        go_step
        refine wpk_val h300 (wanted_none rfl) rfl (by decide) (fr rfl) (.bool false) (by unfold execOp; simp only [h300.eval (k := 44) (v := .int .i64 kd) (by simp)]; exact run_v (eqIb _ _ _ _ _ e4)) fun a302 h301 => ?_
        refine wpk_val h301 (wanted_none rfl) rfl (by decide) (fr rfl) (.bool false) (by unfold execOp; simp only [h301.eval (k := 104) (v := .bool false) (by simp)]; rfl) fun a304 h303 => ?_
        have h305 := h303.subs (l' := [(103, .bool false), (44, .int .i64 kd), (6, .pointer (some ⟨pk, 0, none⟩)), (5, .pointer (some ⟨g, 0, none⟩)), (2, .pointer (some ⟨rs, 0, none⟩))]) rfl
        clear h303
        go_step
        go_step
        go_step
        refine wp_cond (t := false) (h305.eval (k := 103) (v := .bool false) (by simp)) ?_
        simp only [Bool.false_eq_true, if_false]
        have h306 := h305.subs (l' := [(44, .int .i64 kd), (6, .pointer (some ⟨pk, 0, none⟩)), (5, .pointer (some ⟨g, 0, none⟩)), (2, .pointer (some ⟨rs, 0, none⟩))]) rfl
        clear h305
        go_step
        go_step
        refine wpk_val h306 (wanted_none rfl) rfl (by decide) (fr rfl) (.bool true) (by unfold execOp; simp only [h306.eval (k := 44) (v := .int .i64 kd) (by simp)]; exact run_v (eqIb _ _ _ _ _ e5)) fun a308 h307 => ?_
        refine wpk_val h307 (wanted_none rfl) rfl (by decide) (fr rfl) (.bool true) (by unfold execOp; simp only [h307.eval (k := 108) (v := .bool true) (by simp)]; rfl) fun a310 h309 => ?_
        have h311 := h309.subs (l' := [(107, .bool true), (44, .int .i64 kd), (6, .pointer (some ⟨pk, 0, none⟩)), (5, .pointer (some ⟨g, 0, none⟩)), (2, .pointer (some ⟨rs, 0, none⟩))]) rfl
        clear h309
        go_step
        go_step
        go_step
        refine wp_cond (t := true) (h311.eval (k := 107) (v := .bool true) (by simp)) ?_
        simp only [if_true]
        have h312 := h311.subs (l' := [(44, .int .i64 kd), (6, .pointer (some ⟨pk, 0, none⟩)), (5, .pointer (some ⟨g, 0, none⟩)), (2, .pointer (some ⟨rs, 0, none⟩))]) rfl
        clear h311
        go_step
        refine wpk_val h312 (wanted_none rfl) rfl (by decide) (fr rfl) (.pointer (some ⟨g, 0, none⟩)) (by unfold execOp; simp only [h312.eval (k := 5) (v := .pointer (some ⟨g, 0, none⟩)) (by simp)]; rfl) fun a314 h313 => ?_
        refine wpk_call h313 (wanted_none rfl) rfl (by decide) (fr rfl) (fun args => call_25 args _) rfl #[.pointer (some ⟨g, 0, none⟩), .int .i64 1] (by simp only [List.map_toArray, List.map_cons, List.map_nil, h313.eval (k := 109) (v := .pointer (some ⟨g, 0, none⟩)) (by simp)]; rfl) (R := fun v w' => ∃ n : Nat, v = .int .i64 (n : Int) ∧ n = (rnum xs s4.at_ s4.no 1).1 ∧ RdS W0 w' g pk a c xs none 0 (numS xs 1 s4)) (HD4.out.num HR0.out hg hl 1 (by decide)) fun a316 v5 wc5 hr5 h315 => ?_
        obtain ⟨n5, rfl, e5, q5⟩ := hr5
        have HC5 := hid q5; have EN5 := hid e5
        clear q5 e5
        refine wpk_val h315 (wanted_none rfl) rfl (by decide) (fr rfl) (.pointer (some ⟨pk, 18, none⟩)) (by unfold execOp; simp only [h315.eval (k := 6) (v := .pointer (some ⟨pk, 0, none⟩)) (by simp)]; exact run_v (fa_35_0_11 (pk) _)) fun a318 h317 => ?_
        obtain ⟨wd5, hw5⟩ : ∃ w', w' = wc5.setCell ⟨pk, 18, none⟩ (.int .i64 (n5 : Int)) := ⟨_, rfl⟩
        obtain ⟨s5, hs5⟩ : ∃ sx, sx = stepR xs s4 (.num 1 18 0 9223372036854775807) := ⟨_, rfl⟩
        have HD5 : Hid (RdS W0 wd5 g pk a c xs none 0 s5) := hid (by rw [hw5, hs5]; exact HC5.out.setI hpk (18) 0 9223372036854775807 EN5.out (by rfl))
        have HS5 := hid hs5
        clear hs5
        refine wpk_skipv h317 (wanted_none rfl) rfl (w' := wd5) (by rw [hw5]; unfold execOp; simp only [h317.eval (k := 111) (v := .pointer (some ⟨pk, 18, none⟩)) (by simp), h317.eval (k := 110) (v := .int .i64 (n5 : Int)) (by simp)]; exact run_u (storeI (HC5.out.p.cell (i := 18) (by show 18 < 43; omega)) (HC5.out.p.frozen 18) _)) fun a320 h319 => ?_
        clear hw5 HC5 EN5 
        have h321 := h319.subs (l' := [(44, .int .i64 kd), (6, .pointer (some ⟨pk, 0, none⟩)), (5, .pointer (some ⟨g, 0, none⟩)), (2, .pointer (some ⟨rs, 0, none⟩))]) rfl
        clear h319
        go_step
        go_step
        have h322 := h321.subs (l' := [(6, .pointer (some ⟨pk, 0, none⟩)), (5, .pointer (some ⟨g, 0, none⟩)), (2, .pointer (some ⟨rs, 0, none⟩))]) rfl
        clear h321
        exact ⟨none, 0, h322, by rw [show docR xs = s5 by unfold docR; rw [HH.out, ← HKD.out, hk, if_pos (by decide), HS5.out]; rfl]; exact HD5.out⟩
    · have hk := hq
      have e1 : (kd == 1) = false := by simp; omega
      have e2 : (kd == 2) = false := by simp; omega
      have e3 : (kd == 3) = false := by simp; omega
      have e4 : (kd == 4) = false := by simp; omega
      have e5 : (kd == 5) = false := by simp; omega
      go_step
      go_step
      go_step
      refine wpk_val h36 (wanted_none rfl) rfl (by decide) (fr rfl) (.pointer (some ⟨pk, 0, none⟩)) (by unfold execOp; simp only [h36.eval (k := 6) (v := .pointer (some ⟨pk, 0, none⟩)) (by simp)]; exact run_v (fa_35_0_0 (pk) _)) fun a324 h323 => ?_
      refine wpk_val h323 (wanted_none rfl) rfl (by decide) (fr rfl) (.int .i64 kd) (by unfold execOp; simp only [h323.eval (k := 43) (v := .pointer (some ⟨pk, 0, none⟩)) (by simp)]; exact run_v (loadI (by have z := HD4.out.p.cell (i := 0) (by show 0 < 43; omega); rw [HKD.out]; exact z))) fun a326 h325 => ?_
      have h327 := h325.subs (l' := [(44, .int .i64 kd), (6, .pointer (some ⟨pk, 0, none⟩)), (5, .pointer (some ⟨g, 0, none⟩)), (2, .pointer (some ⟨rs, 0, none⟩))]) rfl
      clear h325
      go_step
      go_step
      go_step
      go_step
      go_step
      go_step
      refine wpk_val h327 (wanted_none rfl) rfl (by decide) (fr rfl) (.bool false) (by unfold execOp; simp only [h327.eval (k := 44) (v := .int .i64 kd) (by simp)]; exact run_v (eqIb _ _ _ _ _ e1)) fun a329 h328 => ?_
      refine wpk_val h328 (wanted_none rfl) rfl (by decide) (fr rfl) (.bool false) (by unfold execOp; simp only [h328.eval (k := 46) (v := .bool false) (by simp)]; rfl) fun a331 h330 => ?_
      have h332 := h330.subs (l' := [(45, .bool false), (44, .int .i64 kd), (6, .pointer (some ⟨pk, 0, none⟩)), (5, .pointer (some ⟨g, 0, none⟩)), (2, .pointer (some ⟨rs, 0, none⟩))]) rfl
      clear h330
      go_step
      go_step
      go_step
      refine wp_cond (t := false) (h332.eval (k := 45) (v := .bool false) (by simp)) ?_
      simp only [Bool.false_eq_true, if_false]
      have h333 := h332.subs (l' := [(44, .int .i64 kd), (6, .pointer (some ⟨pk, 0, none⟩)), (5, .pointer (some ⟨g, 0, none⟩)), (2, .pointer (some ⟨rs, 0, none⟩))]) rfl
      clear h332
      go_step
      go_step
      refine wpk_val h333 (wanted_none rfl) rfl (by decide) (fr rfl) (.bool false) (by unfold execOp; simp only [h333.eval (k := 44) (v := .int .i64 kd) (by simp)]; exact run_v (eqIb _ _ _ _ _ e2)) fun a335 h334 => ?_
      refine wpk_val h334 (wanted_none rfl) rfl (by decide) (fr rfl) (.bool false) (by unfold execOp; simp only [h334.eval (k := 66) (v := .bool false) (by simp)]; rfl) fun a337 h336 => ?_
      have h338 := h336.subs (l' := [(65, .bool false), (44, .int .i64 kd), (6, .pointer (some ⟨pk, 0, none⟩)), (5, .pointer (some ⟨g, 0, none⟩)), (2, .pointer (some ⟨rs, 0, none⟩))]) rfl
      clear h336
      go_step
      go_step
      go_step
      refine wp_cond (t := false) (h338.eval (k := 65) (v := .bool false) (by simp)) ?_
      simp only [Bool.false_eq_true, if_false]
      have h339 := h338.subs (l' := [(44, .int .i64 kd), (6, .pointer (some ⟨pk, 0, none⟩)), (5, .pointer (some ⟨g, 0, none⟩)), (2, .pointer (some ⟨rs, 0, none⟩))]) rfl
      clear h338
      go_step
      go_step
      refine wpk_val h339 (wanted_none rfl) rfl (by decide) (fr rfl) (.bool false) (by unfold execOp; simp only [h339.eval (k := 44) (v := .int .i64 kd) (by simp)]; exact run_v (eqIb _ _ _ _ _ e3)) fun a341 h340 => ?_
      refine wpk_val h340 (wanted_none rfl) rfl (by decide) (fr rfl) (.bool false) (by unfold execOp; simp only [h340.eval (k := 80) (v := .bool false) (by simp)]; rfl) fun a343 h342 => ?_
      have h344 := h342.subs (l' := [(79, .bool false), (44, .int .i64 kd), (6, .pointer (some ⟨pk, 0, none⟩)), (5, .pointer (some ⟨g, 0, none⟩)), (2, .pointer (some ⟨rs, 0, none⟩))]) rfl
      clear h342
      go_step
      go_step
      go_step
      refine wp_cond (t := false) (h344.eval (k := 79) (v := .bool false) (by simp)) ?_
      simp only [Bool.false_eq_true, if_false]
      have h345 := h344.subs (l' := [(44, .int .i64 kd), (6, .pointer (some ⟨pk, 0, none⟩)), (5, .pointer (some ⟨g, 0, none⟩)), (2, .pointer (some ⟨rs, 0, none⟩))]) rfl
      clear h344
      go_step
      go_step
      refine wpk_val h345 (wanted_none rfl) rfl (by decide) (fr rfl) (.bool false) (by unfold execOp; simp only [h345.eval (k := 44) (v := .int .i64 kd) (by simp)]; exact run_v (eqIb _ _ _ _ _ e4)) fun a347 h346 => ?_
      refine wpk_val h346 (wanted_none rfl) rfl (by decide) (fr rfl) (.bool false) (by unfold execOp; simp only [h346.eval (k := 104) (v := .bool false) (by simp)]; rfl) fun a349 h348 => ?_
      have h350 := h348.subs (l' := [(103, .bool false), (44, .int .i64 kd), (6, .pointer (some ⟨pk, 0, none⟩)), (5, .pointer (some ⟨g, 0, none⟩)), (2, .pointer (some ⟨rs, 0, none⟩))]) rfl
      clear h348
      go_step
      go_step
      go_step
      refine wp_cond (t := false) (h350.eval (k := 103) (v := .bool false) (by simp)) ?_
      simp only [Bool.false_eq_true, if_false]
      have h351 := h350.subs (l' := [(44, .int .i64 kd), (6, .pointer (some ⟨pk, 0, none⟩)), (5, .pointer (some ⟨g, 0, none⟩)), (2, .pointer (some ⟨rs, 0, none⟩))]) rfl
      clear h350
      go_step
      go_step
      refine wpk_val h351 (wanted_none rfl) rfl (by decide) (fr rfl) (.bool false) (by unfold execOp; simp only [h351.eval (k := 44) (v := .int .i64 kd) (by simp)]; exact run_v (eqIb _ _ _ _ _ e5)) fun a353 h352 => ?_
      refine wpk_val h352 (wanted_none rfl) rfl (by decide) (fr rfl) (.bool false) (by unfold execOp; simp only [h352.eval (k := 108) (v := .bool false) (by simp)]; rfl) fun a355 h354 => ?_
      have h356 := h354.subs (l' := [(107, .bool false), (44, .int .i64 kd), (6, .pointer (some ⟨pk, 0, none⟩)), (5, .pointer (some ⟨g, 0, none⟩)), (2, .pointer (some ⟨rs, 0, none⟩))]) rfl
      clear h354
      go_step
      go_step
      go_step
      refine wp_cond (t := false) (h356.eval (k := 107) (v := .bool false) (by simp)) ?_
      simp only [Bool.false_eq_true, if_false]
      have h357 := h356.subs (l' := [(44, .int .i64 kd), (6, .pointer (some ⟨pk, 0, none⟩)), (5, .pointer (some ⟨g, 0, none⟩)), (2, .pointer (some ⟨rs, 0, none⟩))]) rfl
      clear h356
      go_step
      go_step
      have h358 := h357.subs (l' := [(6, .pointer (some ⟨pk, 0, none⟩)), (5, .pointer (some ⟨g, 0, none⟩)), (2, .pointer (some ⟨rs, 0, none⟩))]) rfl
      clear h357
      exact ⟨none, 0, h358, by rw [show docR xs = s4 by unfold docR; rw [HH.out, ← HKD.out, if_neg hk]]; exact HD4.out⟩
  · rintro a' wT ⟨na, nc, hK, hR⟩
    have HRD := hid hR
    have KS := hid (HRS.out wT hR.b)
    clear hR HD4
    obtain ⟨D, hD⟩ : ∃ D, D = docR xs := ⟨_, rfl⟩
    rw [← hD] at HRD HOKD HIN HEND
    have HDD := hid hD
    clear hD
    obtain ⟨mb, hmb⟩ : ∃ b, b = (inW D.Q).isSome := ⟨_, rfl⟩
    rw [← hmb] at HIN HOKD
    have HMB := hid hmb
    clear hmb
    go_step
    go_step
    refine wpk_val hK (wanted_none rfl) rfl (by decide) (fr rfl) (.agg (pkC D.Q na D.Q.N.length nc).toArray) (by unfold execOp; simp only [hK.eval (k := 6) (v := .pointer (some ⟨pk, 0, none⟩)) (by simp)]; exact run_v (run_loadAt_mid _ _ _ _ (pkC D.Q na D.Q.N.length nc) _ HRD.out.p.range Try.underlying35 rfl (by rw [infoPk]; rfl))) fun a360 h359 => ?_
    refine wpk_call h359 (wanted_none rfl) rfl (by decide) (fr rfl) (fun args => call_in args _) rfl #[.agg (pkC D.Q na D.Q.N.length nc).toArray] (by simp only [List.map_toArray, List.map_cons, List.map_nil, h359.eval (k := 113) (v := .agg (pkC D.Q na D.Q.N.length nc).toArray) (by simp)]) (R := fun v w' => ∃ ba bc, ∃ bs : List UInt8, v = .tuple #[.slice ba bs.length bc, .bool mb] ∧ Below wT.heap.size wT w') ((HIN.out na nc wT HRD.out.n.row).mono fun e w' q => by obtain ⟨ba, bc, bs, q1, _, _, q2⟩ := q; exact ⟨_, q1, ba, bc, bs, rfl, q2⟩) fun a362 vi wi hi h361 => ?_
    obtain ⟨ba, bc, bs, rfl, q⟩ := hi
    have HI := hid (HRD.out.mono q); have KSi := hid (KS.out.mono q)
    clear q HRD
    refine wpk_val h361 (wanted_none rfl) rfl (by decide) (fr rfl) (.tuple #[.slice ba bs.length bc, .bool mb]) (by unfold execOp; simp only [h361.eval (k := 114) (v := .tuple #[.slice ba bs.length bc, .bool mb]) (by simp)]; rfl) fun a364 h363 => ?_
    refine wpk_val h363 (wanted_none rfl) rfl (by decide) (fr rfl) (.slice ba bs.length bc) (by unfold execOp; simp only [h363.eval (k := 112) (v := .tuple #[.slice ba bs.length bc, .bool mb]) (by simp)]; exact rfl) fun a366 h365 => ?_
    refine wpk_val h365 (wanted_none rfl) rfl (by decide) (fr rfl) (.bool mb) (by unfold execOp; simp only [h365.eval (k := 112) (v := .tuple #[.slice ba bs.length bc, .bool mb]) (by simp)]; exact rfl) fun a368 h367 => ?_
    refine wpk_val h367 (wanted_none rfl) rfl (by decide) (fr rfl) (.slice ba bs.length bc) (by unfold execOp; simp only [h367.eval (k := 115) (v := .slice ba bs.length bc) (by simp)]; rfl) fun a370 h369 => ?_
    refine wpk_val h369 (wanted_none rfl) rfl (by decide) (fr rfl) (.bool mb) (by unfold execOp; simp only [h369.eval (k := 116) (v := .bool mb) (by simp)]; rfl) fun a372 h371 => ?_
    have h373 := h371.subs (l' := [(8, .bool mb), (6, .pointer (some ⟨pk, 0, none⟩)), (5, .pointer (some ⟨g, 0, none⟩)), (2, .pointer (some ⟨rs, 0, none⟩))]) rfl
    clear h371
    go_step
    go_step
    go_step
    go_step
    cases hno : D.no with
    | true =>
      go_step
      refine wp_region_held_drew (S := fun w' => w' = wi.drew) (by kernel_rfl) rfl (fun hS374 => ?_)
      have HId := hid HI.out.drewN
      have KSd := hid KSi.out.drew
      refine wpk_take hS374 h373 0 rfl rfl (by decide) (fr rfl) (by kernel_rfl) (by kernel_rfl) (by kernel_rfl) (fun _ _ _ _ h => h) (.pointer (some ⟨g, 0, none⟩)) (Or.inl ⟨Eq.refl true, fun w1 hSw => (by cases hSw; exact (by show (execOp _ (⟨_, .move (.tmp 5), _, _, _, _⟩ : Oper)).run _ _ = _; exact (by unfold execOp; simp only [h373.eval (k := 5) (v := .pointer (some ⟨g, 0, none⟩)) (by simp)]; rfl)))⟩) fun a376 h375 => ?_
      refine wpk_take hS374 h375 1 rfl rfl (by decide) (fr rfl) (by kernel_rfl) (by kernel_rfl) (by kernel_rfl) (fun _ _ _ _ h => h) (.pointer (some ⟨g, 0, none⟩)) (Or.inl ⟨Eq.refl true, fun w1 hSw => (by cases hSw; exact (by show (execOp _ (⟨_, .nilCheck (.tmp 117), _, _, _, _⟩ : Oper)).run _ _ = _; exact (by unfold execOp; simp only [h375.eval (k := 117) (v := .pointer (some ⟨g, 0, none⟩)) (by simp)]; exact rfl)))⟩) fun a378 h377 => ?_
      refine wpk_take hS374 h377 2 rfl rfl (by decide) (fr rfl) (by kernel_rfl) (by kernel_rfl) (by kernel_rfl) (fun _ _ _ _ h => h) (.pointer (some ⟨g, 2, none⟩)) (Or.inl ⟨Eq.refl true, fun w1 hSw => (by cases hSw; exact (by show (execOp _ (⟨_, .fieldAddr 64 (.tmp 118) 2, _, _, _, _⟩ : Oper)).run _ _ = _; exact (by unfold execOp; simp only [h377.eval (k := 118) (v := .pointer (some ⟨g, 0, none⟩)) (by simp)]; exact run_v (fa_64_0_2 (g) _))))⟩) fun a380 h379 => ?_
      refine wpk_take hS374 h379 3 rfl rfl (by decide) (fr rfl) (by kernel_rfl) (by kernel_rfl) (by kernel_rfl) (fun _ _ _ _ h => h) (.bool true) (Or.inl ⟨Eq.refl true, fun w1 hSw => (by cases hSw; exact (by show (execOp _ (⟨_, .load 4 (.tmp 119), _, _, _, _⟩ : Oper)).run _ _ = _; exact (by unfold execOp; simp only [h379.eval (k := 119) (v := .pointer (some ⟨g, 2, none⟩)) (by simp)]; exact run_v (loadBo (by have z := HId.out.r.cell (i := 2) (by simp); rw [hno] at z; exact z)))))⟩) fun a382 h381 => ?_
      refine wpk_take hS374 h381 4 rfl rfl (by decide) (fr rfl) (by kernel_rfl) (by kernel_rfl) (by kernel_rfl) (fun _ _ _ _ h => h) (.bool true) (Or.inl ⟨Eq.refl true, fun w1 hSw => (by cases hSw; exact (by show (execOp _ (⟨_, .move (.tmp 120), _, _, _, _⟩ : Oper)).run _ _ = _; exact (by unfold execOp; simp only [h381.eval (k := 120) (v := .bool true) (by simp)]; rfl)))⟩) fun a384 h383 => ?_
      refine wpk_take hS374 h383 5 rfl rfl (by decide) (fr rfl) (by kernel_rfl) (by kernel_rfl) (by kernel_rfl) (fun _ _ _ _ h => h) undef (Or.inr ⟨(by rw [wanted_of (g := 4) (want := false) (b := true) rfl (h383.yields (prev := 121) rfl (by simp))]; rfl), rfl⟩) fun a386 h385 => ?_
      refine wpk_take hS374 h385 6 rfl rfl (by decide) (fr rfl) (by kernel_rfl) (by kernel_rfl) (by kernel_rfl) (fun _ _ _ _ h => h) undef (Or.inr ⟨(by rw [wanted_of (g := 4) (want := false) (b := true) rfl (h385.yields (prev := 121) rfl (by simp))]; rfl), rfl⟩) fun a388 h387 => ?_
      refine wpk_take hS374 h387 7 rfl rfl (by decide) (fr rfl) (by kernel_rfl) (by kernel_rfl) (by kernel_rfl) (fun _ _ _ _ h => h) undef (Or.inr ⟨(by rw [wanted_of (g := 4) (want := false) (b := true) rfl (h387.yields (prev := 121) rfl (by simp))]; rfl), rfl⟩) fun a390 h389 => ?_
      refine wpk_take hS374 h389 8 rfl rfl (by decide) (fr rfl) (by kernel_rfl) (by kernel_rfl) (by kernel_rfl) (fun _ _ _ _ h => h) undef (Or.inr ⟨(by rw [wanted_of (g := 4) (want := false) (b := true) rfl (h389.yields (prev := 121) rfl (by simp))]; rfl), rfl⟩) fun a392 h391 => ?_
      refine wpk_take hS374 h391 9 rfl rfl (by decide) (fr rfl) (by kernel_rfl) (by kernel_rfl) (by kernel_rfl) (fun _ _ _ _ h => h) undef (Or.inr ⟨(by rw [wanted_of (g := 4) (want := false) (b := true) rfl (h391.yields (prev := 121) rfl (by simp))]; rfl), rfl⟩) fun a394 h393 => ?_
      refine wpk_take hS374 h393 10 rfl rfl (by decide) (fr rfl) (by kernel_rfl) (by kernel_rfl) (by kernel_rfl) (fun _ _ _ _ h => h) undef (Or.inr ⟨(by rw [wanted_of (g := 4) (want := false) (b := true) rfl (h393.yields (prev := 121) rfl (by simp))]; rfl), rfl⟩) fun a396 h395 => ?_
      refine wpk_take hS374 h395 11 rfl rfl (by decide) (fr rfl) (by kernel_rfl) (by kernel_rfl) (by kernel_rfl) (fun _ _ _ _ h => h) undef (Or.inr ⟨(by rw [wanted_of (g := 4) (want := false) (b := true) rfl (h395.yields (prev := 121) rfl (by simp))]; rfl), rfl⟩) fun a398 h397 => ?_
      refine wpk_take hS374 h397 12 rfl rfl (by decide) (fr rfl) (by kernel_rfl) (by kernel_rfl) (by kernel_rfl) (fun _ _ _ _ h => h) undef (Or.inr ⟨(by rw [wanted_of (g := 4) (want := false) (b := true) rfl (h397.yields (prev := 121) rfl (by simp))]; rfl), rfl⟩) fun a400 h399 => ?_
      refine wpk_take hS374 h399 13 rfl rfl (by decide) (fr rfl) (by kernel_rfl) (by kernel_rfl) (by kernel_rfl) (fun _ _ _ _ h => h) undef (Or.inr ⟨(by rw [wanted_of (g := 4) (want := false) (b := true) rfl (h399.yields (prev := 121) rfl (by simp))]; rfl), rfl⟩) fun a402 h401 => ?_
      refine wpk_take hS374 h401 14 rfl rfl (by decide) (fr rfl) (by kernel_rfl) (by kernel_rfl) (by kernel_rfl) (fun _ _ _ _ h => h) undef (Or.inr ⟨(by rw [wanted_of (g := 4) (want := false) (b := true) rfl (h401.yields (prev := 121) rfl (by simp))]; rfl), rfl⟩) fun a404 h403 => ?_
      refine wpk_take hS374 h403 15 rfl rfl (by decide) (fr rfl) (by kernel_rfl) (by kernel_rfl) (by kernel_rfl) (fun _ _ _ _ h => h) (.bool true) (Or.inl ⟨Eq.refl true, fun w1 hSw => (by cases hSw; exact (by show (execOp _ (⟨_, .pick (.tmp 121) (.const (.bool true)) (.tmp 131), _, _, _, _⟩ : Oper)).run _ _ = _; exact (run_pick rfl (h403.eval (k := 121) (v := .bool true) (by simp)) rfl)))⟩) fun a406 h405 => ?_
      refine wpk_take hS374 h405 16 rfl rfl (by decide) (fr rfl) (by kernel_rfl) (by kernel_rfl) (by kernel_rfl) (fun _ _ _ _ h => h) (.bool true) (Or.inl ⟨Eq.refl true, fun w1 hSw => (by cases hSw; exact (by show (execOp _ (⟨_, .move (.tmp 132), _, _, _, _⟩ : Oper)).run _ _ = _; exact (by unfold execOp; simp only [h405.eval (k := 132) (v := .bool true) (by simp)]; rfl)))⟩) fun a408 h407 => ?_
      refine wpk_take hS374 h407 17 rfl rfl (by decide) (fr rfl) (by kernel_rfl) (by kernel_rfl) (by kernel_rfl) (fun _ _ _ _ h => h) undef (Or.inr ⟨(by rw [wanted_of (g := 16) (want := false) (b := true) rfl (h407.yields (prev := 133) rfl (by simp))]; rfl), rfl⟩) fun a410 h409 => ?_
      refine wpk_take hS374 h409 18 rfl rfl (by decide) (fr rfl) (by kernel_rfl) (by kernel_rfl) (by kernel_rfl) (fun _ _ _ _ h => h) undef (Or.inr ⟨(by rw [wanted_of (g := 16) (want := false) (b := true) rfl (h409.yields (prev := 133) rfl (by simp))]; rfl), rfl⟩) fun a412 h411 => ?_
      refine wpk_take hS374 h411 19 rfl rfl (by decide) (fr rfl) (by kernel_rfl) (by kernel_rfl) (by kernel_rfl) (fun _ _ _ _ h => h) (.bool true) (Or.inl ⟨Eq.refl true, fun w1 hSw => (by cases hSw; exact (by show (execOp _ (⟨_, .pick (.tmp 133) (.const (.bool true)) (.tmp 135), _, _, _, _⟩ : Oper)).run _ _ = _; exact (run_pick rfl (h411.eval (k := 133) (v := .bool true) (by simp)) rfl)))⟩) fun a414 h413 => ?_
      refine wpAnyH_done (by kernel_rfl) ?_ _
      have h415 := h413.subs (l' := [(136, .bool true), (8, .bool mb), (6, .pointer (some ⟨pk, 0, none⟩)), (5, .pointer (some ⟨g, 0, none⟩)), (2, .pointer (some ⟨rs, 0, none⟩))]) rfl
      clear h413
      go_step
      go_step
      refine wp_cond (t := true) (h415.eval (k := 136) (v := .bool true) (by simp)) ?_
      simp only [if_true]
      have h416 := h415.subs (l' := [(8, .bool mb), (6, .pointer (some ⟨pk, 0, none⟩)), (5, .pointer (some ⟨g, 0, none⟩)), (2, .pointer (some ⟨rs, 0, none⟩))]) rfl
      clear h415
      go_step
      go_step
      refine wpk_val h416 (wanted_none rfl) rfl (by decide) (fr rfl) (.agg (pkC P0z none 0 0).toArray) (run_buildPk rfl _ _) fun a418 h417 => ?_
      refine wpk_storeR h417 rfl rfl 35 rfl rs 0 (h417.eval (k := 2) (v := .pointer (some ⟨rs, 0, none⟩)) (by simp)) (pkC P0z none 0 0) (h417.eval (k := 137) (v := .agg (pkC P0z none 0 0).toArray) (by simp)) (by rw [infoPk]; rfl) (pkC_one _ _ _ _) KSd.out (by show 0 + 43 ≤ 43; omega) fun a420 w9 h419 k9 g9 => ?_
      rw [splice_all (by rfl)] at k9
      refine wpk_val h419 (wanted_none rfl) rfl (by decide) (fr rfl) (.int .i64 2) rfl fun a422 h421 => ?_
      have h423 := h421.subs (l' := [(3, .int .i64 2), (8, .bool mb), (6, .pointer (some ⟨pk, 0, none⟩)), (5, .pointer (some ⟨g, 0, none⟩)), (2, .pointer (some ⟨rs, 0, none⟩))]) rfl
      clear h421
      go_step
      go_step
      go_step
      go_step
      simp only [Exit.then]
      show bodyPost _ _ _ Exit.ret _ _
      refine bodyPost_ret (results_cell2k (v := .int .i64 2) rfl (h423.known (2, .pointer (some ⟨rs, 0, none⟩)) (by simp)) (h423.known (3, .int .i64 2) (by simp)) k9 Try.underlying35 rfl (by rw [infoPk]; rfl)) h423.defs ?_
      exact HEND.out.1 (by rw [HOKD.out]; simp [hno]) _ (below_grownS (kept_trans HB01.out HId.out.b) g9 hrs (kept_trans HB01.out HId.out.b).size)
    | false =>
      by_cases hat : D.at_ = xs.length
      · have hne : ((D.at_ : Int) != (xs.length : Int)) = false := by rw [hat]; simp
        cases mb with
        | true =>
          go_step
          refine wp_region_held_drew (S := fun w' => w' = wi.drew) (by kernel_rfl) rfl (fun hS424 => ?_)
          have HId := hid HI.out.drewN
          have KSd := hid KSi.out.drew
          refine wpk_take hS424 h373 0 rfl rfl (by decide) (fr rfl) (by kernel_rfl) (by kernel_rfl) (by kernel_rfl) (fun _ _ _ _ h => h) (.pointer (some ⟨g, 0, none⟩)) (Or.inl ⟨Eq.refl true, fun w1 hSw => (by cases hSw; exact (by show (execOp _ (⟨_, .move (.tmp 5), _, _, _, _⟩ : Oper)).run _ _ = _; exact (by unfold execOp; simp only [h373.eval (k := 5) (v := .pointer (some ⟨g, 0, none⟩)) (by simp)]; rfl)))⟩) fun a426 h425 => ?_
          refine wpk_take hS424 h425 1 rfl rfl (by decide) (fr rfl) (by kernel_rfl) (by kernel_rfl) (by kernel_rfl) (fun _ _ _ _ h => h) (.pointer (some ⟨g, 0, none⟩)) (Or.inl ⟨Eq.refl true, fun w1 hSw => (by cases hSw; exact (by show (execOp _ (⟨_, .nilCheck (.tmp 117), _, _, _, _⟩ : Oper)).run _ _ = _; exact (by unfold execOp; simp only [h425.eval (k := 117) (v := .pointer (some ⟨g, 0, none⟩)) (by simp)]; exact rfl)))⟩) fun a428 h427 => ?_
          refine wpk_take hS424 h427 2 rfl rfl (by decide) (fr rfl) (by kernel_rfl) (by kernel_rfl) (by kernel_rfl) (fun _ _ _ _ h => h) (.pointer (some ⟨g, 2, none⟩)) (Or.inl ⟨Eq.refl true, fun w1 hSw => (by cases hSw; exact (by show (execOp _ (⟨_, .fieldAddr 64 (.tmp 118) 2, _, _, _, _⟩ : Oper)).run _ _ = _; exact (by unfold execOp; simp only [h427.eval (k := 118) (v := .pointer (some ⟨g, 0, none⟩)) (by simp)]; exact run_v (fa_64_0_2 (g) _))))⟩) fun a430 h429 => ?_
          refine wpk_take hS424 h429 3 rfl rfl (by decide) (fr rfl) (by kernel_rfl) (by kernel_rfl) (by kernel_rfl) (fun _ _ _ _ h => h) (.bool false) (Or.inl ⟨Eq.refl true, fun w1 hSw => (by cases hSw; exact (by show (execOp _ (⟨_, .load 4 (.tmp 119), _, _, _, _⟩ : Oper)).run _ _ = _; exact (by unfold execOp; simp only [h429.eval (k := 119) (v := .pointer (some ⟨g, 2, none⟩)) (by simp)]; exact run_v (loadBo (by have z := HId.out.r.cell (i := 2) (by simp); rw [hno] at z; exact z)))))⟩) fun a432 h431 => ?_
          refine wpk_take hS424 h431 4 rfl rfl (by decide) (fr rfl) (by kernel_rfl) (by kernel_rfl) (by kernel_rfl) (fun _ _ _ _ h => h) (.bool false) (Or.inl ⟨Eq.refl true, fun w1 hSw => (by cases hSw; exact (by show (execOp _ (⟨_, .move (.tmp 120), _, _, _, _⟩ : Oper)).run _ _ = _; exact (by unfold execOp; simp only [h431.eval (k := 120) (v := .bool false) (by simp)]; rfl)))⟩) fun a434 h433 => ?_
          refine wpk_take hS424 h433 5 rfl rfl (by decide) (fr rfl) (by kernel_rfl) (by kernel_rfl) (by kernel_rfl) (fun _ _ _ _ h => h) (.pointer (some ⟨g, 0, none⟩)) (Or.inl ⟨(by rw [wanted_of (g := 4) (want := false) (b := false) rfl (h433.yields (prev := 121) rfl (by simp))]; rfl), fun w1 hSw => (by cases hSw; exact (by show (execOp _ (⟨_, .move (.tmp 5), _, _, _, _⟩ : Oper)).run _ _ = _; exact (by unfold execOp; simp only [h433.eval (k := 5) (v := .pointer (some ⟨g, 0, none⟩)) (by simp)]; rfl)))⟩) fun a436 h435 => ?_
          refine wpk_take hS424 h435 6 rfl rfl (by decide) (fr rfl) (by kernel_rfl) (by kernel_rfl) (by kernel_rfl) (fun _ _ _ _ h => h) (.pointer (some ⟨g, 0, none⟩)) (Or.inl ⟨(by rw [wanted_of (g := 4) (want := false) (b := false) rfl (h435.yields (prev := 121) rfl (by simp))]; rfl), fun w1 hSw => (by cases hSw; exact (by show (execOp _ (⟨_, .nilCheck (.tmp 122), _, _, _, _⟩ : Oper)).run _ _ = _; exact (by unfold execOp; simp only [h435.eval (k := 122) (v := .pointer (some ⟨g, 0, none⟩)) (by simp)]; exact rfl)))⟩) fun a438 h437 => ?_
          refine wpk_take hS424 h437 7 rfl rfl (by decide) (fr rfl) (by kernel_rfl) (by kernel_rfl) (by kernel_rfl) (fun _ _ _ _ h => h) (.pointer (some ⟨g, 1, none⟩)) (Or.inl ⟨(by rw [wanted_of (g := 4) (want := false) (b := false) rfl (h437.yields (prev := 121) rfl (by simp))]; rfl), fun w1 hSw => (by cases hSw; exact (by show (execOp _ (⟨_, .fieldAddr 64 (.tmp 123) 1, _, _, _, _⟩ : Oper)).run _ _ = _; exact (by unfold execOp; simp only [h437.eval (k := 123) (v := .pointer (some ⟨g, 0, none⟩)) (by simp)]; exact run_v (fa_64_0_1 (g) _))))⟩) fun a440 h439 => ?_
          refine wpk_take hS424 h439 8 rfl rfl (by decide) (fr rfl) (by kernel_rfl) (by kernel_rfl) (by kernel_rfl) (fun _ _ _ _ h => h) (.int .i64 (D.at_ : Int)) (Or.inl ⟨(by rw [wanted_of (g := 4) (want := false) (b := false) rfl (h439.yields (prev := 121) rfl (by simp))]; rfl), fun w1 hSw => (by cases hSw; exact (by show (execOp _ (⟨_, .load 3 (.tmp 124), _, _, _, _⟩ : Oper)).run _ _ = _; exact (by unfold execOp; simp only [h439.eval (k := 124) (v := .pointer (some ⟨g, 1, none⟩)) (by simp)]; exact run_v (loadI (HId.out.r.cell (i := 1) (by simp))))))⟩) fun a442 h441 => ?_
          refine wpk_take hS424 h441 9 rfl rfl (by decide) (fr rfl) (by kernel_rfl) (by kernel_rfl) (by kernel_rfl) (fun _ _ _ _ h => h) (.pointer (some ⟨g, 0, none⟩)) (Or.inl ⟨(by rw [wanted_of (g := 4) (want := false) (b := false) rfl (h441.yields (prev := 121) rfl (by simp))]; rfl), fun w1 hSw => (by cases hSw; exact (by show (execOp _ (⟨_, .move (.tmp 5), _, _, _, _⟩ : Oper)).run _ _ = _; exact (by unfold execOp; simp only [h441.eval (k := 5) (v := .pointer (some ⟨g, 0, none⟩)) (by simp)]; rfl)))⟩) fun a444 h443 => ?_
          refine wpk_take hS424 h443 10 rfl rfl (by decide) (fr rfl) (by kernel_rfl) (by kernel_rfl) (by kernel_rfl) (fun _ _ _ _ h => h) (.pointer (some ⟨g, 0, none⟩)) (Or.inl ⟨(by rw [wanted_of (g := 4) (want := false) (b := false) rfl (h443.yields (prev := 121) rfl (by simp))]; rfl), fun w1 hSw => (by cases hSw; exact (by show (execOp _ (⟨_, .nilCheck (.tmp 126), _, _, _, _⟩ : Oper)).run _ _ = _; exact (by unfold execOp; simp only [h443.eval (k := 126) (v := .pointer (some ⟨g, 0, none⟩)) (by simp)]; exact rfl)))⟩) fun a446 h445 => ?_
          refine wpk_take hS424 h445 11 rfl rfl (by decide) (fr rfl) (by kernel_rfl) (by kernel_rfl) (by kernel_rfl) (fun _ _ _ _ h => h) (.pointer (some ⟨g, 0, none⟩)) (Or.inl ⟨(by rw [wanted_of (g := 4) (want := false) (b := false) rfl (h445.yields (prev := 121) rfl (by simp))]; rfl), fun w1 hSw => (by cases hSw; exact (by show (execOp _ (⟨_, .fieldAddr 64 (.tmp 127) 0, _, _, _, _⟩ : Oper)).run _ _ = _; exact (by unfold execOp; simp only [h445.eval (k := 127) (v := .pointer (some ⟨g, 0, none⟩)) (by simp)]; exact run_v (fa_64_0_0 (g) _))))⟩) fun a448 h447 => ?_
          refine wpk_take hS424 h447 12 rfl rfl (by decide) (fr rfl) (by kernel_rfl) (by kernel_rfl) (by kernel_rfl) (fun _ _ _ _ h => h) (.slice a xs.length c) (Or.inl ⟨(by rw [wanted_of (g := 4) (want := false) (b := false) rfl (h447.yields (prev := 121) rfl (by simp))]; rfl), fun w1 hSw => (by cases hSw; exact (by show (execOp _ (⟨_, .load 37 (.tmp 128), _, _, _, _⟩ : Oper)).run _ _ = _; exact (by unfold execOp; simp only [h447.eval (k := 128) (v := .pointer (some ⟨g, 0, none⟩)) (by simp)]; exact run_v (loadB (HId.out.r.cell (i := 0) (by simp))))))⟩) fun a450 h449 => ?_
          refine wpk_take hS424 h449 13 rfl rfl (by decide) (fr rfl) (by kernel_rfl) (by kernel_rfl) (by kernel_rfl) (fun _ _ _ _ h => h) (.int .i64 (xs.length : Int)) (Or.inl ⟨(by rw [wanted_of (g := 4) (want := false) (b := false) rfl (h449.yields (prev := 121) rfl (by simp))]; rfl), fun w1 hSw => (by cases hSw; exact (by show (execOp _ (⟨_, .call { callee := .builtin .len, args := #[(.tmp 129)], argTypes := #[37] }, _, _, _, _⟩ : Oper)).run _ _ = _; exact (run_lenB rfl (h449.eval (k := 129) (v := .slice a xs.length c) (by simp)) _)))⟩) fun a452 h451 => ?_
          refine wpk_take hS424 h451 14 rfl rfl (by decide) (fr rfl) (by kernel_rfl) (by kernel_rfl) (by kernel_rfl) (fun _ _ _ _ h => h) (.bool false) (Or.inl ⟨(by rw [wanted_of (g := 4) (want := false) (b := false) rfl (h451.yields (prev := 121) rfl (by simp))]; rfl), fun w1 hSw => (by cases hSw; exact (by show (execOp _ (⟨_, .binOp .neq 3 (.tmp 125) (.tmp 130) 3, _, _, _, _⟩ : Oper)).run _ _ = _; exact (by unfold execOp; simp only [h451.eval (k := 125) (v := .int .i64 (D.at_ : Int)) (by simp), h451.eval (k := 130) (v := .int .i64 (xs.length : Int)) (by simp)]; exact run_v (neqIb _ _ _ _ _ hne))))⟩) fun a454 h453 => ?_
          refine wpk_take hS424 h453 15 rfl rfl (by decide) (fr rfl) (by kernel_rfl) (by kernel_rfl) (by kernel_rfl) (fun _ _ _ _ h => h) (.bool false) (Or.inl ⟨Eq.refl true, fun w1 hSw => (by cases hSw; exact (by show (execOp _ (⟨_, .pick (.tmp 121) (.const (.bool true)) (.tmp 131), _, _, _, _⟩ : Oper)).run _ _ = _; exact (run_pick rfl (h453.eval (k := 121) (v := .bool false) (by simp)) (by rw [if_neg (by simp)]; exact h453.eval (k := 131) (v := .bool false) (by simp)))))⟩) fun a456 h455 => ?_
          refine wpk_take hS424 h455 16 rfl rfl (by decide) (fr rfl) (by kernel_rfl) (by kernel_rfl) (by kernel_rfl) (fun _ _ _ _ h => h) (.bool false) (Or.inl ⟨Eq.refl true, fun w1 hSw => (by cases hSw; exact (by show (execOp _ (⟨_, .move (.tmp 132), _, _, _, _⟩ : Oper)).run _ _ = _; exact (by unfold execOp; simp only [h455.eval (k := 132) (v := .bool false) (by simp)]; rfl)))⟩) fun a458 h457 => ?_
          refine wpk_take hS424 h457 17 rfl rfl (by decide) (fr rfl) (by kernel_rfl) (by kernel_rfl) (by kernel_rfl) (fun _ _ _ _ h => h) (.bool true) (Or.inl ⟨(by rw [wanted_of (g := 16) (want := false) (b := false) rfl (h457.yields (prev := 133) rfl (by simp))]; rfl), fun w1 hSw => (by cases hSw; exact (by show (execOp _ (⟨_, .move (.tmp 8), _, _, _, _⟩ : Oper)).run _ _ = _; exact (by unfold execOp; simp only [h457.eval (k := 8) (v := .bool true) (by simp)]; rfl)))⟩) fun a460 h459 => ?_
          refine wpk_take hS424 h459 18 rfl rfl (by decide) (fr rfl) (by kernel_rfl) (by kernel_rfl) (by kernel_rfl) (fun _ _ _ _ h => h) (.bool false) (Or.inl ⟨(by rw [wanted_of (g := 16) (want := false) (b := false) rfl (h459.yields (prev := 133) rfl (by simp))]; rfl), fun w1 hSw => (by cases hSw; exact (by show (execOp _ (⟨_, .unOp .not 4 (.tmp 134), _, _, _, _⟩ : Oper)).run _ _ = _; exact (run_not rfl (h459.eval (k := 134) (v := .bool true) (by simp)))))⟩) fun a462 h461 => ?_
          refine wpk_take hS424 h461 19 rfl rfl (by decide) (fr rfl) (by kernel_rfl) (by kernel_rfl) (by kernel_rfl) (fun _ _ _ _ h => h) (.bool false) (Or.inl ⟨Eq.refl true, fun w1 hSw => (by cases hSw; exact (by show (execOp _ (⟨_, .pick (.tmp 133) (.const (.bool true)) (.tmp 135), _, _, _, _⟩ : Oper)).run _ _ = _; exact (run_pick rfl (h461.eval (k := 133) (v := .bool false) (by simp)) (by rw [if_neg (by simp)]; exact h461.eval (k := 135) (v := .bool false) (by simp)))))⟩) fun a464 h463 => ?_
          refine wpAnyH_done (by kernel_rfl) ?_ _
          have h465 := h463.subs (l' := [(136, .bool false), (8, .bool true), (6, .pointer (some ⟨pk, 0, none⟩)), (5, .pointer (some ⟨g, 0, none⟩)), (2, .pointer (some ⟨rs, 0, none⟩))]) rfl
          clear h463
          go_step
          go_step
          refine wp_cond (t := false) (h465.eval (k := 136) (v := .bool false) (by simp)) ?_
          simp only [Bool.false_eq_true, if_false]
          have h466 := h465.subs (l' := [(8, .bool true), (6, .pointer (some ⟨pk, 0, none⟩)), (5, .pointer (some ⟨g, 0, none⟩)), (2, .pointer (some ⟨rs, 0, none⟩))]) rfl
          clear h465
          go_step
          go_step
          go_step
          go_step
          go_step
          refine wpk_val h466 (wanted_none rfl) rfl (by decide) (fr rfl) (.agg (pkC D.Q na D.Q.N.length nc).toArray) (by unfold execOp; simp only [h466.eval (k := 6) (v := .pointer (some ⟨pk, 0, none⟩)) (by simp)]; exact run_v (run_loadAt_mid _ _ _ _ (pkC D.Q na D.Q.N.length nc) _ HId.out.p.range Try.underlying35 rfl (by rw [infoPk]; rfl))) fun a468 h467 => ?_
          refine wpk_storeR h467 rfl rfl 35 rfl rs 0 (h467.eval (k := 2) (v := .pointer (some ⟨rs, 0, none⟩)) (by simp)) (pkC D.Q na D.Q.N.length nc) (h467.eval (k := 138) (v := .agg (pkC D.Q na D.Q.N.length nc).toArray) (by simp)) (by rw [infoPk]; rfl) (pkC_one _ _ _ _) KSd.out (by show 0 + 43 ≤ 43; omega) fun a470 w9 h469 k9 g9 => ?_
          rw [splice_all (by rfl)] at k9
          refine wpk_val h469 (wanted_none rfl) rfl (by decide) (fr rfl) (.int .i64 0) rfl fun a472 h471 => ?_
          have h473 := h471.subs (l' := [(3, .int .i64 0), (8, .bool true), (6, .pointer (some ⟨pk, 0, none⟩)), (5, .pointer (some ⟨g, 0, none⟩)), (2, .pointer (some ⟨rs, 0, none⟩))]) rfl
          clear h471
          go_step
          go_step
          go_step
          go_step
          refine bodyPost_ret (results_cell2k (v := .int .i64 0) rfl (h473.known (2, .pointer (some ⟨rs, 0, none⟩)) (by simp)) (h473.known (3, .int .i64 0) (by simp)) k9 Try.underlying35 rfl (by rw [infoPk]; rfl)) h473.defs ?_
          exact HEND.out.2 (by rw [HOKD.out]; simp [hno, hat]) na nc _ (own_setK HId.out.n KSd.out g9) (below_grownS (kept_trans HB01.out HId.out.b) g9 hrs (kept_trans HB01.out HId.out.b).size)
        | false =>
          go_step
          refine wp_region_held_drew (S := fun w' => w' = wi.drew) (by kernel_rfl) rfl (fun hS474 => ?_)
          have HId := hid HI.out.drewN
          have KSd := hid KSi.out.drew
          refine wpk_take hS474 h373 0 rfl rfl (by decide) (fr rfl) (by kernel_rfl) (by kernel_rfl) (by kernel_rfl) (fun _ _ _ _ h => h) (.pointer (some ⟨g, 0, none⟩)) (Or.inl ⟨Eq.refl true, fun w1 hSw => (by cases hSw; exact (by show (execOp _ (⟨_, .move (.tmp 5), _, _, _, _⟩ : Oper)).run _ _ = _; exact (by unfold execOp; simp only [h373.eval (k := 5) (v := .pointer (some ⟨g, 0, none⟩)) (by simp)]; rfl)))⟩) fun a476 h475 => ?_
          refine wpk_take hS474 h475 1 rfl rfl (by decide) (fr rfl) (by kernel_rfl) (by kernel_rfl) (by kernel_rfl) (fun _ _ _ _ h => h) (.pointer (some ⟨g, 0, none⟩)) (Or.inl ⟨Eq.refl true, fun w1 hSw => (by cases hSw; exact (by show (execOp _ (⟨_, .nilCheck (.tmp 117), _, _, _, _⟩ : Oper)).run _ _ = _; exact (by unfold execOp; simp only [h475.eval (k := 117) (v := .pointer (some ⟨g, 0, none⟩)) (by simp)]; exact rfl)))⟩) fun a478 h477 => ?_
          refine wpk_take hS474 h477 2 rfl rfl (by decide) (fr rfl) (by kernel_rfl) (by kernel_rfl) (by kernel_rfl) (fun _ _ _ _ h => h) (.pointer (some ⟨g, 2, none⟩)) (Or.inl ⟨Eq.refl true, fun w1 hSw => (by cases hSw; exact (by show (execOp _ (⟨_, .fieldAddr 64 (.tmp 118) 2, _, _, _, _⟩ : Oper)).run _ _ = _; exact (by unfold execOp; simp only [h477.eval (k := 118) (v := .pointer (some ⟨g, 0, none⟩)) (by simp)]; exact run_v (fa_64_0_2 (g) _))))⟩) fun a480 h479 => ?_
          refine wpk_take hS474 h479 3 rfl rfl (by decide) (fr rfl) (by kernel_rfl) (by kernel_rfl) (by kernel_rfl) (fun _ _ _ _ h => h) (.bool false) (Or.inl ⟨Eq.refl true, fun w1 hSw => (by cases hSw; exact (by show (execOp _ (⟨_, .load 4 (.tmp 119), _, _, _, _⟩ : Oper)).run _ _ = _; exact (by unfold execOp; simp only [h479.eval (k := 119) (v := .pointer (some ⟨g, 2, none⟩)) (by simp)]; exact run_v (loadBo (by have z := HId.out.r.cell (i := 2) (by simp); rw [hno] at z; exact z)))))⟩) fun a482 h481 => ?_
          refine wpk_take hS474 h481 4 rfl rfl (by decide) (fr rfl) (by kernel_rfl) (by kernel_rfl) (by kernel_rfl) (fun _ _ _ _ h => h) (.bool false) (Or.inl ⟨Eq.refl true, fun w1 hSw => (by cases hSw; exact (by show (execOp _ (⟨_, .move (.tmp 120), _, _, _, _⟩ : Oper)).run _ _ = _; exact (by unfold execOp; simp only [h481.eval (k := 120) (v := .bool false) (by simp)]; rfl)))⟩) fun a484 h483 => ?_
          refine wpk_take hS474 h483 5 rfl rfl (by decide) (fr rfl) (by kernel_rfl) (by kernel_rfl) (by kernel_rfl) (fun _ _ _ _ h => h) (.pointer (some ⟨g, 0, none⟩)) (Or.inl ⟨(by rw [wanted_of (g := 4) (want := false) (b := false) rfl (h483.yields (prev := 121) rfl (by simp))]; rfl), fun w1 hSw => (by cases hSw; exact (by show (execOp _ (⟨_, .move (.tmp 5), _, _, _, _⟩ : Oper)).run _ _ = _; exact (by unfold execOp; simp only [h483.eval (k := 5) (v := .pointer (some ⟨g, 0, none⟩)) (by simp)]; rfl)))⟩) fun a486 h485 => ?_
          refine wpk_take hS474 h485 6 rfl rfl (by decide) (fr rfl) (by kernel_rfl) (by kernel_rfl) (by kernel_rfl) (fun _ _ _ _ h => h) (.pointer (some ⟨g, 0, none⟩)) (Or.inl ⟨(by rw [wanted_of (g := 4) (want := false) (b := false) rfl (h485.yields (prev := 121) rfl (by simp))]; rfl), fun w1 hSw => (by cases hSw; exact (by show (execOp _ (⟨_, .nilCheck (.tmp 122), _, _, _, _⟩ : Oper)).run _ _ = _; exact (by unfold execOp; simp only [h485.eval (k := 122) (v := .pointer (some ⟨g, 0, none⟩)) (by simp)]; exact rfl)))⟩) fun a488 h487 => ?_
          refine wpk_take hS474 h487 7 rfl rfl (by decide) (fr rfl) (by kernel_rfl) (by kernel_rfl) (by kernel_rfl) (fun _ _ _ _ h => h) (.pointer (some ⟨g, 1, none⟩)) (Or.inl ⟨(by rw [wanted_of (g := 4) (want := false) (b := false) rfl (h487.yields (prev := 121) rfl (by simp))]; rfl), fun w1 hSw => (by cases hSw; exact (by show (execOp _ (⟨_, .fieldAddr 64 (.tmp 123) 1, _, _, _, _⟩ : Oper)).run _ _ = _; exact (by unfold execOp; simp only [h487.eval (k := 123) (v := .pointer (some ⟨g, 0, none⟩)) (by simp)]; exact run_v (fa_64_0_1 (g) _))))⟩) fun a490 h489 => ?_
          refine wpk_take hS474 h489 8 rfl rfl (by decide) (fr rfl) (by kernel_rfl) (by kernel_rfl) (by kernel_rfl) (fun _ _ _ _ h => h) (.int .i64 (D.at_ : Int)) (Or.inl ⟨(by rw [wanted_of (g := 4) (want := false) (b := false) rfl (h489.yields (prev := 121) rfl (by simp))]; rfl), fun w1 hSw => (by cases hSw; exact (by show (execOp _ (⟨_, .load 3 (.tmp 124), _, _, _, _⟩ : Oper)).run _ _ = _; exact (by unfold execOp; simp only [h489.eval (k := 124) (v := .pointer (some ⟨g, 1, none⟩)) (by simp)]; exact run_v (loadI (HId.out.r.cell (i := 1) (by simp))))))⟩) fun a492 h491 => ?_
          refine wpk_take hS474 h491 9 rfl rfl (by decide) (fr rfl) (by kernel_rfl) (by kernel_rfl) (by kernel_rfl) (fun _ _ _ _ h => h) (.pointer (some ⟨g, 0, none⟩)) (Or.inl ⟨(by rw [wanted_of (g := 4) (want := false) (b := false) rfl (h491.yields (prev := 121) rfl (by simp))]; rfl), fun w1 hSw => (by cases hSw; exact (by show (execOp _ (⟨_, .move (.tmp 5), _, _, _, _⟩ : Oper)).run _ _ = _; exact (by unfold execOp; simp only [h491.eval (k := 5) (v := .pointer (some ⟨g, 0, none⟩)) (by simp)]; rfl)))⟩) fun a494 h493 => ?_
          refine wpk_take hS474 h493 10 rfl rfl (by decide) (fr rfl) (by kernel_rfl) (by kernel_rfl) (by kernel_rfl) (fun _ _ _ _ h => h) (.pointer (some ⟨g, 0, none⟩)) (Or.inl ⟨(by rw [wanted_of (g := 4) (want := false) (b := false) rfl (h493.yields (prev := 121) rfl (by simp))]; rfl), fun w1 hSw => (by cases hSw; exact (by show (execOp _ (⟨_, .nilCheck (.tmp 126), _, _, _, _⟩ : Oper)).run _ _ = _; exact (by unfold execOp; simp only [h493.eval (k := 126) (v := .pointer (some ⟨g, 0, none⟩)) (by simp)]; exact rfl)))⟩) fun a496 h495 => ?_
          refine wpk_take hS474 h495 11 rfl rfl (by decide) (fr rfl) (by kernel_rfl) (by kernel_rfl) (by kernel_rfl) (fun _ _ _ _ h => h) (.pointer (some ⟨g, 0, none⟩)) (Or.inl ⟨(by rw [wanted_of (g := 4) (want := false) (b := false) rfl (h495.yields (prev := 121) rfl (by simp))]; rfl), fun w1 hSw => (by cases hSw; exact (by show (execOp _ (⟨_, .fieldAddr 64 (.tmp 127) 0, _, _, _, _⟩ : Oper)).run _ _ = _; exact (by unfold execOp; simp only [h495.eval (k := 127) (v := .pointer (some ⟨g, 0, none⟩)) (by simp)]; exact run_v (fa_64_0_0 (g) _))))⟩) fun a498 h497 => ?_
          refine wpk_take hS474 h497 12 rfl rfl (by decide) (fr rfl) (by kernel_rfl) (by kernel_rfl) (by kernel_rfl) (fun _ _ _ _ h => h) (.slice a xs.length c) (Or.inl ⟨(by rw [wanted_of (g := 4) (want := false) (b := false) rfl (h497.yields (prev := 121) rfl (by simp))]; rfl), fun w1 hSw => (by cases hSw; exact (by show (execOp _ (⟨_, .load 37 (.tmp 128), _, _, _, _⟩ : Oper)).run _ _ = _; exact (by unfold execOp; simp only [h497.eval (k := 128) (v := .pointer (some ⟨g, 0, none⟩)) (by simp)]; exact run_v (loadB (HId.out.r.cell (i := 0) (by simp))))))⟩) fun a500 h499 => ?_
          refine wpk_take hS474 h499 13 rfl rfl (by decide) (fr rfl) (by kernel_rfl) (by kernel_rfl) (by kernel_rfl) (fun _ _ _ _ h => h) (.int .i64 (xs.length : Int)) (Or.inl ⟨(by rw [wanted_of (g := 4) (want := false) (b := false) rfl (h499.yields (prev := 121) rfl (by simp))]; rfl), fun w1 hSw => (by cases hSw; exact (by show (execOp _ (⟨_, .call { callee := .builtin .len, args := #[(.tmp 129)], argTypes := #[37] }, _, _, _, _⟩ : Oper)).run _ _ = _; exact (run_lenB rfl (h499.eval (k := 129) (v := .slice a xs.length c) (by simp)) _)))⟩) fun a502 h501 => ?_
          refine wpk_take hS474 h501 14 rfl rfl (by decide) (fr rfl) (by kernel_rfl) (by kernel_rfl) (by kernel_rfl) (fun _ _ _ _ h => h) (.bool false) (Or.inl ⟨(by rw [wanted_of (g := 4) (want := false) (b := false) rfl (h501.yields (prev := 121) rfl (by simp))]; rfl), fun w1 hSw => (by cases hSw; exact (by show (execOp _ (⟨_, .binOp .neq 3 (.tmp 125) (.tmp 130) 3, _, _, _, _⟩ : Oper)).run _ _ = _; exact (by unfold execOp; simp only [h501.eval (k := 125) (v := .int .i64 (D.at_ : Int)) (by simp), h501.eval (k := 130) (v := .int .i64 (xs.length : Int)) (by simp)]; exact run_v (neqIb _ _ _ _ _ hne))))⟩) fun a504 h503 => ?_
          refine wpk_take hS474 h503 15 rfl rfl (by decide) (fr rfl) (by kernel_rfl) (by kernel_rfl) (by kernel_rfl) (fun _ _ _ _ h => h) (.bool false) (Or.inl ⟨Eq.refl true, fun w1 hSw => (by cases hSw; exact (by show (execOp _ (⟨_, .pick (.tmp 121) (.const (.bool true)) (.tmp 131), _, _, _, _⟩ : Oper)).run _ _ = _; exact (run_pick rfl (h503.eval (k := 121) (v := .bool false) (by simp)) (by rw [if_neg (by simp)]; exact h503.eval (k := 131) (v := .bool false) (by simp)))))⟩) fun a506 h505 => ?_
          refine wpk_take hS474 h505 16 rfl rfl (by decide) (fr rfl) (by kernel_rfl) (by kernel_rfl) (by kernel_rfl) (fun _ _ _ _ h => h) (.bool false) (Or.inl ⟨Eq.refl true, fun w1 hSw => (by cases hSw; exact (by show (execOp _ (⟨_, .move (.tmp 132), _, _, _, _⟩ : Oper)).run _ _ = _; exact (by unfold execOp; simp only [h505.eval (k := 132) (v := .bool false) (by simp)]; rfl)))⟩) fun a508 h507 => ?_
          refine wpk_take hS474 h507 17 rfl rfl (by decide) (fr rfl) (by kernel_rfl) (by kernel_rfl) (by kernel_rfl) (fun _ _ _ _ h => h) (.bool false) (Or.inl ⟨(by rw [wanted_of (g := 16) (want := false) (b := false) rfl (h507.yields (prev := 133) rfl (by simp))]; rfl), fun w1 hSw => (by cases hSw; exact (by show (execOp _ (⟨_, .move (.tmp 8), _, _, _, _⟩ : Oper)).run _ _ = _; exact (by unfold execOp; simp only [h507.eval (k := 8) (v := .bool false) (by simp)]; rfl)))⟩) fun a510 h509 => ?_
          refine wpk_take hS474 h509 18 rfl rfl (by decide) (fr rfl) (by kernel_rfl) (by kernel_rfl) (by kernel_rfl) (fun _ _ _ _ h => h) (.bool true) (Or.inl ⟨(by rw [wanted_of (g := 16) (want := false) (b := false) rfl (h509.yields (prev := 133) rfl (by simp))]; rfl), fun w1 hSw => (by cases hSw; exact (by show (execOp _ (⟨_, .unOp .not 4 (.tmp 134), _, _, _, _⟩ : Oper)).run _ _ = _; exact (run_not rfl (h509.eval (k := 134) (v := .bool false) (by simp)))))⟩) fun a512 h511 => ?_
          refine wpk_take hS474 h511 19 rfl rfl (by decide) (fr rfl) (by kernel_rfl) (by kernel_rfl) (by kernel_rfl) (fun _ _ _ _ h => h) (.bool true) (Or.inl ⟨Eq.refl true, fun w1 hSw => (by cases hSw; exact (by show (execOp _ (⟨_, .pick (.tmp 133) (.const (.bool true)) (.tmp 135), _, _, _, _⟩ : Oper)).run _ _ = _; exact (run_pick rfl (h511.eval (k := 133) (v := .bool false) (by simp)) (by rw [if_neg (by simp)]; exact h511.eval (k := 135) (v := .bool true) (by simp)))))⟩) fun a514 h513 => ?_
          refine wpAnyH_done (by kernel_rfl) ?_ _
          have h515 := h513.subs (l' := [(136, .bool true), (8, .bool false), (6, .pointer (some ⟨pk, 0, none⟩)), (5, .pointer (some ⟨g, 0, none⟩)), (2, .pointer (some ⟨rs, 0, none⟩))]) rfl
          clear h513
          go_step
          go_step
          refine wp_cond (t := true) (h515.eval (k := 136) (v := .bool true) (by simp)) ?_
          simp only [if_true]
          have h516 := h515.subs (l' := [(8, .bool false), (6, .pointer (some ⟨pk, 0, none⟩)), (5, .pointer (some ⟨g, 0, none⟩)), (2, .pointer (some ⟨rs, 0, none⟩))]) rfl
          clear h515
          go_step
          go_step
          refine wpk_val h516 (wanted_none rfl) rfl (by decide) (fr rfl) (.agg (pkC P0z none 0 0).toArray) (run_buildPk rfl _ _) fun a518 h517 => ?_
          refine wpk_storeR h517 rfl rfl 35 rfl rs 0 (h517.eval (k := 2) (v := .pointer (some ⟨rs, 0, none⟩)) (by simp)) (pkC P0z none 0 0) (h517.eval (k := 137) (v := .agg (pkC P0z none 0 0).toArray) (by simp)) (by rw [infoPk]; rfl) (pkC_one _ _ _ _) KSd.out (by show 0 + 43 ≤ 43; omega) fun a520 w9 h519 k9 g9 => ?_
          rw [splice_all (by rfl)] at k9
          refine wpk_val h519 (wanted_none rfl) rfl (by decide) (fr rfl) (.int .i64 2) rfl fun a522 h521 => ?_
          have h523 := h521.subs (l' := [(3, .int .i64 2), (8, .bool false), (6, .pointer (some ⟨pk, 0, none⟩)), (5, .pointer (some ⟨g, 0, none⟩)), (2, .pointer (some ⟨rs, 0, none⟩))]) rfl
          clear h521
          go_step
          go_step
          go_step
          go_step
          simp only [Exit.then]
          show bodyPost _ _ _ Exit.ret _ _
          refine bodyPost_ret (results_cell2k (v := .int .i64 2) rfl (h523.known (2, .pointer (some ⟨rs, 0, none⟩)) (by simp)) (h523.known (3, .int .i64 2) (by simp)) k9 Try.underlying35 rfl (by rw [infoPk]; rfl)) h523.defs ?_
          exact HEND.out.1 (by rw [HOKD.out]; simp [hno, hat]) _ (below_grownS (kept_trans HB01.out HId.out.b) g9 hrs (kept_trans HB01.out HId.out.b).size)
      · have hne : ((D.at_ : Int) != (xs.length : Int)) = true := by simp; omega
        go_step
        refine wp_region_held_drew (S := fun w' => w' = wi.drew) (by kernel_rfl) rfl (fun hS524 => ?_)
        have HId := hid HI.out.drewN
        have KSd := hid KSi.out.drew
        refine wpk_take hS524 h373 0 rfl rfl (by decide) (fr rfl) (by kernel_rfl) (by kernel_rfl) (by kernel_rfl) (fun _ _ _ _ h => h) (.pointer (some ⟨g, 0, none⟩)) (Or.inl ⟨Eq.refl true, fun w1 hSw => (by cases hSw; exact (by show (execOp _ (⟨_, .move (.tmp 5), _, _, _, _⟩ : Oper)).run _ _ = _; exact (by unfold execOp; simp only [h373.eval (k := 5) (v := .pointer (some ⟨g, 0, none⟩)) (by simp)]; rfl)))⟩) fun a526 h525 => ?_
        refine wpk_take hS524 h525 1 rfl rfl (by decide) (fr rfl) (by kernel_rfl) (by kernel_rfl) (by kernel_rfl) (fun _ _ _ _ h => h) (.pointer (some ⟨g, 0, none⟩)) (Or.inl ⟨Eq.refl true, fun w1 hSw => (by cases hSw; exact (by show (execOp _ (⟨_, .nilCheck (.tmp 117), _, _, _, _⟩ : Oper)).run _ _ = _; exact (by unfold execOp; simp only [h525.eval (k := 117) (v := .pointer (some ⟨g, 0, none⟩)) (by simp)]; exact rfl)))⟩) fun a528 h527 => ?_
        refine wpk_take hS524 h527 2 rfl rfl (by decide) (fr rfl) (by kernel_rfl) (by kernel_rfl) (by kernel_rfl) (fun _ _ _ _ h => h) (.pointer (some ⟨g, 2, none⟩)) (Or.inl ⟨Eq.refl true, fun w1 hSw => (by cases hSw; exact (by show (execOp _ (⟨_, .fieldAddr 64 (.tmp 118) 2, _, _, _, _⟩ : Oper)).run _ _ = _; exact (by unfold execOp; simp only [h527.eval (k := 118) (v := .pointer (some ⟨g, 0, none⟩)) (by simp)]; exact run_v (fa_64_0_2 (g) _))))⟩) fun a530 h529 => ?_
        refine wpk_take hS524 h529 3 rfl rfl (by decide) (fr rfl) (by kernel_rfl) (by kernel_rfl) (by kernel_rfl) (fun _ _ _ _ h => h) (.bool false) (Or.inl ⟨Eq.refl true, fun w1 hSw => (by cases hSw; exact (by show (execOp _ (⟨_, .load 4 (.tmp 119), _, _, _, _⟩ : Oper)).run _ _ = _; exact (by unfold execOp; simp only [h529.eval (k := 119) (v := .pointer (some ⟨g, 2, none⟩)) (by simp)]; exact run_v (loadBo (by have z := HId.out.r.cell (i := 2) (by simp); rw [hno] at z; exact z)))))⟩) fun a532 h531 => ?_
        refine wpk_take hS524 h531 4 rfl rfl (by decide) (fr rfl) (by kernel_rfl) (by kernel_rfl) (by kernel_rfl) (fun _ _ _ _ h => h) (.bool false) (Or.inl ⟨Eq.refl true, fun w1 hSw => (by cases hSw; exact (by show (execOp _ (⟨_, .move (.tmp 120), _, _, _, _⟩ : Oper)).run _ _ = _; exact (by unfold execOp; simp only [h531.eval (k := 120) (v := .bool false) (by simp)]; rfl)))⟩) fun a534 h533 => ?_
        refine wpk_take hS524 h533 5 rfl rfl (by decide) (fr rfl) (by kernel_rfl) (by kernel_rfl) (by kernel_rfl) (fun _ _ _ _ h => h) (.pointer (some ⟨g, 0, none⟩)) (Or.inl ⟨(by rw [wanted_of (g := 4) (want := false) (b := false) rfl (h533.yields (prev := 121) rfl (by simp))]; rfl), fun w1 hSw => (by cases hSw; exact (by show (execOp _ (⟨_, .move (.tmp 5), _, _, _, _⟩ : Oper)).run _ _ = _; exact (by unfold execOp; simp only [h533.eval (k := 5) (v := .pointer (some ⟨g, 0, none⟩)) (by simp)]; rfl)))⟩) fun a536 h535 => ?_
        refine wpk_take hS524 h535 6 rfl rfl (by decide) (fr rfl) (by kernel_rfl) (by kernel_rfl) (by kernel_rfl) (fun _ _ _ _ h => h) (.pointer (some ⟨g, 0, none⟩)) (Or.inl ⟨(by rw [wanted_of (g := 4) (want := false) (b := false) rfl (h535.yields (prev := 121) rfl (by simp))]; rfl), fun w1 hSw => (by cases hSw; exact (by show (execOp _ (⟨_, .nilCheck (.tmp 122), _, _, _, _⟩ : Oper)).run _ _ = _; exact (by unfold execOp; simp only [h535.eval (k := 122) (v := .pointer (some ⟨g, 0, none⟩)) (by simp)]; exact rfl)))⟩) fun a538 h537 => ?_
        refine wpk_take hS524 h537 7 rfl rfl (by decide) (fr rfl) (by kernel_rfl) (by kernel_rfl) (by kernel_rfl) (fun _ _ _ _ h => h) (.pointer (some ⟨g, 1, none⟩)) (Or.inl ⟨(by rw [wanted_of (g := 4) (want := false) (b := false) rfl (h537.yields (prev := 121) rfl (by simp))]; rfl), fun w1 hSw => (by cases hSw; exact (by show (execOp _ (⟨_, .fieldAddr 64 (.tmp 123) 1, _, _, _, _⟩ : Oper)).run _ _ = _; exact (by unfold execOp; simp only [h537.eval (k := 123) (v := .pointer (some ⟨g, 0, none⟩)) (by simp)]; exact run_v (fa_64_0_1 (g) _))))⟩) fun a540 h539 => ?_
        refine wpk_take hS524 h539 8 rfl rfl (by decide) (fr rfl) (by kernel_rfl) (by kernel_rfl) (by kernel_rfl) (fun _ _ _ _ h => h) (.int .i64 (D.at_ : Int)) (Or.inl ⟨(by rw [wanted_of (g := 4) (want := false) (b := false) rfl (h539.yields (prev := 121) rfl (by simp))]; rfl), fun w1 hSw => (by cases hSw; exact (by show (execOp _ (⟨_, .load 3 (.tmp 124), _, _, _, _⟩ : Oper)).run _ _ = _; exact (by unfold execOp; simp only [h539.eval (k := 124) (v := .pointer (some ⟨g, 1, none⟩)) (by simp)]; exact run_v (loadI (HId.out.r.cell (i := 1) (by simp))))))⟩) fun a542 h541 => ?_
        refine wpk_take hS524 h541 9 rfl rfl (by decide) (fr rfl) (by kernel_rfl) (by kernel_rfl) (by kernel_rfl) (fun _ _ _ _ h => h) (.pointer (some ⟨g, 0, none⟩)) (Or.inl ⟨(by rw [wanted_of (g := 4) (want := false) (b := false) rfl (h541.yields (prev := 121) rfl (by simp))]; rfl), fun w1 hSw => (by cases hSw; exact (by show (execOp _ (⟨_, .move (.tmp 5), _, _, _, _⟩ : Oper)).run _ _ = _; exact (by unfold execOp; simp only [h541.eval (k := 5) (v := .pointer (some ⟨g, 0, none⟩)) (by simp)]; rfl)))⟩) fun a544 h543 => ?_
        refine wpk_take hS524 h543 10 rfl rfl (by decide) (fr rfl) (by kernel_rfl) (by kernel_rfl) (by kernel_rfl) (fun _ _ _ _ h => h) (.pointer (some ⟨g, 0, none⟩)) (Or.inl ⟨(by rw [wanted_of (g := 4) (want := false) (b := false) rfl (h543.yields (prev := 121) rfl (by simp))]; rfl), fun w1 hSw => (by cases hSw; exact (by show (execOp _ (⟨_, .nilCheck (.tmp 126), _, _, _, _⟩ : Oper)).run _ _ = _; exact (by unfold execOp; simp only [h543.eval (k := 126) (v := .pointer (some ⟨g, 0, none⟩)) (by simp)]; exact rfl)))⟩) fun a546 h545 => ?_
        refine wpk_take hS524 h545 11 rfl rfl (by decide) (fr rfl) (by kernel_rfl) (by kernel_rfl) (by kernel_rfl) (fun _ _ _ _ h => h) (.pointer (some ⟨g, 0, none⟩)) (Or.inl ⟨(by rw [wanted_of (g := 4) (want := false) (b := false) rfl (h545.yields (prev := 121) rfl (by simp))]; rfl), fun w1 hSw => (by cases hSw; exact (by show (execOp _ (⟨_, .fieldAddr 64 (.tmp 127) 0, _, _, _, _⟩ : Oper)).run _ _ = _; exact (by unfold execOp; simp only [h545.eval (k := 127) (v := .pointer (some ⟨g, 0, none⟩)) (by simp)]; exact run_v (fa_64_0_0 (g) _))))⟩) fun a548 h547 => ?_
        refine wpk_take hS524 h547 12 rfl rfl (by decide) (fr rfl) (by kernel_rfl) (by kernel_rfl) (by kernel_rfl) (fun _ _ _ _ h => h) (.slice a xs.length c) (Or.inl ⟨(by rw [wanted_of (g := 4) (want := false) (b := false) rfl (h547.yields (prev := 121) rfl (by simp))]; rfl), fun w1 hSw => (by cases hSw; exact (by show (execOp _ (⟨_, .load 37 (.tmp 128), _, _, _, _⟩ : Oper)).run _ _ = _; exact (by unfold execOp; simp only [h547.eval (k := 128) (v := .pointer (some ⟨g, 0, none⟩)) (by simp)]; exact run_v (loadB (HId.out.r.cell (i := 0) (by simp))))))⟩) fun a550 h549 => ?_
        refine wpk_take hS524 h549 13 rfl rfl (by decide) (fr rfl) (by kernel_rfl) (by kernel_rfl) (by kernel_rfl) (fun _ _ _ _ h => h) (.int .i64 (xs.length : Int)) (Or.inl ⟨(by rw [wanted_of (g := 4) (want := false) (b := false) rfl (h549.yields (prev := 121) rfl (by simp))]; rfl), fun w1 hSw => (by cases hSw; exact (by show (execOp _ (⟨_, .call { callee := .builtin .len, args := #[(.tmp 129)], argTypes := #[37] }, _, _, _, _⟩ : Oper)).run _ _ = _; exact (run_lenB rfl (h549.eval (k := 129) (v := .slice a xs.length c) (by simp)) _)))⟩) fun a552 h551 => ?_
        refine wpk_take hS524 h551 14 rfl rfl (by decide) (fr rfl) (by kernel_rfl) (by kernel_rfl) (by kernel_rfl) (fun _ _ _ _ h => h) (.bool true) (Or.inl ⟨(by rw [wanted_of (g := 4) (want := false) (b := false) rfl (h551.yields (prev := 121) rfl (by simp))]; rfl), fun w1 hSw => (by cases hSw; exact (by show (execOp _ (⟨_, .binOp .neq 3 (.tmp 125) (.tmp 130) 3, _, _, _, _⟩ : Oper)).run _ _ = _; exact (by unfold execOp; simp only [h551.eval (k := 125) (v := .int .i64 (D.at_ : Int)) (by simp), h551.eval (k := 130) (v := .int .i64 (xs.length : Int)) (by simp)]; exact run_v (neqIb _ _ _ _ _ hne))))⟩) fun a554 h553 => ?_
        refine wpk_take hS524 h553 15 rfl rfl (by decide) (fr rfl) (by kernel_rfl) (by kernel_rfl) (by kernel_rfl) (fun _ _ _ _ h => h) (.bool true) (Or.inl ⟨Eq.refl true, fun w1 hSw => (by cases hSw; exact (by show (execOp _ (⟨_, .pick (.tmp 121) (.const (.bool true)) (.tmp 131), _, _, _, _⟩ : Oper)).run _ _ = _; exact (run_pick rfl (h553.eval (k := 121) (v := .bool false) (by simp)) (by rw [if_neg (by simp)]; exact h553.eval (k := 131) (v := .bool true) (by simp)))))⟩) fun a556 h555 => ?_
        refine wpk_take hS524 h555 16 rfl rfl (by decide) (fr rfl) (by kernel_rfl) (by kernel_rfl) (by kernel_rfl) (fun _ _ _ _ h => h) (.bool true) (Or.inl ⟨Eq.refl true, fun w1 hSw => (by cases hSw; exact (by show (execOp _ (⟨_, .move (.tmp 132), _, _, _, _⟩ : Oper)).run _ _ = _; exact (by unfold execOp; simp only [h555.eval (k := 132) (v := .bool true) (by simp)]; rfl)))⟩) fun a558 h557 => ?_
        refine wpk_take hS524 h557 17 rfl rfl (by decide) (fr rfl) (by kernel_rfl) (by kernel_rfl) (by kernel_rfl) (fun _ _ _ _ h => h) undef (Or.inr ⟨(by rw [wanted_of (g := 16) (want := false) (b := true) rfl (h557.yields (prev := 133) rfl (by simp))]; rfl), rfl⟩) fun a560 h559 => ?_
        refine wpk_take hS524 h559 18 rfl rfl (by decide) (fr rfl) (by kernel_rfl) (by kernel_rfl) (by kernel_rfl) (fun _ _ _ _ h => h) undef (Or.inr ⟨(by rw [wanted_of (g := 16) (want := false) (b := true) rfl (h559.yields (prev := 133) rfl (by simp))]; rfl), rfl⟩) fun a562 h561 => ?_
        refine wpk_take hS524 h561 19 rfl rfl (by decide) (fr rfl) (by kernel_rfl) (by kernel_rfl) (by kernel_rfl) (fun _ _ _ _ h => h) (.bool true) (Or.inl ⟨Eq.refl true, fun w1 hSw => (by cases hSw; exact (by show (execOp _ (⟨_, .pick (.tmp 133) (.const (.bool true)) (.tmp 135), _, _, _, _⟩ : Oper)).run _ _ = _; exact (run_pick rfl (h561.eval (k := 133) (v := .bool true) (by simp)) rfl)))⟩) fun a564 h563 => ?_
        refine wpAnyH_done (by kernel_rfl) ?_ _
        have h565 := h563.subs (l' := [(136, .bool true), (8, .bool mb), (6, .pointer (some ⟨pk, 0, none⟩)), (5, .pointer (some ⟨g, 0, none⟩)), (2, .pointer (some ⟨rs, 0, none⟩))]) rfl
        clear h563
        go_step
        go_step
        refine wp_cond (t := true) (h565.eval (k := 136) (v := .bool true) (by simp)) ?_
        simp only [if_true]
        have h566 := h565.subs (l' := [(8, .bool mb), (6, .pointer (some ⟨pk, 0, none⟩)), (5, .pointer (some ⟨g, 0, none⟩)), (2, .pointer (some ⟨rs, 0, none⟩))]) rfl
        clear h565
        go_step
        go_step
        refine wpk_val h566 (wanted_none rfl) rfl (by decide) (fr rfl) (.agg (pkC P0z none 0 0).toArray) (run_buildPk rfl _ _) fun a568 h567 => ?_
        refine wpk_storeR h567 rfl rfl 35 rfl rs 0 (h567.eval (k := 2) (v := .pointer (some ⟨rs, 0, none⟩)) (by simp)) (pkC P0z none 0 0) (h567.eval (k := 137) (v := .agg (pkC P0z none 0 0).toArray) (by simp)) (by rw [infoPk]; rfl) (pkC_one _ _ _ _) KSd.out (by show 0 + 43 ≤ 43; omega) fun a570 w9 h569 k9 g9 => ?_
        rw [splice_all (by rfl)] at k9
        refine wpk_val h569 (wanted_none rfl) rfl (by decide) (fr rfl) (.int .i64 2) rfl fun a572 h571 => ?_
        have h573 := h571.subs (l' := [(3, .int .i64 2), (8, .bool mb), (6, .pointer (some ⟨pk, 0, none⟩)), (5, .pointer (some ⟨g, 0, none⟩)), (2, .pointer (some ⟨rs, 0, none⟩))]) rfl
        clear h571
        go_step
        go_step
        go_step
        go_step
        simp only [Exit.then]
        show bodyPost _ _ _ Exit.ret _ _
        refine bodyPost_ret (results_cell2k (v := .int .i64 2) rfl (h573.known (2, .pointer (some ⟨rs, 0, none⟩)) (by simp)) (h573.known (3, .int .i64 2) (by simp)) k9 Try.underlying35 rfl (by rw [infoPk]; rfl)) h573.defs ?_
        exact HEND.out.1 (by rw [HOKD.out]; simp [hno, hat]) _ (below_grownS (kept_trans HB01.out HId.out.b) g9 hrs (kept_trans HB01.out HId.out.b).size)

set_option maxRecDepth 100000 in
set_option maxHeartbeats 2000000 in
theorem read07_short {w : World} {a : Option Addr} {c : Nat} {n : Nat} (h4 : n < 4) :
    Calls Try.prog 15 #[.slice a n c] w fun e w' => ∃ na nc, e = .returned (.tuple #[.agg (pkC P0z na P0z.N.length nc).toArray, .int .i64 3]) ∧ PkO w w' P0z na nc := by
  have t1 : True := trivial
  have d2 : decide ((n : Int) < 4) = true := decide_eq_true (by omega)
  go_enter Try.func15, Try.ntmps15
  go_wp2_with (first
    | (have _t := t1; (with_reducible refine wpl_allocPk rfl rfl ?_); clear t1; intro w1 k1 b1 s1; have K1 := hid k1; have B1 := hid b1; clear k1 b1 s1)
    | (with_reducible refine wpl_buildPk rfl rfl ?_)
    | ((with_reducible refine wpl_storePk rfl _ _ rfl w.heap.size rfl P0z none 0 0 rfl K1.out rfl ?_); intro w4 k4 g4; have K4 := hid k4; have G4 := hid g4; clear k4 g4))
  refine bodyPost_ret (results_cell2 rfl rfl K4.out Try.underlying35 rfl (by rw [infoPk]; rfl)) rfl ?_
  exact ⟨none, 0, rfl, Own.nil _ _ _ _, below_grownS B1.out G4.out (Nat.le_refl _) B1.out.size⟩
set_option maxRecDepth 100000 in
set_option maxHeartbeats 2000000 in
theorem read07_sum {w : World} {a : Option Addr} {c m : Nat} (hl : m ≤ 500) (hcap : m + 4 ≤ c) (hc9 : c ≤ 9223372036854775807)
    {ss : List UInt8} (HSeal : Hid (∀ W : World, Below w.heap.size w W → Calls Try.prog 17 #[.slice a m c] W (RetB W ss)))
    (HSame : Hid (∀ (W : World) (sa : Option Addr) (sc : Nat), Below w.heap.size w W → RowB W sa sc ss → Calls Try.prog 12 #[.slice sa ss.length sc, .slice a (m + 4) c] W fun e w' => e = .returned (.bool false) ∧ Below W.heap.size W w')) :
    Calls Try.prog 15 #[.slice a (m + 4) c] w fun e w' => ∃ na nc, e = .returned (.tuple #[.agg (pkC P0z na P0z.N.length nc).toArray, .int .i64 4]) ∧ PkO w w' P0z na nc := by
  have t1 : True := trivial
  have ez0 : IntKind.i64.wrap ((m : Int) + 4 - 4) = (m : Int) := by rw [show (m : Int) + 4 - 4 = m by omega]; exact IntWalk.i64_in _ (by omega)
  have ez1 : IntKind.i64.wrap (((m + 4 : Nat) : Int) - 4) = (m : Int) := by rw [show ((m + 4 : Nat) : Int) - 4 = m by omega]; exact IntWalk.i64_in _ (by omega)
  have d1 : decide ((m : Int) < 0) = false := decide_eq_false (by omega)
  have d2 : decide ((m : Int) + 4 < 4) = false := decide_eq_false (by omega)
  have d3 : decide (((m + 4 : Nat) : Int) < 4) = false := decide_eq_false (by omega)
  have i0 : 0 ≤ (m : Int) := by omega
  have i1 : (m : Int) ≤ (c : Int) := by omega
  go_enter Try.func15, Try.ntmps15
  go_wp2_with (first
    | (have _t := t1; (with_reducible refine wpl_allocPk rfl rfl ?_); clear t1; intro w1 k1 b1 s1; have K1 := hid k1; have B1 := hid b1; clear k1 b1 s1)
    | (go_at_call 17; refine (HSeal.out w1 B1.out).mono ?_; rintro e w2 ⟨sa, sc, rfl, os, b2⟩; have B2 := hid b2; have OS := hid os; clear b2 os)
    | (go_at_call 12; refine (HSame.out w2 sa sc (kept_trans B1.out B2.out) OS.out.row).mono ?_; rintro e w3 ⟨rfl, b3⟩; have K3 := hid ((K1.out.mono B2.out).mono b3); have B3 := hid (kept_trans (kept_trans B1.out B2.out) b3); clear b3)
    | (with_reducible refine wpl_buildPk rfl rfl ?_)
    | ((with_reducible refine wpl_storePk rfl _ _ rfl w.heap.size rfl P0z none 0 0 rfl K3.out rfl ?_); intro w4 k4 g4; have K4 := hid k4; have G4 := hid g4; clear k4 g4))
  refine bodyPost_ret (results_cell2 rfl rfl K4.out Try.underlying35 rfl (by rw [infoPk]; rfl)) rfl ?_
  exact ⟨none, 0, rfl, Own.nil _ _ _ _, below_grownS B3.out G4.out (Nat.le_refl _) B3.out.size⟩
theorem read07_any {w : World} {a : Option Addr} {c : Nat} {xs : List UInt8} (r0 : RowB w a c xs) (hl : xs.length ≤ 500) :
    Calls Try.prog 15 #[.slice a xs.length c] w fun e w' => ∃ na nc, e = .returned (.tuple #[.agg (pkC (rwP xs) na (rwP xs).N.length nc).toArray, .int .i64 (rwE xs)]) ∧ PkO w w' (rwP xs) na nc := by
  by_cases h4 : xs.length < 4
  · have e1 : rwP xs = P0z := by unfold rwP; rw [if_pos h4]
    have e2 : rwE xs = 3 := by unfold rwE; rw [if_pos h4]
    rw [e1, e2]
    exact read07_short h4
  · obtain ⟨m, hm⟩ : ∃ m, xs.length = m + 4 := ⟨xs.length - 4, by omega⟩
    have hm2 : xs.length - 4 = m := by omega
    have hcap : m + 4 ≤ c := by have := r0.2.1; omega
    have hc9 : c ≤ 9223372036854775807 := by have := r0.2.2.1; unfold maxLen at this; omega
    have ht : xs = xs.take m ++ xs.drop m := (List.take_append_drop m xs).symm
    have hd : (xs.drop m).length = 4 := by rw [List.length_drop]; omega
    have hyl : (xs.take m).length = m := by rw [List.length_take]; omega
    have hR : ∀ W, Below w.heap.size w W → RowB W a c (xs.take m) := fun W b => Row.mono (rowB_take r0 m) b
    have hSeal : Hid (∀ W : World, Below w.heap.size w W → Calls Try.prog 17 #[.slice a m c] W (RetB W (xs.take m ++ le 4 (crcF (xs.take m))))) := hid (fun W b => by
      have h := sealed07_any a c (xs.take m) W (hR W b) (by omega)
      rw [hyl, putF4] at h
      exact h)
    have hsl : (xs.take m ++ le 4 (crcF (xs.take m))).length ≤ 600 := by rw [List.length_append, le_length]; omega
    have hSame := fun (W : World) (sa : Option Addr) (sc : Nat) (b : Below w.heap.size w W) (r : RowB W sa sc (xs.take m ++ le 4 (crcF (xs.take m)))) => same_any sa a sc c _ xs W r (Row.mono r0 b) (by omega) (by omega)
    have hs : okSumW xs = decide (xs.take m ++ le 4 (crcF (xs.take m)) = xs) := by
      have := okSum_eq (xs.take m) (xs.drop m) hd
      rwa [← ht] at this
    rw [← hs] at hSame
    cases ho : okSumW xs with
    | true =>
      rw [ho] at hSame
      have e1 : rwP xs = dP (xs.take m) := by unfold rwP; rw [if_neg h4, if_pos ho, hm2]
      have e2 : rwE xs = dE (xs.take m) := by unfold rwE; rw [if_neg h4, if_pos ho, hm2]
      rw [e1, e2]
      rw [hm] at hSame ⊢
      exact read07_ok hyl.symm (by omega) hR hcap hc9 hSeal (hid hSame)
    | false =>
      rw [ho] at hSame
      have e1 : rwP xs = P0z := by unfold rwP; rw [if_neg h4, if_neg (by rw [ho]; decide)]
      have e2 : rwE xs = 4 := by unfold rwE; rw [if_neg h4, if_neg (by rw [ho]; decide)]
      rw [e1, e2]
      rw [hm] at hSame ⊢
      exact read07_sum (by omega) hcap hc9 hSeal (hid hSame)
end Go.Proofs.Ytanediaaidfcaaa
