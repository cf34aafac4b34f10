/- A crash leaves each cell whole; a second one changes nothing. (genPnF.py) -/
import Derived.Test.YtcgekooahahjpaaPnE
namespace Go.Proofs.Ytcgekooahahjpaa
open Go.RowKit
set_option linter.unusedSimpArgs false
set_option linter.unusedVariables false

set_option maxRecDepth 100000 in
set_option maxHeartbeats 2000000 in
theorem cells_00 (w : World) (a : Option Addr) (n c : Nat) (f : Nat → DeedV) (r : RowD w a c n f) (ap : Option Addr) (cpP lP : Nat) (P : List Int) (rp : RowI w ap cpP P) (kp : intsOk P) (hlcP : lP ≤ cpP) (HLP0 : lP = P.length) (dcP : decide ((200 : Int) < (lP : Int)) = false) (aa : Option Addr) (cpA lA : Nat) (A : List Int) (ra : RowI w aa cpA A) (ka : intsOk A) (hlcA : lA ≤ cpA) (HLA0 : lA = A.length) (dcA : decide ((200 : Int) < (lA : Int)) = false) :
    Calls Try.prog 6 #[.slice a n c, .slice ap lP cpP, .slice aa lA cpA] w fun e w' => e = .returned (.bool true) ∧ Below w.heap.size w w' := by
  have hnc := r.1
  have hc9 := r.2.1
  have RP := hid rp; have KP := hid kp; have RA := hid ra; have KA := hid ka; have HR := hid r; have HLP := hid HLP0; have HLA := hid HLA0
  clear rp kp ra ka r HLP0 HLA0
  go_enter Try.func6, Try.ntmps6
  go_wp2_with fail
  refine (new256 w).mono ?_
  rintro e w1 ⟨g, v, d, p, rfl, m1, h1, b1⟩
  have HM1 := hid m1; have HH1 := hid h1; have B1 := hid b1
  clear m1 h1 b1
  go_wp2_with fail
  refine (newR256 w1).mono ?_
  rintro e w2 ⟨g2, v2, d2, a2, rfl, m2, h2, b2⟩
  have hB0 := both_start HM1.out HH1.out B1.out m2 h2 b2
  have B2 := hid (kept_trans B1.out b2)
  clear m2 h2 b2 HM1 HH1 B1
  obtain ⟨K, rfl, rfl, rfl, rfl, rfl, rfl, rfl, rfl⟩ : ∃ K : MemK, K.gm = g ∧ K.vm = v ∧ K.dm = d ∧ K.pm = p ∧ K.gr = g2 ∧ K.vr = v2 ∧ K.dr = d2 ∧ K.ar = a2 := ⟨⟨g, v, d, p, g2, v2, d2, a2⟩, rfl, rfl, rfl, rfl, rfl, rfl, rfl, rfl⟩
  have HB0 := hid hB0
  clear hB0
  go_wp2_with fail
  go_loopw [9] (fun i  wr => ∃ (j : Nat) (M : MemM), j ≤ n ∧ j ≤ 30 ∧ i = .int .i64 j ∧ Both wr w.heap.size K M ∧ M.V.length = 256 ∧ Below w.heap.size w wr) (fun i  _ => n - (intOf i).toNat)
  case atStart => exact ⟨0, newM 256, Nat.zero_le _, Nat.zero_le _, rfl, HB0.out, newM_len _, B2.out⟩
  case round =>
    obtain ⟨j, M, hj, hj6, rfl, hm, hlen, hbel⟩ := hrel
    by_cases hlt : j < n ∧ j < 30
    · obtain ⟨hlt, hlt6⟩ := hlt
      have ltd : decide ((j : Int) < (n : Int)) = true := decide_eq_true (by omega)
      have ltd6 : decide ((j : Int) < 30) = true := decide_eq_true (by omega)
      obtain ⟨_, _, h3, _⟩ := HR.out.mono hbel
      obtain ⟨b, off, e, hbl, hc⟩ := h3 (by omega)
      subst e
      obtain ⟨x0, x1, x2, x3, x4⟩ := hc j hlt
      have HD := hid (does_any hm (f j).kind (f j).at_ (f j).n (f j).sa (f j).sc (f j).S (f j).pa (f j).pc (f j).P (HR.out.ok hbel hm.2.2.1 hlt))
      have HBL := hid hbel; have HMM := hid hm; have HLN := hid hlen
      clear hc h3 hm hbel hlen
      generalize (f j).kind = t0 at *
      generalize (f j).at_ = t1 at *
      generalize (f j).n = t2 at *
      generalize (f j).sa = t3 at *
      generalize (f j).sc = t4 at *
      generalize (f j).S.length = t5 at *
      generalize (f j).pa = t6 at *
      generalize (f j).pc = t7 at *
      generalize (f j).P.length = t8 at *
      go_wp2_with fail
      refine HD.out.mono ?_
      rintro e w3 ⟨rfl, M3, m3, l3, t3'⟩
      have B3 := hid (HBL.out.trans (doesP_below HMM.out HBL.out.size t3')); have MM3 := hid m3; have LL3 := hid (l3.trans HLN.out)
      clear m3 l3 t3' x0 x1 x2 x3 x4
      go_wp2_with fail
      go_roundw
      case rel => exact ⟨j + 1, M3, by omega, by omega, by go_num, MM3.out, LL3.out, B3.out⟩
      case measure => simp [intOf]; omega
    · have hex : (j < n ∧ ¬ j < 30) ∨ ¬ j < n := by omega
      have HM := hid hm; have HLEN := hid hlen; have HBEL := hid hbel
      clear hm hlen hbel hlt
      rcases hex with ⟨hn, hn6⟩ | hn
      · have ltd : decide ((j : Int) < (n : Int)) = true := decide_eq_true (by omega)
        have ltd6 : decide ((j : Int) < 30) = false := decide_eq_false (by omega)
        clear hn6
        obtain ⟨_, kv, kd, kp, _⟩ := HM.out.2.2.1
        obtain ⟨_, _, _, _, _, _, _, vl, dl, pl⟩ := mem_apart HM.out.1
        have OK := hid HM.out.1.1
        have LD : Hid (M.D.length = 256) := hid (HM.out.1.1.1.trans HLEN.out)
        have LX : Hid ((crashD M P).length = 256) := hid ((crashD_len M P).trans LD.out)
        go_wp2_with fail
        refine (load256 HM.out.1 HLEN.out rfl).mono ?_
        rintro e w4 ⟨a4, c4, rfl, o4, b4⟩
        obtain ⟨g4, rfl⟩ := own_someO o4 (by have := HLEN.out; omega)
        have hs4 : wr.heap.size ≤ w4.heap.size := b4.size
        obtain ⟨k4, k4'⟩ := own_cap o4 HLEN.out
        have M4 := hid (HM.out.1.mono b4); have B4 := hid (kept_trans HBEL.out b4); have O4 := hid o4
        clear b4 o4
        go_wp2_with fail
        refine (lasts256 M4.out HLEN.out rfl).mono ?_
        rintro e w5 ⟨a5, c5, rfl, o5, b5⟩
        obtain ⟨g5, rfl⟩ := own_someO o5 (by have := LD.out; omega)
        have hs5 : w4.heap.size ≤ w5.heap.size := b5.size
        obtain ⟨k5, k5'⟩ := own_cap o5 LD.out
        have M5 := hid (M4.out.mono b5); have B5 := hid (kept_trans B4.out b5); have P4 := hid (O4.out.mono b5); have O5 := hid o5
        clear b5 o5
        go_wp2_with fail
        refine (crash_u M5.out B5.out kd RP.out KP.out _ HLP.out).mono ?_
        rintro e w6 ⟨⟨z6, rfl⟩, m6, t6⟩
        have M6 := hid m6; have B6 := hid (B5.out.trans (below_of3 t6 B5.out.size kv kd kp))
        have Q4 := hid (t6.own P4.out (fun k hk => by rcases hk with e | e | e <;> rw [e] <;> assumption)); have Q5 := hid (t6.own O5.out (fun k hk => by rcases hk with e | e | e <;> rw [e] <;> omega))
        have hs6 : w5.heap.size ≤ w6.heap.size := t6.size
        clear m6 t6
        go_wp2_with fail
        refine (load256 M6.out LX.out rfl).mono ?_
        rintro e w7 ⟨a7, c7, rfl, o7, b7⟩
        obtain ⟨g7, rfl⟩ := own_someO o7 (by have := LX.out; show 0 < (crashD M P).length; omega)
        have hs7 : w6.heap.size ≤ w7.heap.size := b7.size
        obtain ⟨k7, k7'⟩ := own_cap o7 LX.out
        have M7 := hid (M6.out.mono b7); have B7 := hid (kept_trans B6.out b7); have R4 := hid (Q4.out.mono b7); have R5 := hid (Q5.out.mono b7); have O7 := hid o7
        clear b7 o7
        go_wp2_with fail
        refine (dirty0 M7.out).mono ?_
        rintro e w8 ⟨a8, c8, rfl, b8⟩
        have hs8 : w7.heap.size ≤ w8.heap.size := b8.size
        have M8 := hid (M7.out.mono b8); have B8 := hid (kept_trans B7.out b8); have S4 := hid (R4.out.mono b8); have S5 := hid (R5.out.mono b8); have S7 := hid (O7.out.mono b8)
        clear b8
        go_wp2_with fail
        go_loopw [16, 17, 18] (fun i _ _ wr => ∃ (k : Nat), k ≤ 32 ∧ i = .int .i64 k ∧ Below w8.heap.size w8 wr) (fun i _ _ _ => 32 - (intOf i).toNat)
        case atStart => exact ⟨0, Nat.zero_le _, rfl, Below.refl _ _⟩
        case round =>
          obtain ⟨k, hk, rfl, bb⟩ := hrel
          by_cases hkl : k < 32
          · have kd2 : decide ((k : Int) < 32) = true := decide_eq_true (by omega)
            have hor := crash_cell OK.out P (k := k) (by have := HLEN.out; omega)
            have BB := hid bb
            clear bb
            have hbool : ∃ o1 o2 : Bool, decide (cell8 (crashD M P) k = cell8 M.V k) = o1 ∧ decide (cell8 (crashD M P) k = cell8 M.D k) = o2 ∧ (o1 = true ∨ (o1 = false ∧ o2 = true)) := by
              refine ⟨_, _, rfl, rfl, ?_⟩
              by_cases h1 : cell8 (crashD M P) k = cell8 M.V k
              · exact .inl (decide_eq_true h1)
              · exact .inr ⟨decide_eq_false h1, decide_eq_true (hor.resolve_left h1)⟩
            obtain ⟨o1, o2, e1, e2, hoo⟩ := hbool
            have E1 := hid e1; have E2 := hid e2
            clear e1 e2 hor
            obtain ⟨K, hK⟩ : ∃ K, K = 8 * k := ⟨_, rfl⟩
            have eK : 8 * (k : Int) = (K : Int) := by omega
            have w1' : IntKind.i64.wrap (K : Int) = (K : Int) := IntWalk.i64_in _ (by omega)
            have w2' : IntKind.i64.wrap ((K : Int) + 8) = (K : Int) + 8 := IntWalk.i64_in _ (by omega)
            have p0 : 0 ≤ (K : Int) + 8 := by omega
            have p1 : (K : Int) ≤ (K : Int) + 8 := by omega
            have p2 : ((K : Int) + 8).toNat = K + 8 := by omega
            have p3 : (K + 8) - K = 8 := by omega
            have q4 : (K : Int) + 8 ≤ (c4 : Int) := by omega
            have q5 : (K : Int) + 8 ≤ (c5 : Int) := by omega
            have q7 : (K : Int) + 8 ≤ (c7 : Int) := by omega
            have hK8 : K + 8 ≤ 256 := by omega
            have n4 : ¬ c4 = K := by omega
            have n5 : ¬ c5 = K := by omega
            have n7 : ¬ c7 = K := by omega
            have HKK := hid hK
            clear hK
            rcases hoo with rfl | ⟨rfl, rfl⟩
            · go_wp2_with fail
              go_region_with (go_at_call 19; refine (same_cell LX.out HLEN.out (S7.out.row.mono (bel_drewN BB.out 1)) (S4.out.row.mono (bel_drewN BB.out 1)) k K HKK.out hkl _ E1.out).mono ?_; rintro e w9 ⟨rfl, b9⟩; have B9 := hid (kept_trans (bel_drewN BB.out 1) b9); clear b9)
              go_wp2_with fail
              go_region_with (go_at_call 19; refine (same_cell LX.out LD.out (S7.out.row.mono (bel_drewN B9.out 1)) (S5.out.row.mono (bel_drewN B9.out 1)) k K HKK.out hkl _ E2.out).mono ?_; rintro e w10 ⟨rfl, b10⟩; have B10 := hid (kept_trans (bel_drewN B9.out 1) b10); clear b10)
              go_wp2_with fail
              go_roundw
              case rel => exact ⟨k + 1, by omega, by go_num, B10.out⟩
              case measure => simp [intOf]; omega
            · go_wp2_with fail
              go_region_with (go_at_call 19; refine (same_cell LX.out HLEN.out (S7.out.row.mono (bel_drewN BB.out 1)) (S4.out.row.mono (bel_drewN BB.out 1)) k K HKK.out hkl _ E1.out).mono ?_; rintro e w9 ⟨rfl, b9⟩; have B9 := hid (kept_trans (bel_drewN BB.out 1) b9); clear b9)
              go_wp2_with fail
              go_region_with (go_at_call 19; refine (same_cell LX.out LD.out (S7.out.row.mono (bel_drewN B9.out 1)) (S5.out.row.mono (bel_drewN B9.out 1)) k K HKK.out hkl _ E2.out).mono ?_; rintro e w10 ⟨rfl, b10⟩; have B10 := hid (kept_trans (bel_drewN B9.out 1) b10); clear b10)
              go_wp2_with fail
              go_roundw
              case rel => exact ⟨k + 1, by omega, by go_num, B10.out⟩
              case measure => simp [intOf]; omega
          · have kd2 : decide ((k : Int) < 32) = false := decide_eq_false (by omega)
            have M9 := hid (M8.out.mono bb); have B9 := hid (kept_trans B8.out bb); have T7 := hid (S7.out.mono bb)
            have hs9 : w8.heap.size ≤ wr.heap.size := bb.size
            clear bb hkl
            go_wp2_with fail
            refine (crash_u M9.out B9.out kd RA.out KA.out _ HLA.out).mono ?_
            rintro e w10 ⟨⟨z10, rfl⟩, m10, t10⟩
            have M10 := hid m10; have B10 := hid (B9.out.trans (below_of3 t10 B9.out.size kv kd kp)); have U7 := hid (t10.own T7.out (fun k hk => by rcases hk with e | e | e <;> rw [e] <;> omega))
            clear m10 t10
            go_wp2_with fail
            refine (load256 M10.out ((congrArg List.length (crash_twice _ _ _)).trans LX.out) (crash_twice _ _ _)).mono ?_
            rintro e w11 ⟨a11, c11, rfl, o11, b11⟩
            have B11 := hid (kept_trans B10.out b11); have V7 := hid (U7.out.mono b11); have O11 := hid o11
            clear b11 o11
            go_wp2_with fail
            refine (same_256 LX.out V7.out.row O11.out.row).mono ?_
            rintro e w12 ⟨rfl, b12⟩
            have B12 := hid (kept_trans B11.out b12)
            clear b12
            go_wp2_with fail
            refine (lives_any _).mono ?_
            rintro e w13 ⟨rfl, b13⟩
            have B13 := hid (kept_trans B12.out b13)
            clear b13
            go_wp2_with fail
            go_ret
            exact ⟨by simp, B13.out⟩
      · have ltd : decide ((j : Int) < (n : Int)) = false := decide_eq_false (by omega)
        obtain ⟨_, kv, kd, kp, _⟩ := HM.out.2.2.1
        obtain ⟨_, _, _, _, _, _, _, vl, dl, pl⟩ := mem_apart HM.out.1
        have OK := hid HM.out.1.1
        have LD : Hid (M.D.length = 256) := hid (HM.out.1.1.1.trans HLEN.out)
        have LX : Hid ((crashD M P).length = 256) := hid ((crashD_len M P).trans LD.out)
        go_wp2_with fail
        refine (load256 HM.out.1 HLEN.out rfl).mono ?_
        rintro e w4 ⟨a4, c4, rfl, o4, b4⟩
        obtain ⟨g4, rfl⟩ := own_someO o4 (by have := HLEN.out; omega)
        have hs4 : wr.heap.size ≤ w4.heap.size := b4.size
        obtain ⟨k4, k4'⟩ := own_cap o4 HLEN.out
        have M4 := hid (HM.out.1.mono b4); have B4 := hid (kept_trans HBEL.out b4); have O4 := hid o4
        clear b4 o4
        go_wp2_with fail
        refine (lasts256 M4.out HLEN.out rfl).mono ?_
        rintro e w5 ⟨a5, c5, rfl, o5, b5⟩
        obtain ⟨g5, rfl⟩ := own_someO o5 (by have := LD.out; omega)
        have hs5 : w4.heap.size ≤ w5.heap.size := b5.size
        obtain ⟨k5, k5'⟩ := own_cap o5 LD.out
        have M5 := hid (M4.out.mono b5); have B5 := hid (kept_trans B4.out b5); have P4 := hid (O4.out.mono b5); have O5 := hid o5
        clear b5 o5
        go_wp2_with fail
        refine (crash_u M5.out B5.out kd RP.out KP.out _ HLP.out).mono ?_
        rintro e w6 ⟨⟨z6, rfl⟩, m6, t6⟩
        have M6 := hid m6; have B6 := hid (B5.out.trans (below_of3 t6 B5.out.size kv kd kp))
        have Q4 := hid (t6.own P4.out (fun k hk => by rcases hk with e | e | e <;> rw [e] <;> assumption)); have Q5 := hid (t6.own O5.out (fun k hk => by rcases hk with e | e | e <;> rw [e] <;> omega))
        have hs6 : w5.heap.size ≤ w6.heap.size := t6.size
        clear m6 t6
        go_wp2_with fail
        refine (load256 M6.out LX.out rfl).mono ?_
        rintro e w7 ⟨a7, c7, rfl, o7, b7⟩
        obtain ⟨g7, rfl⟩ := own_someO o7 (by have := LX.out; show 0 < (crashD M P).length; omega)
        have hs7 : w6.heap.size ≤ w7.heap.size := b7.size
        obtain ⟨k7, k7'⟩ := own_cap o7 LX.out
        have M7 := hid (M6.out.mono b7); have B7 := hid (kept_trans B6.out b7); have R4 := hid (Q4.out.mono b7); have R5 := hid (Q5.out.mono b7); have O7 := hid o7
        clear b7 o7
        go_wp2_with fail
        refine (dirty0 M7.out).mono ?_
        rintro e w8 ⟨a8, c8, rfl, b8⟩
        have hs8 : w7.heap.size ≤ w8.heap.size := b8.size
        have M8 := hid (M7.out.mono b8); have B8 := hid (kept_trans B7.out b8); have S4 := hid (R4.out.mono b8); have S5 := hid (R5.out.mono b8); have S7 := hid (O7.out.mono b8)
        clear b8
        go_wp2_with fail
        go_loopw [16, 17, 18] (fun i _ _ wr => ∃ (k : Nat), k ≤ 32 ∧ i = .int .i64 k ∧ Below w8.heap.size w8 wr) (fun i _ _ _ => 32 - (intOf i).toNat)
        case atStart => exact ⟨0, Nat.zero_le _, rfl, Below.refl _ _⟩
        case round =>
          obtain ⟨k, hk, rfl, bb⟩ := hrel
          by_cases hkl : k < 32
          · have kd2 : decide ((k : Int) < 32) = true := decide_eq_true (by omega)
            have hor := crash_cell OK.out P (k := k) (by have := HLEN.out; omega)
            have BB := hid bb
            clear bb
            have hbool : ∃ o1 o2 : Bool, decide (cell8 (crashD M P) k = cell8 M.V k) = o1 ∧ decide (cell8 (crashD M P) k = cell8 M.D k) = o2 ∧ (o1 = true ∨ (o1 = false ∧ o2 = true)) := by
              refine ⟨_, _, rfl, rfl, ?_⟩
              by_cases h1 : cell8 (crashD M P) k = cell8 M.V k
              · exact .inl (decide_eq_true h1)
              · exact .inr ⟨decide_eq_false h1, decide_eq_true (hor.resolve_left h1)⟩
            obtain ⟨o1, o2, e1, e2, hoo⟩ := hbool
            have E1 := hid e1; have E2 := hid e2
            clear e1 e2 hor
            obtain ⟨K, hK⟩ : ∃ K, K = 8 * k := ⟨_, rfl⟩
            have eK : 8 * (k : Int) = (K : Int) := by omega
            have w1' : IntKind.i64.wrap (K : Int) = (K : Int) := IntWalk.i64_in _ (by omega)
            have w2' : IntKind.i64.wrap ((K : Int) + 8) = (K : Int) + 8 := IntWalk.i64_in _ (by omega)
            have p0 : 0 ≤ (K : Int) + 8 := by omega
            have p1 : (K : Int) ≤ (K : Int) + 8 := by omega
            have p2 : ((K : Int) + 8).toNat = K + 8 := by omega
            have p3 : (K + 8) - K = 8 := by omega
            have q4 : (K : Int) + 8 ≤ (c4 : Int) := by omega
            have q5 : (K : Int) + 8 ≤ (c5 : Int) := by omega
            have q7 : (K : Int) + 8 ≤ (c7 : Int) := by omega
            have hK8 : K + 8 ≤ 256 := by omega
            have n4 : ¬ c4 = K := by omega
            have n5 : ¬ c5 = K := by omega
            have n7 : ¬ c7 = K := by omega
            have HKK := hid hK
            clear hK
            rcases hoo with rfl | ⟨rfl, rfl⟩
            · go_wp2_with fail
              go_region_with (go_at_call 19; refine (same_cell LX.out HLEN.out (S7.out.row.mono (bel_drewN BB.out 1)) (S4.out.row.mono (bel_drewN BB.out 1)) k K HKK.out hkl _ E1.out).mono ?_; rintro e w9 ⟨rfl, b9⟩; have B9 := hid (kept_trans (bel_drewN BB.out 1) b9); clear b9)
              go_wp2_with fail
              go_region_with (go_at_call 19; refine (same_cell LX.out LD.out (S7.out.row.mono (bel_drewN B9.out 1)) (S5.out.row.mono (bel_drewN B9.out 1)) k K HKK.out hkl _ E2.out).mono ?_; rintro e w10 ⟨rfl, b10⟩; have B10 := hid (kept_trans (bel_drewN B9.out 1) b10); clear b10)
              go_wp2_with fail
              go_roundw
              case rel => exact ⟨k + 1, by omega, by go_num, B10.out⟩
              case measure => simp [intOf]; omega
            · go_wp2_with fail
              go_region_with (go_at_call 19; refine (same_cell LX.out HLEN.out (S7.out.row.mono (bel_drewN BB.out 1)) (S4.out.row.mono (bel_drewN BB.out 1)) k K HKK.out hkl _ E1.out).mono ?_; rintro e w9 ⟨rfl, b9⟩; have B9 := hid (kept_trans (bel_drewN BB.out 1) b9); clear b9)
              go_wp2_with fail
              go_region_with (go_at_call 19; refine (same_cell LX.out LD.out (S7.out.row.mono (bel_drewN B9.out 1)) (S5.out.row.mono (bel_drewN B9.out 1)) k K HKK.out hkl _ E2.out).mono ?_; rintro e w10 ⟨rfl, b10⟩; have B10 := hid (kept_trans (bel_drewN B9.out 1) b10); clear b10)
              go_wp2_with fail
              go_roundw
              case rel => exact ⟨k + 1, by omega, by go_num, B10.out⟩
              case measure => simp [intOf]; omega
          · have kd2 : decide ((k : Int) < 32) = false := decide_eq_false (by omega)
            have M9 := hid (M8.out.mono bb); have B9 := hid (kept_trans B8.out bb); have T7 := hid (S7.out.mono bb)
            have hs9 : w8.heap.size ≤ wr.heap.size := bb.size
            clear bb hkl
            go_wp2_with fail
            refine (crash_u M9.out B9.out kd RA.out KA.out _ HLA.out).mono ?_
            rintro e w10 ⟨⟨z10, rfl⟩, m10, t10⟩
            have M10 := hid m10; have B10 := hid (B9.out.trans (below_of3 t10 B9.out.size kv kd kp)); have U7 := hid (t10.own T7.out (fun k hk => by rcases hk with e | e | e <;> rw [e] <;> omega))
            clear m10 t10
            go_wp2_with fail
            refine (load256 M10.out ((congrArg List.length (crash_twice _ _ _)).trans LX.out) (crash_twice _ _ _)).mono ?_
            rintro e w11 ⟨a11, c11, rfl, o11, b11⟩
            have B11 := hid (kept_trans B10.out b11); have V7 := hid (U7.out.mono b11); have O11 := hid o11
            clear b11 o11
            go_wp2_with fail
            refine (same_256 LX.out V7.out.row O11.out.row).mono ?_
            rintro e w12 ⟨rfl, b12⟩
            have B12 := hid (kept_trans B11.out b12)
            clear b12
            go_wp2_with fail
            refine (lives_any _).mono ?_
            rintro e w13 ⟨rfl, b13⟩
            have B13 := hid (kept_trans B12.out b13)
            clear b13
            go_wp2_with fail
            go_ret
            exact ⟨by simp, B13.out⟩
end Go.Proofs.Ytcgekooahahjpaa
