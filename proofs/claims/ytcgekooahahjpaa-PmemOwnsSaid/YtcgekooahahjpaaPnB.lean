/- What was flushed and fenced lasts. (genPnB.py) -/
import Derived.Test.YtcgekooahahjpaaPnA
namespace Go.Proofs.Ytcgekooahahjpaa
open Go.RowKit
set_option linter.unusedSimpArgs false
set_option linter.unusedVariables false

def LL (M : MemM) (q m : Int) : List UInt8 := seenL (fenceM (flushU M q m)).V (fenceM (flushU M q m)) q m
theorem LL_len {M : MemM} (h : M.V.length = 256) (q m : Int) : (LL M q m).length ≤ 9223372036854775807 := by
  have := seenL_le (M := fenceM (flushU M q m)) rfl q m
  have h2 : (fenceM (flushU M q m)).V.length = 256 := (flushU_len M q m).trans h
  unfold LL; omega
theorem load_A {w : World} {g v d p : Nat} {M : MemM} {q m : Int} (h : MemP w g v d p (fenceM (flushU M q m))) (hq : i64B q) (hm : i64B m) :
    Calls Try.prog 17 #[.pointer (some ⟨g, 0, none⟩), .int .i64 q, .int .i64 m] w fun e w' => ∃ a c, e = .returned (.tuple #[.slice a (LL M q m).length c, .int .i64 (errM M q m)]) ∧ OwnB w' w.heap.size a c (LL M q m) ∧ Below w.heap.size w w' := by
  have := load_u h q m hq hm
  rw [errM_congr (M' := fenceM (flushU M q m)) (M := M) (flushU_len _ _ _)] at this
  exact this
theorem load_B {w : World} {g v d p : Nat} {M : MemM} {q m : Int} {P : List Int} (hok : M.ok) (h : MemP w g v d p (crashM (fenceM (flushU M q m)) P)) (hq : i64B q) (hm : i64B m) :
    Calls Try.prog 17 #[.pointer (some ⟨g, 0, none⟩), .int .i64 q, .int .i64 m] w fun e w' => ∃ a c, e = .returned (.tuple #[.slice a (LL M q m).length c, .int .i64 (errM M q m)]) ∧ OwnB w' w.heap.size a c (LL M q m) ∧ Below w.heap.size w w' := by
  have := load_u h q m hq hm
  have hFo : (flushU M q m).ok := by unfold flushU; split; exact flushM_ok hok _ _; exact hok
  rw [errM_congr (M' := crashM (fenceM (flushU M q m)) P) (M := M) ((crashM_len (fenceM_ok hFo) P).trans (flushU_len _ _ _)), lasts_pure hok] at this
  exact this
theorem crash_u {w X : World} {g v d p : Nat} {M : MemM} (h : MemP X g v d p M) (b : Below w.heap.size w X) (hd : w.heap.size ≤ d) {picks : List Int} {ap : Option Addr} {cp : Nat} (hr : RowI w ap cp picks) (hok : intsOk picks) (k : Nat) (hk : k = picks.length) :
    Calls Try.prog 18 #[.pointer (some ⟨g, 0, none⟩), .slice ap k cp] X fun e w' => (∃ x, e = .returned x) ∧ MemP w' g v d p (crashM M picks) ∧ Turns (fun b => b = v ∨ b = d ∨ b = p) X w' := by
  subst hk
  refine crash_any h picks ap cp (hr.mono b) hok (fun hn b0 hb => ?_)
  have := row_block hr hn hb
  omega

set_option maxHeartbeats 8000000 in
theorem lasts_short (w : World) (a : Option Addr) (n c : Nat) (f : Nat → DeedV) (r : RowD w a c n f) (q m : Int) (qb : i64B q) (mb : i64B m) (ap : Option Addr) (cp l0 : Nat) (hl0 : l0 ≤ cp) (P : List Int) (rp : RowI w ap cp P) (kp : intsOk P) (hlP : l0 = P.length) (dc : decide ((200 : Int) < (l0 : Int)) = false) :
    Calls Try.prog 5 #[.slice a n c, .int .i64 q, .int .i64 m, .slice ap l0 cp] w fun e w' => e = .returned (.bool true) ∧ Below w.heap.size w w' := by
  have hnc := r.1
  have hc9 := r.2.1
  have RP := hid rp; have KP := hid kp; have HR := hid r; have HLP := hid hlP
  clear rp kp r hlP

  go_enter Try.func5, Try.ntmps5
  go_wp2_with fail
  refine (new256 w).mono ?_
  rintro e w1 ⟨g, v, d, p, rfl, m1, h1, b1⟩
  have HM1 := hid m1; have HH1 := hid h1; have B1 := hid b1
  clear m1 h1 b1
  go_wp2_with fail
  refine (newR256 w1).mono ?_
  rintro e w2 ⟨g2, v2, d2, a2, rfl, m2, h2, b2⟩
  have hB0 := both_start HM1.out HH1.out B1.out m2 h2 b2
  have B2 := hid (kept_trans B1.out b2)
  clear m2 h2 b2 HM1 HH1 B1
  obtain ⟨K, rfl, rfl, rfl, rfl, rfl, rfl, rfl, rfl⟩ : ∃ K : MemK, K.gm = g ∧ K.vm = v ∧ K.dm = d ∧ K.pm = p ∧ K.gr = g2 ∧ K.vr = v2 ∧ K.dr = d2 ∧ K.ar = a2 := ⟨⟨g, v, d, p, g2, v2, d2, a2⟩, rfl, rfl, rfl, rfl, rfl, rfl, rfl, rfl⟩
  have HB0 := hid hB0
  clear hB0
  go_wp2_with fail
  go_loopw [11] (fun i  wr => ∃ (j : Nat) (M : MemM), j ≤ n ∧ j ≤ 30 ∧ i = .int .i64 j ∧ Both wr w.heap.size K M ∧ M.V.length = 256 ∧ Below w.heap.size w wr) (fun i  _ => n - (intOf i).toNat)
  case atStart => exact ⟨0, newM 256, Nat.zero_le _, Nat.zero_le _, rfl, HB0.out, newM_len _, B2.out⟩
  case round =>
    obtain ⟨j, M, hj, hj6, rfl, hm, hlen, hbel⟩ := hrel
    by_cases hlt : j < n ∧ j < 30
    · obtain ⟨hlt, hlt6⟩ := hlt
      have ltd : decide ((j : Int) < (n : Int)) = true := decide_eq_true (by omega)
      have ltd6 : decide ((j : Int) < 30) = true := decide_eq_true (by omega)
      obtain ⟨_, _, h3, _⟩ := HR.out.mono hbel
      obtain ⟨b, off, e, hbl, hc⟩ := h3 (by omega)
      subst e
      obtain ⟨x0, x1, x2, x3, x4⟩ := hc j hlt
      have HD := hid (does_any hm (f j).kind (f j).at_ (f j).n (f j).sa (f j).sc (f j).S (f j).pa (f j).pc (f j).P (HR.out.ok hbel hm.2.2.1 hlt))
      have HBL := hid hbel; have HMM := hid hm; have HLN := hid hlen
      clear hc h3 hm hbel hlen
      generalize (f j).kind = t0 at *
      generalize (f j).at_ = t1 at *
      generalize (f j).n = t2 at *
      generalize (f j).sa = t3 at *
      generalize (f j).sc = t4 at *
      generalize (f j).S.length = t5 at *
      generalize (f j).pa = t6 at *
      generalize (f j).pc = t7 at *
      generalize (f j).P.length = t8 at *
      go_wp2_with fail
      refine HD.out.mono ?_
      rintro e w3 ⟨rfl, M3, m3, l3, t3'⟩
      have B3 := hid (HBL.out.trans (doesP_below HMM.out HBL.out.size t3')); have MM3 := hid m3; have LL3 := hid (l3.trans HLN.out)
      clear m3 l3 t3' x0 x1 x2 x3 x4
      go_wp2_with fail
      go_roundw
      case rel => exact ⟨j + 1, M3, by omega, by omega, by go_num, MM3.out, LL3.out, B3.out⟩
      case measure => simp [intOf]; omega
    · have hex : (j < n ∧ ¬ j < 30) ∨ ¬ j < n := by omega
      have HM := hid hm; have HLEN := hid hlen; have HBEL := hid hbel
      clear hm hlen hbel hlt
      rcases hex with ⟨hn, hn6⟩ | hn
      · have ltd : decide ((j : Int) < (n : Int)) = true := decide_eq_true (by omega)
        have ltd6 : decide ((j : Int) < 30) = false := decide_eq_false (by omega)
        clear hn6
        obtain ⟨_, kv, kd, kp, _⟩ := HM.out.2.2.1
        have OK := hid HM.out.1.1
        have LN := hid (LL_len HLEN.out q m)
        go_wp2_with fail
        refine (flush_u HM.out.1 q m qb mb).mono ?_
        rintro e w3 ⟨rfl, m3, t3⟩
        have M3 := hid m3; have B3 := hid (HBEL.out.trans (t3.below (B := w.heap.size) HBEL.out.size (fun k hk => by rw [hk]; assumption)))
        clear m3 t3
        go_wp2_with fail
        refine (fence_any M3.out).mono ?_
        rintro e w4 ⟨⟨z4, rfl⟩, m4, t4⟩
        have M4 := hid m4; have B4 := hid (B3.out.trans (t4.below (B := w.heap.size) B3.out.size (fun k hk => by rcases hk with e | e <;> rw [e] <;> assumption)))
        clear m4 t4
        go_wp2_with fail
        refine (load_A M4.out qb mb).mono ?_
        rintro e w5 ⟨a5, c5, rfl, o5, b5⟩
        obtain ⟨_, _, _, _, _, _, _, vl, dl, pl⟩ := mem_apart M4.out
        have M5 := hid (M4.out.mono b5); have B5 := hid (kept_trans B4.out b5); have O5 := hid o5
        clear b5 o5
        go_wp2_with fail
        refine (crash_u M5.out B5.out kd RP.out KP.out _ HLP.out).mono ?_
        rintro e w6 ⟨⟨z6, rfl⟩, m6, t6⟩
        have M6 := hid m6; have B6 := hid (B5.out.trans (below_of3 t6 B5.out.size kv kd kp)); have O6 := hid (t6.own O5.out (fun k hk => by rcases hk with e | e | e <;> rw [e] <;> assumption))
        clear m6 t6
        go_wp2_with fail
        refine (load_B OK.out M6.out qb mb).mono ?_
        rintro e w7 ⟨a7, c7, rfl, o7, b7⟩
        have B7 := hid (kept_trans B6.out b7); have O7 := hid o7; have P7 := hid (O6.out.mono b7)
        clear b7 o7
        go_wp2_with fail
        refine (same_any a5 a7 c5 c7 _ _ _ (Own.row P7.out) (Own.row O7.out) LN.out LN.out).mono ?_
        rintro e w8 ⟨rfl, b8⟩
        have B8 := hid (kept_trans B7.out b8)
        clear b8
        go_wp2_with fail
        refine (lives_any _).mono ?_
        rintro e w9 ⟨rfl, b9⟩
        have B9 := hid (kept_trans B8.out b9)
        clear b9
        go_wp2_with fail
        go_ret
        exact ⟨by simp, B9.out⟩
      · have ltd : decide ((j : Int) < (n : Int)) = false := decide_eq_false (by omega)
        obtain ⟨_, kv, kd, kp, _⟩ := HM.out.2.2.1
        have OK := hid HM.out.1.1
        have LN := hid (LL_len HLEN.out q m)
        go_wp2_with fail
        refine (flush_u HM.out.1 q m qb mb).mono ?_
        rintro e w3 ⟨rfl, m3, t3⟩
        have M3 := hid m3; have B3 := hid (HBEL.out.trans (t3.below (B := w.heap.size) HBEL.out.size (fun k hk => by rw [hk]; assumption)))
        clear m3 t3
        go_wp2_with fail
        refine (fence_any M3.out).mono ?_
        rintro e w4 ⟨⟨z4, rfl⟩, m4, t4⟩
        have M4 := hid m4; have B4 := hid (B3.out.trans (t4.below (B := w.heap.size) B3.out.size (fun k hk => by rcases hk with e | e <;> rw [e] <;> assumption)))
        clear m4 t4
        go_wp2_with fail
        refine (load_A M4.out qb mb).mono ?_
        rintro e w5 ⟨a5, c5, rfl, o5, b5⟩
        obtain ⟨_, _, _, _, _, _, _, vl, dl, pl⟩ := mem_apart M4.out
        have M5 := hid (M4.out.mono b5); have B5 := hid (kept_trans B4.out b5); have O5 := hid o5
        clear b5 o5
        go_wp2_with fail
        refine (crash_u M5.out B5.out kd RP.out KP.out _ HLP.out).mono ?_
        rintro e w6 ⟨⟨z6, rfl⟩, m6, t6⟩
        have M6 := hid m6; have B6 := hid (B5.out.trans (below_of3 t6 B5.out.size kv kd kp)); have O6 := hid (t6.own O5.out (fun k hk => by rcases hk with e | e | e <;> rw [e] <;> assumption))
        clear m6 t6
        go_wp2_with fail
        refine (load_B OK.out M6.out qb mb).mono ?_
        rintro e w7 ⟨a7, c7, rfl, o7, b7⟩
        have B7 := hid (kept_trans B6.out b7); have O7 := hid o7; have P7 := hid (O6.out.mono b7)
        clear b7 o7
        go_wp2_with fail
        refine (same_any a5 a7 c5 c7 _ _ _ (Own.row P7.out) (Own.row O7.out) LN.out LN.out).mono ?_
        rintro e w8 ⟨rfl, b8⟩
        have B8 := hid (kept_trans B7.out b8)
        clear b8
        go_wp2_with fail
        refine (lives_any _).mono ?_
        rintro e w9 ⟨rfl, b9⟩
        have B9 := hid (kept_trans B8.out b9)
        clear b9
        go_wp2_with fail
        go_ret
        exact ⟨by simp, B9.out⟩
set_option maxHeartbeats 8000000 in
theorem lasts_long (w : World) (a : Option Addr) (n c : Nat) (f : Nat → DeedV) (r : RowD w a c n f) (q m : Int) (qb : i64B q) (mb : i64B m) (ap : Option Addr) (cp l0 : Nat) (hl0 : l0 ≤ cp) (P : List Int) (rp : RowI w ap cp P) (kp : intsOk P) (hlP : 200 = P.length) (dc : decide ((200 : Int) < (l0 : Int)) = true) :
    Calls Try.prog 5 #[.slice a n c, .int .i64 q, .int .i64 m, .slice ap l0 cp] w fun e w' => e = .returned (.bool true) ∧ Below w.heap.size w w' := by
  have hnc := r.1
  have hc9 := r.2.1
  have RP := hid rp; have KP := hid kp; have HR := hid r; have HLP := hid hlP
  clear rp kp r hlP
  have h200 : 200 ≤ cp := by have := of_decide_eq_true dc; omega

  go_enter Try.func5, Try.ntmps5
  go_wp2_with fail
  refine (new256 w).mono ?_
  rintro e w1 ⟨g, v, d, p, rfl, m1, h1, b1⟩
  have HM1 := hid m1; have HH1 := hid h1; have B1 := hid b1
  clear m1 h1 b1
  go_wp2_with fail
  refine (newR256 w1).mono ?_
  rintro e w2 ⟨g2, v2, d2, a2, rfl, m2, h2, b2⟩
  have hB0 := both_start HM1.out HH1.out B1.out m2 h2 b2
  have B2 := hid (kept_trans B1.out b2)
  clear m2 h2 b2 HM1 HH1 B1
  obtain ⟨K, rfl, rfl, rfl, rfl, rfl, rfl, rfl, rfl⟩ : ∃ K : MemK, K.gm = g ∧ K.vm = v ∧ K.dm = d ∧ K.pm = p ∧ K.gr = g2 ∧ K.vr = v2 ∧ K.dr = d2 ∧ K.ar = a2 := ⟨⟨g, v, d, p, g2, v2, d2, a2⟩, rfl, rfl, rfl, rfl, rfl, rfl, rfl, rfl⟩
  have HB0 := hid hB0
  clear hB0
  go_wp2_with fail
  go_loopw [11] (fun i  wr => ∃ (j : Nat) (M : MemM), j ≤ n ∧ j ≤ 30 ∧ i = .int .i64 j ∧ Both wr w.heap.size K M ∧ M.V.length = 256 ∧ Below w.heap.size w wr) (fun i  _ => n - (intOf i).toNat)
  case atStart => exact ⟨0, newM 256, Nat.zero_le _, Nat.zero_le _, rfl, HB0.out, newM_len _, B2.out⟩
  case round =>
    obtain ⟨j, M, hj, hj6, rfl, hm, hlen, hbel⟩ := hrel
    by_cases hlt : j < n ∧ j < 30
    · obtain ⟨hlt, hlt6⟩ := hlt
      have ltd : decide ((j : Int) < (n : Int)) = true := decide_eq_true (by omega)
      have ltd6 : decide ((j : Int) < 30) = true := decide_eq_true (by omega)
      obtain ⟨_, _, h3, _⟩ := HR.out.mono hbel
      obtain ⟨b, off, e, hbl, hc⟩ := h3 (by omega)
      subst e
      obtain ⟨x0, x1, x2, x3, x4⟩ := hc j hlt
      have HD := hid (does_any hm (f j).kind (f j).at_ (f j).n (f j).sa (f j).sc (f j).S (f j).pa (f j).pc (f j).P (HR.out.ok hbel hm.2.2.1 hlt))
      have HBL := hid hbel; have HMM := hid hm; have HLN := hid hlen
      clear hc h3 hm hbel hlen
      generalize (f j).kind = t0 at *
      generalize (f j).at_ = t1 at *
      generalize (f j).n = t2 at *
      generalize (f j).sa = t3 at *
      generalize (f j).sc = t4 at *
      generalize (f j).S.length = t5 at *
      generalize (f j).pa = t6 at *
      generalize (f j).pc = t7 at *
      generalize (f j).P.length = t8 at *
      go_wp2_with fail
      refine HD.out.mono ?_
      rintro e w3 ⟨rfl, M3, m3, l3, t3'⟩
      have B3 := hid (HBL.out.trans (doesP_below HMM.out HBL.out.size t3')); have MM3 := hid m3; have LL3 := hid (l3.trans HLN.out)
      clear m3 l3 t3' x0 x1 x2 x3 x4
      go_wp2_with fail
      go_roundw
      case rel => exact ⟨j + 1, M3, by omega, by omega, by go_num, MM3.out, LL3.out, B3.out⟩
      case measure => simp [intOf]; omega
    · have hex : (j < n ∧ ¬ j < 30) ∨ ¬ j < n := by omega
      have HM := hid hm; have HLEN := hid hlen; have HBEL := hid hbel
      clear hm hlen hbel hlt
      rcases hex with ⟨hn, hn6⟩ | hn
      · have ltd : decide ((j : Int) < (n : Int)) = true := decide_eq_true (by omega)
        have ltd6 : decide ((j : Int) < 30) = false := decide_eq_false (by omega)
        clear hn6
        obtain ⟨_, kv, kd, kp, _⟩ := HM.out.2.2.1
        have OK := hid HM.out.1.1
        have LN := hid (LL_len HLEN.out q m)
        go_wp2_with fail
        refine (flush_u HM.out.1 q m qb mb).mono ?_
        rintro e w3 ⟨rfl, m3, t3⟩
        have M3 := hid m3; have B3 := hid (HBEL.out.trans (t3.below (B := w.heap.size) HBEL.out.size (fun k hk => by rw [hk]; assumption)))
        clear m3 t3
        go_wp2_with fail
        refine (fence_any M3.out).mono ?_
        rintro e w4 ⟨⟨z4, rfl⟩, m4, t4⟩
        have M4 := hid m4; have B4 := hid (B3.out.trans (t4.below (B := w.heap.size) B3.out.size (fun k hk => by rcases hk with e | e <;> rw [e] <;> assumption)))
        clear m4 t4
        go_wp2_with fail
        refine (load_A M4.out qb mb).mono ?_
        rintro e w5 ⟨a5, c5, rfl, o5, b5⟩
        obtain ⟨_, _, _, _, _, _, _, vl, dl, pl⟩ := mem_apart M4.out
        have M5 := hid (M4.out.mono b5); have B5 := hid (kept_trans B4.out b5); have O5 := hid o5
        clear b5 o5
        go_wp2_with fail
        refine (crash_u M5.out B5.out kd RP.out KP.out _ HLP.out).mono ?_
        rintro e w6 ⟨⟨z6, rfl⟩, m6, t6⟩
        have M6 := hid m6; have B6 := hid (B5.out.trans (below_of3 t6 B5.out.size kv kd kp)); have O6 := hid (t6.own O5.out (fun k hk => by rcases hk with e | e | e <;> rw [e] <;> assumption))
        clear m6 t6
        go_wp2_with fail
        refine (load_B OK.out M6.out qb mb).mono ?_
        rintro e w7 ⟨a7, c7, rfl, o7, b7⟩
        have B7 := hid (kept_trans B6.out b7); have O7 := hid o7; have P7 := hid (O6.out.mono b7)
        clear b7 o7
        go_wp2_with fail
        refine (same_any a5 a7 c5 c7 _ _ _ (Own.row P7.out) (Own.row O7.out) LN.out LN.out).mono ?_
        rintro e w8 ⟨rfl, b8⟩
        have B8 := hid (kept_trans B7.out b8)
        clear b8
        go_wp2_with fail
        refine (lives_any _).mono ?_
        rintro e w9 ⟨rfl, b9⟩
        have B9 := hid (kept_trans B8.out b9)
        clear b9
        go_wp2_with fail
        go_ret
        exact ⟨by simp, B9.out⟩
      · have ltd : decide ((j : Int) < (n : Int)) = false := decide_eq_false (by omega)
        obtain ⟨_, kv, kd, kp, _⟩ := HM.out.2.2.1
        have OK := hid HM.out.1.1
        have LN := hid (LL_len HLEN.out q m)
        go_wp2_with fail
        refine (flush_u HM.out.1 q m qb mb).mono ?_
        rintro e w3 ⟨rfl, m3, t3⟩
        have M3 := hid m3; have B3 := hid (HBEL.out.trans (t3.below (B := w.heap.size) HBEL.out.size (fun k hk => by rw [hk]; assumption)))
        clear m3 t3
        go_wp2_with fail
        refine (fence_any M3.out).mono ?_
        rintro e w4 ⟨⟨z4, rfl⟩, m4, t4⟩
        have M4 := hid m4; have B4 := hid (B3.out.trans (t4.below (B := w.heap.size) B3.out.size (fun k hk => by rcases hk with e | e <;> rw [e] <;> assumption)))
        clear m4 t4
        go_wp2_with fail
        refine (load_A M4.out qb mb).mono ?_
        rintro e w5 ⟨a5, c5, rfl, o5, b5⟩
        obtain ⟨_, _, _, _, _, _, _, vl, dl, pl⟩ := mem_apart M4.out
        have M5 := hid (M4.out.mono b5); have B5 := hid (kept_trans B4.out b5); have O5 := hid o5
        clear b5 o5
        go_wp2_with fail
        refine (crash_u M5.out B5.out kd RP.out KP.out _ HLP.out).mono ?_
        rintro e w6 ⟨⟨z6, rfl⟩, m6, t6⟩
        have M6 := hid m6; have B6 := hid (B5.out.trans (below_of3 t6 B5.out.size kv kd kp)); have O6 := hid (t6.own O5.out (fun k hk => by rcases hk with e | e | e <;> rw [e] <;> assumption))
        clear m6 t6
        go_wp2_with fail
        refine (load_B OK.out M6.out qb mb).mono ?_
        rintro e w7 ⟨a7, c7, rfl, o7, b7⟩
        have B7 := hid (kept_trans B6.out b7); have O7 := hid o7; have P7 := hid (O6.out.mono b7)
        clear b7 o7
        go_wp2_with fail
        refine (same_any a5 a7 c5 c7 _ _ _ (Own.row P7.out) (Own.row O7.out) LN.out LN.out).mono ?_
        rintro e w8 ⟨rfl, b8⟩
        have B8 := hid (kept_trans B7.out b8)
        clear b8
        go_wp2_with fail
        refine (lives_any _).mono ?_
        rintro e w9 ⟨rfl, b9⟩
        have B9 := hid (kept_trans B8.out b9)
        clear b9
        go_wp2_with fail
        go_ret
        exact ⟨by simp, B9.out⟩

theorem PmemLasts_walk (w : World) (a : Option Addr) (n c : Nat) (f : Nat → DeedV) (r : RowD w a c n f) (q : Int) (wq : (Lit.int .i64 q).wf = true) (m : Int) (wm : (Lit.int .i64 m).wf = true) (ap : Option Addr) (cp : Nat) (P : List Int) (rp : RowI w ap cp P) (kp : intsOk P) :
    Calls Try.prog 5 #[.slice a n c, .int .i64 q, .int .i64 m, .slice ap P.length cp] w fun e w' => e = .returned (.bool true) ∧ Below w.heap.size w w' := by
  have hcp : P.length ≤ cp := by have := rp.2.1; simpa using this
  by_cases h : P.length ≤ 200
  · exact lasts_short w a n c f r q m (i64_bd wq) (i64_bd wm) ap cp _ hcp P rp kp rfl (decide_eq_false (by omega))
  · exact lasts_long w a n c f r q m (i64_bd wq) (i64_bd wm) ap cp _ hcp (P.take 200) (rowI_take rp 200) (fun x hx => kp x (List.mem_of_mem_take hx)) (by rw [List.length_take]; omega) (decide_eq_true (by omega))
end Go.Proofs.Ytcgekooahahjpaa
