/- What is stored changes just its own bytes. (genPnD.py) -/
import Derived.Test.YtcgekooahahjpaaPnC
namespace Go.Proofs.Ytcgekooahahjpaa
open Go.RowKit
set_option linter.unusedSimpArgs false
set_option linter.unusedVariables false

set_option maxHeartbeats 1000000 in
theorem else_short (w : World) (a : Option Addr) (n c : Nat) (f : Nat → DeedV) (r : RowD w a c n f) (q : Int) (qb : i64B q) (ab : Option Addr) (cb l0 : Nat) (hl0 : l0 ≤ cb) (b : List UInt8) (rb : RowB w ab cb b) (hlP : l0 = b.length) (dc : decide ((100 : Int) < (l0 : Int)) = false) :
    Calls Try.prog 7 #[.slice a n c, .int .i64 q, .slice ab l0 cb] w fun e w' => e = .returned (.bool true) ∧ Below w.heap.size w w' := by
  have hnc := r.1
  have hc9 := r.2.1
  have RB := hid rb; have HR := hid r; have HLP := hid hlP
  clear rb r hlP
  go_enter Try.func7, Try.ntmps7
  go_wp2_with fail
  refine (new256 w).mono ?_
  rintro e w1 ⟨g, v, d, p, rfl, m1, h1, b1⟩
  have HM1 := hid m1; have HH1 := hid h1; have B1 := hid b1
  clear m1 h1 b1
  go_wp2_with fail
  refine (newR256 w1).mono ?_
  rintro e w2 ⟨g2, v2, d2, a2, rfl, m2, h2, b2⟩
  have hB0 := both_start HM1.out HH1.out B1.out m2 h2 b2
  have B2 := hid (kept_trans B1.out b2)
  clear m2 h2 b2 HM1 HH1 B1
  obtain ⟨K, rfl, rfl, rfl, rfl, rfl, rfl, rfl, rfl⟩ : ∃ K : MemK, K.gm = g ∧ K.vm = v ∧ K.dm = d ∧ K.pm = p ∧ K.gr = g2 ∧ K.vr = v2 ∧ K.dr = d2 ∧ K.ar = a2 := ⟨⟨g, v, d, p, g2, v2, d2, a2⟩, rfl, rfl, rfl, rfl, rfl, rfl, rfl, rfl⟩
  have HB0 := hid hB0
  clear hB0
  go_wp2_with fail
  go_loopw [9] (fun i  wr => ∃ (j : Nat) (M : MemM), j ≤ n ∧ j ≤ 30 ∧ i = .int .i64 j ∧ Both wr w.heap.size K M ∧ M.V.length = 256 ∧ Below w.heap.size w wr) (fun i  _ => n - (intOf i).toNat)
  case atStart => exact ⟨0, newM 256, Nat.zero_le _, Nat.zero_le _, rfl, HB0.out, newM_len _, B2.out⟩
  case round =>
    obtain ⟨j, M, hj, hj6, rfl, hm, hlen, hbel⟩ := hrel
    by_cases hlt : j < n ∧ j < 30
    · obtain ⟨hlt, hlt6⟩ := hlt
      have ltd : decide ((j : Int) < (n : Int)) = true := decide_eq_true (by omega)
      have ltd6 : decide ((j : Int) < 30) = true := decide_eq_true (by omega)
      obtain ⟨_, _, h3, _⟩ := HR.out.mono hbel
      obtain ⟨b, off, e, hbl, hc⟩ := h3 (by omega)
      subst e
      obtain ⟨x0, x1, x2, x3, x4⟩ := hc j hlt
      have HD := hid (does_any hm (f j).kind (f j).at_ (f j).n (f j).sa (f j).sc (f j).S (f j).pa (f j).pc (f j).P (HR.out.ok hbel hm.2.2.1 hlt))
      have HBL := hid hbel; have HMM := hid hm; have HLN := hid hlen
      clear hc h3 hm hbel hlen
      generalize (f j).kind = t0 at *
      generalize (f j).at_ = t1 at *
      generalize (f j).n = t2 at *
      generalize (f j).sa = t3 at *
      generalize (f j).sc = t4 at *
      generalize (f j).S.length = t5 at *
      generalize (f j).pa = t6 at *
      generalize (f j).pc = t7 at *
      generalize (f j).P.length = t8 at *
      go_wp2_with fail
      refine HD.out.mono ?_
      rintro e w3 ⟨rfl, M3, m3, l3, t3'⟩
      have B3 := hid (HBL.out.trans (doesP_below HMM.out HBL.out.size t3')); have MM3 := hid m3; have LL3 := hid (l3.trans HLN.out)
      clear m3 l3 t3' x0 x1 x2 x3 x4
      go_wp2_with fail
      go_roundw
      case rel => exact ⟨j + 1, M3, by omega, by omega, by go_num, MM3.out, LL3.out, B3.out⟩
      case measure => simp [intOf]; omega
    · have hex : (j < n ∧ ¬ j < 30) ∨ ¬ j < n := by omega
      have HM := hid hm; have HLEN := hid hlen; have HBEL := hid hbel
      clear hm hlen hbel hlt
      rcases hex with ⟨hn, hn6⟩ | hn
      · have ltd : decide ((j : Int) < (n : Int)) = true := decide_eq_true (by omega)
        have ltd6 : decide ((j : Int) < 30) = false := decide_eq_false (by omega)
        clear hn6
        obtain ⟨_, kv, kd, kp, _⟩ := HM.out.2.2.1
        obtain ⟨_, _, _, _, _, _, _, vl, dl, pl⟩ := mem_apart HM.out.1
        have LD : Hid (M.D.length = 256) := hid (HM.out.1.1.1.trans HLEN.out)
        rcases inM_cases M q b with ⟨Q, hQ, hQl⟩ | hout
        · subst hQ
          have HX := hid (storeU_in hQl).1; have HE := hid (storeU_in hQl).2
          have HIN : Hid (Q + b.length ≤ 256) := hid (by have := HLEN.out; omega)
          have hq256 : Q + l0 ≤ 256 := by have := HIN.out; have := HLP.out; omega
          clear hQl
          go_wp2_with fail
          refine (load256 HM.out.1 HLEN.out rfl).mono ?_
          rintro e w4 ⟨a4, c4, rfl, o4, b4⟩
          obtain ⟨g4, rfl⟩ := own_someO o4 (by have := HLEN.out; omega)
          have hs4 : wr.heap.size ≤ w4.heap.size := b4.size
          have hg4 : g4 < w4.heap.size := by obtain ⟨Z0, hb0, _⟩ := own_bytes o4; exact hb0.lt
          have M4 := hid (HM.out.1.mono b4); have B4 := hid (kept_trans HBEL.out b4); have O4 := hid o4
          clear b4 o4
          go_wp2_with fail
          refine (lasts256 M4.out HLEN.out rfl).mono ?_
          rintro e w5 ⟨a5, c5, rfl, o5, b5⟩
          have hs5 : w4.heap.size ≤ w5.heap.size := b5.size
          have M5 := hid (M4.out.mono b5); have B5 := hid (kept_trans B4.out b5); have P4 := hid (O4.out.mono b5); have O5 := hid o5
          clear b5 o5
          go_wp2_with fail
          refine (store_v M5.out B5.out qb RB.out _ HLP.out _ HE.out).mono ?_
          rintro e w6 ⟨rfl, m6, t6⟩
          have hs6 : w5.heap.size ≤ w6.heap.size := t6.size
          have M6 := hid m6; have B6 := hid (B5.out.trans (t6.below (B := w.heap.size) B5.out.size (fun k hk => by rcases hk with e | e <;> rw [e] <;> assumption)))
          have Q4 := hid (t6.own P4.out (fun k hk => by rcases hk with e | e <;> rw [e] <;> assumption)); have Q5 := hid (t6.own O5.out (fun k hk => by rcases hk with e | e <;> rw [e] <;> omega))
          clear m6 t6
          go_wp2_with fail
          refine (load256 M6.out ((storeU_len _ _ _).trans HLEN.out) HX.out).mono ?_
          rintro e w7 ⟨a7, c7, rfl, o7, b7⟩
          have hs7 : w6.heap.size ≤ w7.heap.size := b7.size
          have M7 := hid (M6.out.mono b7); have B7 := hid (kept_trans B6.out b7); have R4 := hid (Q4.out.mono b7); have R5 := hid (Q5.out.mono b7); have O7 := hid o7
          clear b7 o7
          go_wp2_with fail
          refine (lasts256 M7.out ((storeU_len _ _ _).trans HLEN.out) (storeU_D _ _ _)).mono ?_
          rintro e w8 ⟨a8, c8, rfl, o8, b8⟩
          have B8 := hid (kept_trans B7.out b8); have S4 := hid (R4.out.mono b8); have S5 := hid (R5.out.mono b8); have S7 := hid (O7.out.mono b8); have O8 := hid o8
          clear b8 o8
          go_wp2_with fail
          obtain ⟨Z, hblk, _, _, hZc⟩ := own_bytes S4.out
          have HZc := hid hZc; have HBL := hid hblk
          clear hZc hblk
          go_loopw [19] (fun i wr => ∃ (k : Nat), k ≤ l0 ∧ i = .int .i64 k ∧ Blk wr g4 5 ((splice M.V Q (b.take k)).map byteV ++ Z) ∧ Turns (fun x => x = g4) w8 wr) (fun i _ => l0 - (intOf i).toNat)
          case atStart => exact ⟨0, Nat.zero_le _, rfl, by rw [List.take_zero, splice_nil]; exact HBL.out, Turns.refl _ _⟩
          case round =>
            obtain ⟨k, hk, rfl, kb, tt⟩ := hrel
            by_cases hkl : k < l0
            · have kd2 : decide ((k : Int) < (l0 : Int)) = true := decide_eq_true (by omega)
              have hkb : k < b.length := by have := HLP.out; omega
              have hVl := HLEN.out
              have hin := HIN.out
              have e1 : (splice M.V Q (b.take k)).length = 256 := (length_splice _ _ _ (by simp; omega)).trans hVl
              obtain ⟨bb, off, e9, hbl, hc9⟩ := (RB.out.mono (B8.out)).bytes (by omega)
              have hcell := hc9 k hkb
              have hbn : bb ≠ g4 := by
                obtain ⟨bb', off', e9', hbl', _⟩ := RB.out.bytes (by omega)
                rw [e9] at e9'
                cases e9'
                obtain ⟨_, _, hq, _⟩ := own_bytes O4.out
                have := HBEL.out.size
                omega
              have hcr : wr.cell? ⟨bb, off + k, none⟩ = some (.int .u8 (bAt b k : Int)) := (World.cell?_of_block (tt.block bb hbl hbn)).trans hcell
              subst e9
              obtain ⟨v0, c0⟩ := Blk.someCell kb (i := Q + k) (by simp [e1]; omega)
              have f0 := Blk.frozen kb (Q + k)
              have hK : Q + k < 256 := by omega
              have s0 : Hid (∀ X, Blk X g4 5 ((splice M.V Q (b.take k)).map byteV ++ Z) → Blk (X.setCell ⟨g4, Q + k, none⟩ (.int .u8 (bAt b k : Int))) g4 5 ((splice M.V Q (b.take (k + 1))).map byteV ++ Z)) := hid (fun X hX => by
                have := Blk.set hX (Q + k) (byteV (b.getD k 0))
                rw [bytes_set _ _ (by rw [e1]; omega), splice_put (by omega) hkb] at this
                exact this)
              have KB := hid kb; have TT := hid tt
              clear kb tt hc9 hcell hbl hbn e1 hVl hin hkb
              have eK : (Q : Int) + (k : Int) = ((Q + k : Nat) : Int) := by omega
              obtain ⟨KK, hKK⟩ : ∃ KK, KK = Q + k := ⟨_, rfl⟩
              rw [← hKK] at eK hK c0 f0
              rw [← hKK] at s0
              clear hKK
              go_wp2_with fail
              go_roundw
              case rel => exact ⟨k + 1, by omega, by go_num, s0.out _ KB.out, TT.out.setIn rfl _ _⟩
              case measure => simp [intOf]; omega
            · have hke : k = l0 := by omega
              have kd2 : decide ((k : Int) < (l0 : Int)) = false := decide_eq_false (by omega)
              have hrow := blk_row kb (c := c4) (by
                have := HZc.out
                rw [length_splice _ _ _ (by have := HIN.out; have := HLEN.out; have := HLP.out; simp; omega)]
                omega) (by have := rowB_len S4.out.row; have := S4.out.row.2.2.1; unfold maxLen at this; omega)
              rw [List.take_of_length_le (by have := HLP.out; omega)] at hrow
              have hrl : (splice M.V Q b).length = 256 := (length_splice _ _ _ (by have := HIN.out; have := HLEN.out; omega)).trans HLEN.out
              have R4' := hid hrow
              have R5' := hid (tt.own S5.out (fun k hk => by rw [hk]; omega)); have R7' := hid (tt.own S7.out (fun k hk => by rw [hk]; omega)); have R8' := hid (tt.own O8.out (fun k hk => by rw [hk]; omega))
              have B9 := hid (B8.out.trans (tt.below (B := w.heap.size) B8.out.size (fun k hk => by rw [hk]; omega)))
              have HXL := hid hrl
              clear kb tt hrow hrl
              go_wp2_with fail
              refine (same_256 HXL.out R7'.out.row R4'.out).mono ?_
              rintro e w10 ⟨rfl, b10⟩
              have B10 := hid (kept_trans B9.out b10); have T5 := hid (R5'.out.mono b10); have T8 := hid (R8'.out.mono b10)
              clear b10
              go_wp2_with fail
              refine (same_256 LD.out T8.out.row T5.out.row).mono ?_
              rintro e w11 ⟨rfl, b11⟩
              have B11 := hid (kept_trans B10.out b11)
              clear b11
              go_wp2_with fail
              refine (lives_any _).mono ?_
              rintro e w12 ⟨rfl, b12⟩
              have B12 := hid (kept_trans B11.out b12)
              clear b12
              go_wp2_with fail
              go_ret
              exact ⟨by simp, B12.out⟩
        · have HX := hid (storeU_out hout).1; have HE := hid (storeU_out hout).2
          clear hout
          go_wp2_with fail
          refine (load256 HM.out.1 HLEN.out rfl).mono ?_
          rintro e w4 ⟨a4, c4, rfl, o4, b4⟩
          obtain ⟨g4, rfl⟩ := own_someO o4 (by have := HLEN.out; omega)
          have hs4 : wr.heap.size ≤ w4.heap.size := b4.size
          have hg4 : g4 < w4.heap.size := by obtain ⟨Z0, hb0, _⟩ := own_bytes o4; exact hb0.lt
          have M4 := hid (HM.out.1.mono b4); have B4 := hid (kept_trans HBEL.out b4); have O4 := hid o4
          clear b4 o4
          go_wp2_with fail
          refine (lasts256 M4.out HLEN.out rfl).mono ?_
          rintro e w5 ⟨a5, c5, rfl, o5, b5⟩
          have hs5 : w4.heap.size ≤ w5.heap.size := b5.size
          have M5 := hid (M4.out.mono b5); have B5 := hid (kept_trans B4.out b5); have P4 := hid (O4.out.mono b5); have O5 := hid o5
          clear b5 o5
          go_wp2_with fail
          refine (store_v M5.out B5.out qb RB.out _ HLP.out _ HE.out).mono ?_
          rintro e w6 ⟨rfl, m6, t6⟩
          have hs6 : w5.heap.size ≤ w6.heap.size := t6.size
          have M6 := hid m6; have B6 := hid (B5.out.trans (t6.below (B := w.heap.size) B5.out.size (fun k hk => by rcases hk with e | e <;> rw [e] <;> assumption)))
          have Q4 := hid (t6.own P4.out (fun k hk => by rcases hk with e | e <;> rw [e] <;> assumption)); have Q5 := hid (t6.own O5.out (fun k hk => by rcases hk with e | e <;> rw [e] <;> omega))
          clear m6 t6
          go_wp2_with fail
          refine (load256 M6.out ((storeU_len _ _ _).trans HLEN.out) HX.out).mono ?_
          rintro e w7 ⟨a7, c7, rfl, o7, b7⟩
          have hs7 : w6.heap.size ≤ w7.heap.size := b7.size
          have M7 := hid (M6.out.mono b7); have B7 := hid (kept_trans B6.out b7); have R4 := hid (Q4.out.mono b7); have R5 := hid (Q5.out.mono b7); have O7 := hid o7
          clear b7 o7
          go_wp2_with fail
          refine (lasts256 M7.out ((storeU_len _ _ _).trans HLEN.out) (storeU_D _ _ _)).mono ?_
          rintro e w8 ⟨a8, c8, rfl, o8, b8⟩
          have B8 := hid (kept_trans B7.out b8); have S4 := hid (R4.out.mono b8); have S5 := hid (R5.out.mono b8); have S7 := hid (O7.out.mono b8); have O8 := hid o8
          clear b8 o8
          go_wp2_with fail
          have B9 := B8; have R4' := S4; have R5' := S5; have R7' := S7; have R8' := O8
          have HXL := HLEN
          refine (same_256 HXL.out R7'.out.row R4'.out.row).mono ?_
          rintro e w10 ⟨rfl, b10⟩
          have B10 := hid (kept_trans B9.out b10); have T5 := hid (R5'.out.mono b10); have T8 := hid (R8'.out.mono b10)
          clear b10
          go_wp2_with fail
          refine (same_256 LD.out T8.out.row T5.out.row).mono ?_
          rintro e w11 ⟨rfl, b11⟩
          have B11 := hid (kept_trans B10.out b11)
          clear b11
          go_wp2_with fail
          refine (lives_any _).mono ?_
          rintro e w12 ⟨rfl, b12⟩
          have B12 := hid (kept_trans B11.out b12)
          clear b12
          go_wp2_with fail
          go_ret
          exact ⟨by simp, B12.out⟩
      · have ltd : decide ((j : Int) < (n : Int)) = false := decide_eq_false (by omega)
        obtain ⟨_, kv, kd, kp, _⟩ := HM.out.2.2.1
        obtain ⟨_, _, _, _, _, _, _, vl, dl, pl⟩ := mem_apart HM.out.1
        have LD : Hid (M.D.length = 256) := hid (HM.out.1.1.1.trans HLEN.out)
        rcases inM_cases M q b with ⟨Q, hQ, hQl⟩ | hout
        · subst hQ
          have HX := hid (storeU_in hQl).1; have HE := hid (storeU_in hQl).2
          have HIN : Hid (Q + b.length ≤ 256) := hid (by have := HLEN.out; omega)
          have hq256 : Q + l0 ≤ 256 := by have := HIN.out; have := HLP.out; omega
          clear hQl
          go_wp2_with fail
          refine (load256 HM.out.1 HLEN.out rfl).mono ?_
          rintro e w4 ⟨a4, c4, rfl, o4, b4⟩
          obtain ⟨g4, rfl⟩ := own_someO o4 (by have := HLEN.out; omega)
          have hs4 : wr.heap.size ≤ w4.heap.size := b4.size
          have hg4 : g4 < w4.heap.size := by obtain ⟨Z0, hb0, _⟩ := own_bytes o4; exact hb0.lt
          have M4 := hid (HM.out.1.mono b4); have B4 := hid (kept_trans HBEL.out b4); have O4 := hid o4
          clear b4 o4
          go_wp2_with fail
          refine (lasts256 M4.out HLEN.out rfl).mono ?_
          rintro e w5 ⟨a5, c5, rfl, o5, b5⟩
          have hs5 : w4.heap.size ≤ w5.heap.size := b5.size
          have M5 := hid (M4.out.mono b5); have B5 := hid (kept_trans B4.out b5); have P4 := hid (O4.out.mono b5); have O5 := hid o5
          clear b5 o5
          go_wp2_with fail
          refine (store_v M5.out B5.out qb RB.out _ HLP.out _ HE.out).mono ?_
          rintro e w6 ⟨rfl, m6, t6⟩
          have hs6 : w5.heap.size ≤ w6.heap.size := t6.size
          have M6 := hid m6; have B6 := hid (B5.out.trans (t6.below (B := w.heap.size) B5.out.size (fun k hk => by rcases hk with e | e <;> rw [e] <;> assumption)))
          have Q4 := hid (t6.own P4.out (fun k hk => by rcases hk with e | e <;> rw [e] <;> assumption)); have Q5 := hid (t6.own O5.out (fun k hk => by rcases hk with e | e <;> rw [e] <;> omega))
          clear m6 t6
          go_wp2_with fail
          refine (load256 M6.out ((storeU_len _ _ _).trans HLEN.out) HX.out).mono ?_
          rintro e w7 ⟨a7, c7, rfl, o7, b7⟩
          have hs7 : w6.heap.size ≤ w7.heap.size := b7.size
          have M7 := hid (M6.out.mono b7); have B7 := hid (kept_trans B6.out b7); have R4 := hid (Q4.out.mono b7); have R5 := hid (Q5.out.mono b7); have O7 := hid o7
          clear b7 o7
          go_wp2_with fail
          refine (lasts256 M7.out ((storeU_len _ _ _).trans HLEN.out) (storeU_D _ _ _)).mono ?_
          rintro e w8 ⟨a8, c8, rfl, o8, b8⟩
          have B8 := hid (kept_trans B7.out b8); have S4 := hid (R4.out.mono b8); have S5 := hid (R5.out.mono b8); have S7 := hid (O7.out.mono b8); have O8 := hid o8
          clear b8 o8
          go_wp2_with fail
          obtain ⟨Z, hblk, _, _, hZc⟩ := own_bytes S4.out
          have HZc := hid hZc; have HBL := hid hblk
          clear hZc hblk
          go_loopw [19] (fun i wr => ∃ (k : Nat), k ≤ l0 ∧ i = .int .i64 k ∧ Blk wr g4 5 ((splice M.V Q (b.take k)).map byteV ++ Z) ∧ Turns (fun x => x = g4) w8 wr) (fun i _ => l0 - (intOf i).toNat)
          case atStart => exact ⟨0, Nat.zero_le _, rfl, by rw [List.take_zero, splice_nil]; exact HBL.out, Turns.refl _ _⟩
          case round =>
            obtain ⟨k, hk, rfl, kb, tt⟩ := hrel
            by_cases hkl : k < l0
            · have kd2 : decide ((k : Int) < (l0 : Int)) = true := decide_eq_true (by omega)
              have hkb : k < b.length := by have := HLP.out; omega
              have hVl := HLEN.out
              have hin := HIN.out
              have e1 : (splice M.V Q (b.take k)).length = 256 := (length_splice _ _ _ (by simp; omega)).trans hVl
              obtain ⟨bb, off, e9, hbl, hc9⟩ := (RB.out.mono (B8.out)).bytes (by omega)
              have hcell := hc9 k hkb
              have hbn : bb ≠ g4 := by
                obtain ⟨bb', off', e9', hbl', _⟩ := RB.out.bytes (by omega)
                rw [e9] at e9'
                cases e9'
                obtain ⟨_, _, hq, _⟩ := own_bytes O4.out
                have := HBEL.out.size
                omega
              have hcr : wr.cell? ⟨bb, off + k, none⟩ = some (.int .u8 (bAt b k : Int)) := (World.cell?_of_block (tt.block bb hbl hbn)).trans hcell
              subst e9
              obtain ⟨v0, c0⟩ := Blk.someCell kb (i := Q + k) (by simp [e1]; omega)
              have f0 := Blk.frozen kb (Q + k)
              have hK : Q + k < 256 := by omega
              have s0 : Hid (∀ X, Blk X g4 5 ((splice M.V Q (b.take k)).map byteV ++ Z) → Blk (X.setCell ⟨g4, Q + k, none⟩ (.int .u8 (bAt b k : Int))) g4 5 ((splice M.V Q (b.take (k + 1))).map byteV ++ Z)) := hid (fun X hX => by
                have := Blk.set hX (Q + k) (byteV (b.getD k 0))
                rw [bytes_set _ _ (by rw [e1]; omega), splice_put (by omega) hkb] at this
                exact this)
              have KB := hid kb; have TT := hid tt
              clear kb tt hc9 hcell hbl hbn e1 hVl hin hkb
              have eK : (Q : Int) + (k : Int) = ((Q + k : Nat) : Int) := by omega
              obtain ⟨KK, hKK⟩ : ∃ KK, KK = Q + k := ⟨_, rfl⟩
              rw [← hKK] at eK hK c0 f0
              rw [← hKK] at s0
              clear hKK
              go_wp2_with fail
              go_roundw
              case rel => exact ⟨k + 1, by omega, by go_num, s0.out _ KB.out, TT.out.setIn rfl _ _⟩
              case measure => simp [intOf]; omega
            · have hke : k = l0 := by omega
              have kd2 : decide ((k : Int) < (l0 : Int)) = false := decide_eq_false (by omega)
              have hrow := blk_row kb (c := c4) (by
                have := HZc.out
                rw [length_splice _ _ _ (by have := HIN.out; have := HLEN.out; have := HLP.out; simp; omega)]
                omega) (by have := rowB_len S4.out.row; have := S4.out.row.2.2.1; unfold maxLen at this; omega)
              rw [List.take_of_length_le (by have := HLP.out; omega)] at hrow
              have hrl : (splice M.V Q b).length = 256 := (length_splice _ _ _ (by have := HIN.out; have := HLEN.out; omega)).trans HLEN.out
              have R4' := hid hrow
              have R5' := hid (tt.own S5.out (fun k hk => by rw [hk]; omega)); have R7' := hid (tt.own S7.out (fun k hk => by rw [hk]; omega)); have R8' := hid (tt.own O8.out (fun k hk => by rw [hk]; omega))
              have B9 := hid (B8.out.trans (tt.below (B := w.heap.size) B8.out.size (fun k hk => by rw [hk]; omega)))
              have HXL := hid hrl
              clear kb tt hrow hrl
              go_wp2_with fail
              refine (same_256 HXL.out R7'.out.row R4'.out).mono ?_
              rintro e w10 ⟨rfl, b10⟩
              have B10 := hid (kept_trans B9.out b10); have T5 := hid (R5'.out.mono b10); have T8 := hid (R8'.out.mono b10)
              clear b10
              go_wp2_with fail
              refine (same_256 LD.out T8.out.row T5.out.row).mono ?_
              rintro e w11 ⟨rfl, b11⟩
              have B11 := hid (kept_trans B10.out b11)
              clear b11
              go_wp2_with fail
              refine (lives_any _).mono ?_
              rintro e w12 ⟨rfl, b12⟩
              have B12 := hid (kept_trans B11.out b12)
              clear b12
              go_wp2_with fail
              go_ret
              exact ⟨by simp, B12.out⟩
        · have HX := hid (storeU_out hout).1; have HE := hid (storeU_out hout).2
          clear hout
          go_wp2_with fail
          refine (load256 HM.out.1 HLEN.out rfl).mono ?_
          rintro e w4 ⟨a4, c4, rfl, o4, b4⟩
          obtain ⟨g4, rfl⟩ := own_someO o4 (by have := HLEN.out; omega)
          have hs4 : wr.heap.size ≤ w4.heap.size := b4.size
          have hg4 : g4 < w4.heap.size := by obtain ⟨Z0, hb0, _⟩ := own_bytes o4; exact hb0.lt
          have M4 := hid (HM.out.1.mono b4); have B4 := hid (kept_trans HBEL.out b4); have O4 := hid o4
          clear b4 o4
          go_wp2_with fail
          refine (lasts256 M4.out HLEN.out rfl).mono ?_
          rintro e w5 ⟨a5, c5, rfl, o5, b5⟩
          have hs5 : w4.heap.size ≤ w5.heap.size := b5.size
          have M5 := hid (M4.out.mono b5); have B5 := hid (kept_trans B4.out b5); have P4 := hid (O4.out.mono b5); have O5 := hid o5
          clear b5 o5
          go_wp2_with fail
          refine (store_v M5.out B5.out qb RB.out _ HLP.out _ HE.out).mono ?_
          rintro e w6 ⟨rfl, m6, t6⟩
          have hs6 : w5.heap.size ≤ w6.heap.size := t6.size
          have M6 := hid m6; have B6 := hid (B5.out.trans (t6.below (B := w.heap.size) B5.out.size (fun k hk => by rcases hk with e | e <;> rw [e] <;> assumption)))
          have Q4 := hid (t6.own P4.out (fun k hk => by rcases hk with e | e <;> rw [e] <;> assumption)); have Q5 := hid (t6.own O5.out (fun k hk => by rcases hk with e | e <;> rw [e] <;> omega))
          clear m6 t6
          go_wp2_with fail
          refine (load256 M6.out ((storeU_len _ _ _).trans HLEN.out) HX.out).mono ?_
          rintro e w7 ⟨a7, c7, rfl, o7, b7⟩
          have hs7 : w6.heap.size ≤ w7.heap.size := b7.size
          have M7 := hid (M6.out.mono b7); have B7 := hid (kept_trans B6.out b7); have R4 := hid (Q4.out.mono b7); have R5 := hid (Q5.out.mono b7); have O7 := hid o7
          clear b7 o7
          go_wp2_with fail
          refine (lasts256 M7.out ((storeU_len _ _ _).trans HLEN.out) (storeU_D _ _ _)).mono ?_
          rintro e w8 ⟨a8, c8, rfl, o8, b8⟩
          have B8 := hid (kept_trans B7.out b8); have S4 := hid (R4.out.mono b8); have S5 := hid (R5.out.mono b8); have S7 := hid (O7.out.mono b8); have O8 := hid o8
          clear b8 o8
          go_wp2_with fail
          have B9 := B8; have R4' := S4; have R5' := S5; have R7' := S7; have R8' := O8
          have HXL := HLEN
          refine (same_256 HXL.out R7'.out.row R4'.out.row).mono ?_
          rintro e w10 ⟨rfl, b10⟩
          have B10 := hid (kept_trans B9.out b10); have T5 := hid (R5'.out.mono b10); have T8 := hid (R8'.out.mono b10)
          clear b10
          go_wp2_with fail
          refine (same_256 LD.out T8.out.row T5.out.row).mono ?_
          rintro e w11 ⟨rfl, b11⟩
          have B11 := hid (kept_trans B10.out b11)
          clear b11
          go_wp2_with fail
          refine (lives_any _).mono ?_
          rintro e w12 ⟨rfl, b12⟩
          have B12 := hid (kept_trans B11.out b12)
          clear b12
          go_wp2_with fail
          go_ret
          exact ⟨by simp, B12.out⟩
set_option maxHeartbeats 1000000 in
theorem else_long (w : World) (a : Option Addr) (n c : Nat) (f : Nat → DeedV) (r : RowD w a c n f) (q : Int) (qb : i64B q) (ab : Option Addr) (cb l0 l1 : Nat) (hl0 : l1 ≤ cb) (b : List UInt8) (rb : RowB w ab cb b) (hl00 : l0 = 100) (hlP : l0 = b.length) (dc : decide ((100 : Int) < (l1 : Int)) = true) :
    Calls Try.prog 7 #[.slice a n c, .int .i64 q, .slice ab l1 cb] w fun e w' => e = .returned (.bool true) ∧ Below w.heap.size w w' := by
  subst hl00
  have hnc := r.1
  have hc9 := r.2.1
  have RB := hid rb; have HR := hid r; have HLP := hid hlP
  clear rb r hlP
  have h100 : 100 ≤ cb := by have := of_decide_eq_true dc; omega
  go_enter Try.func7, Try.ntmps7
  go_wp2_with fail
  refine (new256 w).mono ?_
  rintro e w1 ⟨g, v, d, p, rfl, m1, h1, b1⟩
  have HM1 := hid m1; have HH1 := hid h1; have B1 := hid b1
  clear m1 h1 b1
  go_wp2_with fail
  refine (newR256 w1).mono ?_
  rintro e w2 ⟨g2, v2, d2, a2, rfl, m2, h2, b2⟩
  have hB0 := both_start HM1.out HH1.out B1.out m2 h2 b2
  have B2 := hid (kept_trans B1.out b2)
  clear m2 h2 b2 HM1 HH1 B1
  obtain ⟨K, rfl, rfl, rfl, rfl, rfl, rfl, rfl, rfl⟩ : ∃ K : MemK, K.gm = g ∧ K.vm = v ∧ K.dm = d ∧ K.pm = p ∧ K.gr = g2 ∧ K.vr = v2 ∧ K.dr = d2 ∧ K.ar = a2 := ⟨⟨g, v, d, p, g2, v2, d2, a2⟩, rfl, rfl, rfl, rfl, rfl, rfl, rfl, rfl⟩
  have HB0 := hid hB0
  clear hB0
  go_wp2_with fail
  go_loopw [9] (fun i  wr => ∃ (j : Nat) (M : MemM), j ≤ n ∧ j ≤ 30 ∧ i = .int .i64 j ∧ Both wr w.heap.size K M ∧ M.V.length = 256 ∧ Below w.heap.size w wr) (fun i  _ => n - (intOf i).toNat)
  case atStart => exact ⟨0, newM 256, Nat.zero_le _, Nat.zero_le _, rfl, HB0.out, newM_len _, B2.out⟩
  case round =>
    obtain ⟨j, M, hj, hj6, rfl, hm, hlen, hbel⟩ := hrel
    by_cases hlt : j < n ∧ j < 30
    · obtain ⟨hlt, hlt6⟩ := hlt
      have ltd : decide ((j : Int) < (n : Int)) = true := decide_eq_true (by omega)
      have ltd6 : decide ((j : Int) < 30) = true := decide_eq_true (by omega)
      obtain ⟨_, _, h3, _⟩ := HR.out.mono hbel
      obtain ⟨b, off, e, hbl, hc⟩ := h3 (by omega)
      subst e
      obtain ⟨x0, x1, x2, x3, x4⟩ := hc j hlt
      have HD := hid (does_any hm (f j).kind (f j).at_ (f j).n (f j).sa (f j).sc (f j).S (f j).pa (f j).pc (f j).P (HR.out.ok hbel hm.2.2.1 hlt))
      have HBL := hid hbel; have HMM := hid hm; have HLN := hid hlen
      clear hc h3 hm hbel hlen
      generalize (f j).kind = t0 at *
      generalize (f j).at_ = t1 at *
      generalize (f j).n = t2 at *
      generalize (f j).sa = t3 at *
      generalize (f j).sc = t4 at *
      generalize (f j).S.length = t5 at *
      generalize (f j).pa = t6 at *
      generalize (f j).pc = t7 at *
      generalize (f j).P.length = t8 at *
      go_wp2_with fail
      refine HD.out.mono ?_
      rintro e w3 ⟨rfl, M3, m3, l3, t3'⟩
      have B3 := hid (HBL.out.trans (doesP_below HMM.out HBL.out.size t3')); have MM3 := hid m3; have LL3 := hid (l3.trans HLN.out)
      clear m3 l3 t3' x0 x1 x2 x3 x4
      go_wp2_with fail
      go_roundw
      case rel => exact ⟨j + 1, M3, by omega, by omega, by go_num, MM3.out, LL3.out, B3.out⟩
      case measure => simp [intOf]; omega
    · have hex : (j < n ∧ ¬ j < 30) ∨ ¬ j < n := by omega
      have HM := hid hm; have HLEN := hid hlen; have HBEL := hid hbel
      clear hm hlen hbel hlt
      rcases hex with ⟨hn, hn6⟩ | hn
      · have ltd : decide ((j : Int) < (n : Int)) = true := decide_eq_true (by omega)
        have ltd6 : decide ((j : Int) < 30) = false := decide_eq_false (by omega)
        clear hn6
        obtain ⟨_, kv, kd, kp, _⟩ := HM.out.2.2.1
        obtain ⟨_, _, _, _, _, _, _, vl, dl, pl⟩ := mem_apart HM.out.1
        have LD : Hid (M.D.length = 256) := hid (HM.out.1.1.1.trans HLEN.out)
        rcases inM_cases M q b with ⟨Q, hQ, hQl⟩ | hout
        · subst hQ
          have HX := hid (storeU_in hQl).1; have HE := hid (storeU_in hQl).2
          have HIN : Hid (Q + b.length ≤ 256) := hid (by have := HLEN.out; omega)
          have hq256 : Q + 100 ≤ 256 := by have := HIN.out; have := HLP.out; omega
          clear hQl
          go_wp2_with fail
          refine (load256 HM.out.1 HLEN.out rfl).mono ?_
          rintro e w4 ⟨a4, c4, rfl, o4, b4⟩
          obtain ⟨g4, rfl⟩ := own_someO o4 (by have := HLEN.out; omega)
          have hs4 : wr.heap.size ≤ w4.heap.size := b4.size
          have hg4 : g4 < w4.heap.size := by obtain ⟨Z0, hb0, _⟩ := own_bytes o4; exact hb0.lt
          have M4 := hid (HM.out.1.mono b4); have B4 := hid (kept_trans HBEL.out b4); have O4 := hid o4
          clear b4 o4
          go_wp2_with fail
          refine (lasts256 M4.out HLEN.out rfl).mono ?_
          rintro e w5 ⟨a5, c5, rfl, o5, b5⟩
          have hs5 : w4.heap.size ≤ w5.heap.size := b5.size
          have M5 := hid (M4.out.mono b5); have B5 := hid (kept_trans B4.out b5); have P4 := hid (O4.out.mono b5); have O5 := hid o5
          clear b5 o5
          go_wp2_with fail
          refine (store_v M5.out B5.out qb RB.out _ HLP.out _ HE.out).mono ?_
          rintro e w6 ⟨rfl, m6, t6⟩
          have hs6 : w5.heap.size ≤ w6.heap.size := t6.size
          have M6 := hid m6; have B6 := hid (B5.out.trans (t6.below (B := w.heap.size) B5.out.size (fun k hk => by rcases hk with e | e <;> rw [e] <;> assumption)))
          have Q4 := hid (t6.own P4.out (fun k hk => by rcases hk with e | e <;> rw [e] <;> assumption)); have Q5 := hid (t6.own O5.out (fun k hk => by rcases hk with e | e <;> rw [e] <;> omega))
          clear m6 t6
          go_wp2_with fail
          refine (load256 M6.out ((storeU_len _ _ _).trans HLEN.out) HX.out).mono ?_
          rintro e w7 ⟨a7, c7, rfl, o7, b7⟩
          have hs7 : w6.heap.size ≤ w7.heap.size := b7.size
          have M7 := hid (M6.out.mono b7); have B7 := hid (kept_trans B6.out b7); have R4 := hid (Q4.out.mono b7); have R5 := hid (Q5.out.mono b7); have O7 := hid o7
          clear b7 o7
          go_wp2_with fail
          refine (lasts256 M7.out ((storeU_len _ _ _).trans HLEN.out) (storeU_D _ _ _)).mono ?_
          rintro e w8 ⟨a8, c8, rfl, o8, b8⟩
          have B8 := hid (kept_trans B7.out b8); have S4 := hid (R4.out.mono b8); have S5 := hid (R5.out.mono b8); have S7 := hid (O7.out.mono b8); have O8 := hid o8
          clear b8 o8
          go_wp2_with fail
          obtain ⟨Z, hblk, _, _, hZc⟩ := own_bytes S4.out
          have HZc := hid hZc; have HBL := hid hblk
          clear hZc hblk
          go_loopw [19] (fun i wr => ∃ (k : Nat), k ≤ 100 ∧ i = .int .i64 k ∧ Blk wr g4 5 ((splice M.V Q (b.take k)).map byteV ++ Z) ∧ Turns (fun x => x = g4) w8 wr) (fun i _ => 100 - (intOf i).toNat)
          case atStart => exact ⟨0, Nat.zero_le _, rfl, by rw [List.take_zero, splice_nil]; exact HBL.out, Turns.refl _ _⟩
          case round =>
            obtain ⟨k, hk, rfl, kb, tt⟩ := hrel
            by_cases hkl : k < 100
            · have kd2 : decide ((k : Int) < (100 : Int)) = true := decide_eq_true (by omega)
              have hkb : k < b.length := by have := HLP.out; omega
              have hVl := HLEN.out
              have hin := HIN.out
              have e1 : (splice M.V Q (b.take k)).length = 256 := (length_splice _ _ _ (by simp; omega)).trans hVl
              obtain ⟨bb, off, e9, hbl, hc9⟩ := (RB.out.mono (B8.out)).bytes (by omega)
              have hcell := hc9 k hkb
              have hbn : bb ≠ g4 := by
                obtain ⟨bb', off', e9', hbl', _⟩ := RB.out.bytes (by omega)
                rw [e9] at e9'
                cases e9'
                obtain ⟨_, _, hq, _⟩ := own_bytes O4.out
                have := HBEL.out.size
                omega
              have hcr : wr.cell? ⟨bb, off + k, none⟩ = some (.int .u8 (bAt b k : Int)) := (World.cell?_of_block (tt.block bb hbl hbn)).trans hcell
              subst e9
              obtain ⟨v0, c0⟩ := Blk.someCell kb (i := Q + k) (by simp [e1]; omega)
              have f0 := Blk.frozen kb (Q + k)
              have hK : Q + k < 256 := by omega
              have s0 : Hid (∀ X, Blk X g4 5 ((splice M.V Q (b.take k)).map byteV ++ Z) → Blk (X.setCell ⟨g4, Q + k, none⟩ (.int .u8 (bAt b k : Int))) g4 5 ((splice M.V Q (b.take (k + 1))).map byteV ++ Z)) := hid (fun X hX => by
                have := Blk.set hX (Q + k) (byteV (b.getD k 0))
                rw [bytes_set _ _ (by rw [e1]; omega), splice_put (by omega) hkb] at this
                exact this)
              have KB := hid kb; have TT := hid tt
              clear kb tt hc9 hcell hbl hbn e1 hVl hin hkb
              have eK : (Q : Int) + (k : Int) = ((Q + k : Nat) : Int) := by omega
              obtain ⟨KK, hKK⟩ : ∃ KK, KK = Q + k := ⟨_, rfl⟩
              rw [← hKK] at eK hK c0 f0
              rw [← hKK] at s0
              clear hKK
              go_wp2_with fail
              go_roundw
              case rel => exact ⟨k + 1, by omega, by go_num, s0.out _ KB.out, TT.out.setIn rfl _ _⟩
              case measure => simp [intOf]; omega
            · have hke : k = 100 := by omega
              have kd2 : decide ((k : Int) < (100 : Int)) = false := decide_eq_false (by omega)
              have hrow := blk_row kb (c := c4) (by
                have := HZc.out
                rw [length_splice _ _ _ (by have := HIN.out; have := HLEN.out; have := HLP.out; simp; omega)]
                omega) (by have := rowB_len S4.out.row; have := S4.out.row.2.2.1; unfold maxLen at this; omega)
              rw [List.take_of_length_le (by have := HLP.out; omega)] at hrow
              have hrl : (splice M.V Q b).length = 256 := (length_splice _ _ _ (by have := HIN.out; have := HLEN.out; omega)).trans HLEN.out
              have R4' := hid hrow
              have R5' := hid (tt.own S5.out (fun k hk => by rw [hk]; omega)); have R7' := hid (tt.own S7.out (fun k hk => by rw [hk]; omega)); have R8' := hid (tt.own O8.out (fun k hk => by rw [hk]; omega))
              have B9 := hid (B8.out.trans (tt.below (B := w.heap.size) B8.out.size (fun k hk => by rw [hk]; omega)))
              have HXL := hid hrl
              clear kb tt hrow hrl
              go_wp2_with fail
              refine (same_256 HXL.out R7'.out.row R4'.out).mono ?_
              rintro e w10 ⟨rfl, b10⟩
              have B10 := hid (kept_trans B9.out b10); have T5 := hid (R5'.out.mono b10); have T8 := hid (R8'.out.mono b10)
              clear b10
              go_wp2_with fail
              refine (same_256 LD.out T8.out.row T5.out.row).mono ?_
              rintro e w11 ⟨rfl, b11⟩
              have B11 := hid (kept_trans B10.out b11)
              clear b11
              go_wp2_with fail
              refine (lives_any _).mono ?_
              rintro e w12 ⟨rfl, b12⟩
              have B12 := hid (kept_trans B11.out b12)
              clear b12
              go_wp2_with fail
              go_ret
              exact ⟨by simp, B12.out⟩
        · have HX := hid (storeU_out hout).1; have HE := hid (storeU_out hout).2
          clear hout
          go_wp2_with fail
          refine (load256 HM.out.1 HLEN.out rfl).mono ?_
          rintro e w4 ⟨a4, c4, rfl, o4, b4⟩
          obtain ⟨g4, rfl⟩ := own_someO o4 (by have := HLEN.out; omega)
          have hs4 : wr.heap.size ≤ w4.heap.size := b4.size
          have hg4 : g4 < w4.heap.size := by obtain ⟨Z0, hb0, _⟩ := own_bytes o4; exact hb0.lt
          have M4 := hid (HM.out.1.mono b4); have B4 := hid (kept_trans HBEL.out b4); have O4 := hid o4
          clear b4 o4
          go_wp2_with fail
          refine (lasts256 M4.out HLEN.out rfl).mono ?_
          rintro e w5 ⟨a5, c5, rfl, o5, b5⟩
          have hs5 : w4.heap.size ≤ w5.heap.size := b5.size
          have M5 := hid (M4.out.mono b5); have B5 := hid (kept_trans B4.out b5); have P4 := hid (O4.out.mono b5); have O5 := hid o5
          clear b5 o5
          go_wp2_with fail
          refine (store_v M5.out B5.out qb RB.out _ HLP.out _ HE.out).mono ?_
          rintro e w6 ⟨rfl, m6, t6⟩
          have hs6 : w5.heap.size ≤ w6.heap.size := t6.size
          have M6 := hid m6; have B6 := hid (B5.out.trans (t6.below (B := w.heap.size) B5.out.size (fun k hk => by rcases hk with e | e <;> rw [e] <;> assumption)))
          have Q4 := hid (t6.own P4.out (fun k hk => by rcases hk with e | e <;> rw [e] <;> assumption)); have Q5 := hid (t6.own O5.out (fun k hk => by rcases hk with e | e <;> rw [e] <;> omega))
          clear m6 t6
          go_wp2_with fail
          refine (load256 M6.out ((storeU_len _ _ _).trans HLEN.out) HX.out).mono ?_
          rintro e w7 ⟨a7, c7, rfl, o7, b7⟩
          have hs7 : w6.heap.size ≤ w7.heap.size := b7.size
          have M7 := hid (M6.out.mono b7); have B7 := hid (kept_trans B6.out b7); have R4 := hid (Q4.out.mono b7); have R5 := hid (Q5.out.mono b7); have O7 := hid o7
          clear b7 o7
          go_wp2_with fail
          refine (lasts256 M7.out ((storeU_len _ _ _).trans HLEN.out) (storeU_D _ _ _)).mono ?_
          rintro e w8 ⟨a8, c8, rfl, o8, b8⟩
          have B8 := hid (kept_trans B7.out b8); have S4 := hid (R4.out.mono b8); have S5 := hid (R5.out.mono b8); have S7 := hid (O7.out.mono b8); have O8 := hid o8
          clear b8 o8
          go_wp2_with fail
          have B9 := B8; have R4' := S4; have R5' := S5; have R7' := S7; have R8' := O8
          have HXL := HLEN
          refine (same_256 HXL.out R7'.out.row R4'.out.row).mono ?_
          rintro e w10 ⟨rfl, b10⟩
          have B10 := hid (kept_trans B9.out b10); have T5 := hid (R5'.out.mono b10); have T8 := hid (R8'.out.mono b10)
          clear b10
          go_wp2_with fail
          refine (same_256 LD.out T8.out.row T5.out.row).mono ?_
          rintro e w11 ⟨rfl, b11⟩
          have B11 := hid (kept_trans B10.out b11)
          clear b11
          go_wp2_with fail
          refine (lives_any _).mono ?_
          rintro e w12 ⟨rfl, b12⟩
          have B12 := hid (kept_trans B11.out b12)
          clear b12
          go_wp2_with fail
          go_ret
          exact ⟨by simp, B12.out⟩
      · have ltd : decide ((j : Int) < (n : Int)) = false := decide_eq_false (by omega)
        obtain ⟨_, kv, kd, kp, _⟩ := HM.out.2.2.1
        obtain ⟨_, _, _, _, _, _, _, vl, dl, pl⟩ := mem_apart HM.out.1
        have LD : Hid (M.D.length = 256) := hid (HM.out.1.1.1.trans HLEN.out)
        rcases inM_cases M q b with ⟨Q, hQ, hQl⟩ | hout
        · subst hQ
          have HX := hid (storeU_in hQl).1; have HE := hid (storeU_in hQl).2
          have HIN : Hid (Q + b.length ≤ 256) := hid (by have := HLEN.out; omega)
          have hq256 : Q + 100 ≤ 256 := by have := HIN.out; have := HLP.out; omega
          clear hQl
          go_wp2_with fail
          refine (load256 HM.out.1 HLEN.out rfl).mono ?_
          rintro e w4 ⟨a4, c4, rfl, o4, b4⟩
          obtain ⟨g4, rfl⟩ := own_someO o4 (by have := HLEN.out; omega)
          have hs4 : wr.heap.size ≤ w4.heap.size := b4.size
          have hg4 : g4 < w4.heap.size := by obtain ⟨Z0, hb0, _⟩ := own_bytes o4; exact hb0.lt
          have M4 := hid (HM.out.1.mono b4); have B4 := hid (kept_trans HBEL.out b4); have O4 := hid o4
          clear b4 o4
          go_wp2_with fail
          refine (lasts256 M4.out HLEN.out rfl).mono ?_
          rintro e w5 ⟨a5, c5, rfl, o5, b5⟩
          have hs5 : w4.heap.size ≤ w5.heap.size := b5.size
          have M5 := hid (M4.out.mono b5); have B5 := hid (kept_trans B4.out b5); have P4 := hid (O4.out.mono b5); have O5 := hid o5
          clear b5 o5
          go_wp2_with fail
          refine (store_v M5.out B5.out qb RB.out _ HLP.out _ HE.out).mono ?_
          rintro e w6 ⟨rfl, m6, t6⟩
          have hs6 : w5.heap.size ≤ w6.heap.size := t6.size
          have M6 := hid m6; have B6 := hid (B5.out.trans (t6.below (B := w.heap.size) B5.out.size (fun k hk => by rcases hk with e | e <;> rw [e] <;> assumption)))
          have Q4 := hid (t6.own P4.out (fun k hk => by rcases hk with e | e <;> rw [e] <;> assumption)); have Q5 := hid (t6.own O5.out (fun k hk => by rcases hk with e | e <;> rw [e] <;> omega))
          clear m6 t6
          go_wp2_with fail
          refine (load256 M6.out ((storeU_len _ _ _).trans HLEN.out) HX.out).mono ?_
          rintro e w7 ⟨a7, c7, rfl, o7, b7⟩
          have hs7 : w6.heap.size ≤ w7.heap.size := b7.size
          have M7 := hid (M6.out.mono b7); have B7 := hid (kept_trans B6.out b7); have R4 := hid (Q4.out.mono b7); have R5 := hid (Q5.out.mono b7); have O7 := hid o7
          clear b7 o7
          go_wp2_with fail
          refine (lasts256 M7.out ((storeU_len _ _ _).trans HLEN.out) (storeU_D _ _ _)).mono ?_
          rintro e w8 ⟨a8, c8, rfl, o8, b8⟩
          have B8 := hid (kept_trans B7.out b8); have S4 := hid (R4.out.mono b8); have S5 := hid (R5.out.mono b8); have S7 := hid (O7.out.mono b8); have O8 := hid o8
          clear b8 o8
          go_wp2_with fail
          obtain ⟨Z, hblk, _, _, hZc⟩ := own_bytes S4.out
          have HZc := hid hZc; have HBL := hid hblk
          clear hZc hblk
          go_loopw [19] (fun i wr => ∃ (k : Nat), k ≤ 100 ∧ i = .int .i64 k ∧ Blk wr g4 5 ((splice M.V Q (b.take k)).map byteV ++ Z) ∧ Turns (fun x => x = g4) w8 wr) (fun i _ => 100 - (intOf i).toNat)
          case atStart => exact ⟨0, Nat.zero_le _, rfl, by rw [List.take_zero, splice_nil]; exact HBL.out, Turns.refl _ _⟩
          case round =>
            obtain ⟨k, hk, rfl, kb, tt⟩ := hrel
            by_cases hkl : k < 100
            · have kd2 : decide ((k : Int) < (100 : Int)) = true := decide_eq_true (by omega)
              have hkb : k < b.length := by have := HLP.out; omega
              have hVl := HLEN.out
              have hin := HIN.out
              have e1 : (splice M.V Q (b.take k)).length = 256 := (length_splice _ _ _ (by simp; omega)).trans hVl
              obtain ⟨bb, off, e9, hbl, hc9⟩ := (RB.out.mono (B8.out)).bytes (by omega)
              have hcell := hc9 k hkb
              have hbn : bb ≠ g4 := by
                obtain ⟨bb', off', e9', hbl', _⟩ := RB.out.bytes (by omega)
                rw [e9] at e9'
                cases e9'
                obtain ⟨_, _, hq, _⟩ := own_bytes O4.out
                have := HBEL.out.size
                omega
              have hcr : wr.cell? ⟨bb, off + k, none⟩ = some (.int .u8 (bAt b k : Int)) := (World.cell?_of_block (tt.block bb hbl hbn)).trans hcell
              subst e9
              obtain ⟨v0, c0⟩ := Blk.someCell kb (i := Q + k) (by simp [e1]; omega)
              have f0 := Blk.frozen kb (Q + k)
              have hK : Q + k < 256 := by omega
              have s0 : Hid (∀ X, Blk X g4 5 ((splice M.V Q (b.take k)).map byteV ++ Z) → Blk (X.setCell ⟨g4, Q + k, none⟩ (.int .u8 (bAt b k : Int))) g4 5 ((splice M.V Q (b.take (k + 1))).map byteV ++ Z)) := hid (fun X hX => by
                have := Blk.set hX (Q + k) (byteV (b.getD k 0))
                rw [bytes_set _ _ (by rw [e1]; omega), splice_put (by omega) hkb] at this
                exact this)
              have KB := hid kb; have TT := hid tt
              clear kb tt hc9 hcell hbl hbn e1 hVl hin hkb
              have eK : (Q : Int) + (k : Int) = ((Q + k : Nat) : Int) := by omega
              obtain ⟨KK, hKK⟩ : ∃ KK, KK = Q + k := ⟨_, rfl⟩
              rw [← hKK] at eK hK c0 f0
              rw [← hKK] at s0
              clear hKK
              go_wp2_with fail
              go_roundw
              case rel => exact ⟨k + 1, by omega, by go_num, s0.out _ KB.out, TT.out.setIn rfl _ _⟩
              case measure => simp [intOf]; omega
            · have hke : k = 100 := by omega
              have kd2 : decide ((k : Int) < (100 : Int)) = false := decide_eq_false (by omega)
              have hrow := blk_row kb (c := c4) (by
                have := HZc.out
                rw [length_splice _ _ _ (by have := HIN.out; have := HLEN.out; have := HLP.out; simp; omega)]
                omega) (by have := rowB_len S4.out.row; have := S4.out.row.2.2.1; unfold maxLen at this; omega)
              rw [List.take_of_length_le (by have := HLP.out; omega)] at hrow
              have hrl : (splice M.V Q b).length = 256 := (length_splice _ _ _ (by have := HIN.out; have := HLEN.out; omega)).trans HLEN.out
              have R4' := hid hrow
              have R5' := hid (tt.own S5.out (fun k hk => by rw [hk]; omega)); have R7' := hid (tt.own S7.out (fun k hk => by rw [hk]; omega)); have R8' := hid (tt.own O8.out (fun k hk => by rw [hk]; omega))
              have B9 := hid (B8.out.trans (tt.below (B := w.heap.size) B8.out.size (fun k hk => by rw [hk]; omega)))
              have HXL := hid hrl
              clear kb tt hrow hrl
              go_wp2_with fail
              refine (same_256 HXL.out R7'.out.row R4'.out).mono ?_
              rintro e w10 ⟨rfl, b10⟩
              have B10 := hid (kept_trans B9.out b10); have T5 := hid (R5'.out.mono b10); have T8 := hid (R8'.out.mono b10)
              clear b10
              go_wp2_with fail
              refine (same_256 LD.out T8.out.row T5.out.row).mono ?_
              rintro e w11 ⟨rfl, b11⟩
              have B11 := hid (kept_trans B10.out b11)
              clear b11
              go_wp2_with fail
              refine (lives_any _).mono ?_
              rintro e w12 ⟨rfl, b12⟩
              have B12 := hid (kept_trans B11.out b12)
              clear b12
              go_wp2_with fail
              go_ret
              exact ⟨by simp, B12.out⟩
        · have HX := hid (storeU_out hout).1; have HE := hid (storeU_out hout).2
          clear hout
          go_wp2_with fail
          refine (load256 HM.out.1 HLEN.out rfl).mono ?_
          rintro e w4 ⟨a4, c4, rfl, o4, b4⟩
          obtain ⟨g4, rfl⟩ := own_someO o4 (by have := HLEN.out; omega)
          have hs4 : wr.heap.size ≤ w4.heap.size := b4.size
          have hg4 : g4 < w4.heap.size := by obtain ⟨Z0, hb0, _⟩ := own_bytes o4; exact hb0.lt
          have M4 := hid (HM.out.1.mono b4); have B4 := hid (kept_trans HBEL.out b4); have O4 := hid o4
          clear b4 o4
          go_wp2_with fail
          refine (lasts256 M4.out HLEN.out rfl).mono ?_
          rintro e w5 ⟨a5, c5, rfl, o5, b5⟩
          have hs5 : w4.heap.size ≤ w5.heap.size := b5.size
          have M5 := hid (M4.out.mono b5); have B5 := hid (kept_trans B4.out b5); have P4 := hid (O4.out.mono b5); have O5 := hid o5
          clear b5 o5
          go_wp2_with fail
          refine (store_v M5.out B5.out qb RB.out _ HLP.out _ HE.out).mono ?_
          rintro e w6 ⟨rfl, m6, t6⟩
          have hs6 : w5.heap.size ≤ w6.heap.size := t6.size
          have M6 := hid m6; have B6 := hid (B5.out.trans (t6.below (B := w.heap.size) B5.out.size (fun k hk => by rcases hk with e | e <;> rw [e] <;> assumption)))
          have Q4 := hid (t6.own P4.out (fun k hk => by rcases hk with e | e <;> rw [e] <;> assumption)); have Q5 := hid (t6.own O5.out (fun k hk => by rcases hk with e | e <;> rw [e] <;> omega))
          clear m6 t6
          go_wp2_with fail
          refine (load256 M6.out ((storeU_len _ _ _).trans HLEN.out) HX.out).mono ?_
          rintro e w7 ⟨a7, c7, rfl, o7, b7⟩
          have hs7 : w6.heap.size ≤ w7.heap.size := b7.size
          have M7 := hid (M6.out.mono b7); have B7 := hid (kept_trans B6.out b7); have R4 := hid (Q4.out.mono b7); have R5 := hid (Q5.out.mono b7); have O7 := hid o7
          clear b7 o7
          go_wp2_with fail
          refine (lasts256 M7.out ((storeU_len _ _ _).trans HLEN.out) (storeU_D _ _ _)).mono ?_
          rintro e w8 ⟨a8, c8, rfl, o8, b8⟩
          have B8 := hid (kept_trans B7.out b8); have S4 := hid (R4.out.mono b8); have S5 := hid (R5.out.mono b8); have S7 := hid (O7.out.mono b8); have O8 := hid o8
          clear b8 o8
          go_wp2_with fail
          have B9 := B8; have R4' := S4; have R5' := S5; have R7' := S7; have R8' := O8
          have HXL := HLEN
          refine (same_256 HXL.out R7'.out.row R4'.out.row).mono ?_
          rintro e w10 ⟨rfl, b10⟩
          have B10 := hid (kept_trans B9.out b10); have T5 := hid (R5'.out.mono b10); have T8 := hid (R8'.out.mono b10)
          clear b10
          go_wp2_with fail
          refine (same_256 LD.out T8.out.row T5.out.row).mono ?_
          rintro e w11 ⟨rfl, b11⟩
          have B11 := hid (kept_trans B10.out b11)
          clear b11
          go_wp2_with fail
          refine (lives_any _).mono ?_
          rintro e w12 ⟨rfl, b12⟩
          have B12 := hid (kept_trans B11.out b12)
          clear b12
          go_wp2_with fail
          go_ret
          exact ⟨by simp, B12.out⟩

theorem PmemElse_walk (w : World) (a : Option Addr) (n c : Nat) (f : Nat → DeedV) (r : RowD w a c n f) (q : Int) (wq : (Lit.int .i64 q).wf = true) (ab : Option Addr) (cb : Nat) (b : List UInt8) (rb : RowB w ab cb b) :
    Calls Try.prog 7 #[.slice a n c, .int .i64 q, .slice ab b.length cb] w fun e w' => e = .returned (.bool true) ∧ Below w.heap.size w w' := by
  have hcp : b.length ≤ cb := by have := rb.2.1; simpa using this
  by_cases h : b.length ≤ 100
  · exact else_short w a n c f r q (i64_bd wq) ab cb _ hcp b rb rfl (decide_eq_false (by omega))
  · exact else_long w a n c f r q (i64_bd wq) ab cb 100 _ hcp (b.take 100) (rowB_take rb 100) rfl (by rw [List.length_take]; omega) (decide_eq_true (by omega))
end Go.Proofs.Ytcgekooahahjpaa
