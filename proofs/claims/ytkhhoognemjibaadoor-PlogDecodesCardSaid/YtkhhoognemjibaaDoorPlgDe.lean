/- PlogDecodes, PlogRound. -/
import Derived.Test.YtkhhoognemjibaaDoorPlgDr
import Derived.Test.YtkhhoognemjibaaDoorPlgSp
import Derived.Test.YtkhhoognemjibaaDoorPlgEn
namespace Go.Proofs.YtkhhoognemjibaaDoor
open Go.RowKit
set_option linter.unusedSimpArgs false
set_option linter.unusedVariables false
set_option maxRecDepth 100000

theorem decodes_both {w : World} {a : Option Addr} {c : Nat} {xs : List UInt8} (r : RowB w a c xs) (hl : xs.length ≤ 1000000) (L : List PtM) (n e : Int) (h : decD xs = (L, n, e)) :
    (Calls Tryd.prog 14 #[.slice a xs.length c] w fun en w' => ∃ la lc, en = .returned (.tuple #[.slice la L.length lc, .int .i64 n, .int .i64 e]) ∧ OwnPt w' w.heap.size la lc L ∧ Below w.heap.size w w') ∧
    (Calls Tryd.prog 15 #[.slice a xs.length c] w fun en w' => ∃ la lc, en = .returned (.tuple #[.slice la L.length lc, .int .i64 n, .int .i64 e]) ∧ OwnPt w' w.heap.size la lc L ∧ Below w.heap.size w w') := by
  constructor
  · refine (decode_any r hl).mono ?_
    rintro en w' ⟨v, rfl, la, lc, rfl, o, b⟩
    rw [h] at o ⊢
    exact ⟨la, lc, rfl, o, b⟩
  · refine (decodeR_any r hl).mono ?_
    rw [← decD_decR]
    rintro en w' ⟨v, rfl, la, lc, rfl, o, b⟩
    rw [h] at o ⊢
    exact ⟨la, lc, rfl, o, b⟩

set_option maxHeartbeats 4000000 in
theorem PlogDecodes_walk (w : World) (a : Option Addr) (c : Nat) (xs : List UInt8) (ha : RowB w a c xs) :
    Calls Tryd.prog 4 #[.slice a xs.length c] w fun e w' => e = .returned (.bool true) ∧ Below w.heap.size w w' := by
  obtain ⟨ys, hys⟩ : ∃ ys, ys = xs.take 600 := ⟨_, rfl⟩
  have ry : RowB w a c ys := by rw [hys]; exact rowB_take ha 600
  have ly : ys.length ≤ 600 := by rw [hys, List.length_take]; omega
  obtain ⟨L, n, e, hD⟩ : ∃ L n e, decD ys = (L, n, e) := ⟨_, _, _, rfl⟩
  have hk : L.length ≤ 1000000 := by have := decD_ok ys; rw [hD] at this; exact Nat.le_trans this.2.2 (by omega)
  have HD : Hid (∀ W, RowB W a c ys → (Calls Tryd.prog 14 #[.slice a ys.length c] W fun en w' => ∃ la lc, en = .returned (.tuple #[.slice la L.length lc, .int .i64 n, .int .i64 e]) ∧ OwnPt w' W.heap.size la lc L ∧ Below W.heap.size W w') ∧
      (Calls Tryd.prog 15 #[.slice a ys.length c] W fun en w' => ∃ la lc, en = .returned (.tuple #[.slice la L.length lc, .int .i64 n, .int .i64 e]) ∧ OwnPt w' W.heap.size la lc L ∧ Below W.heap.size W w')) :=
    hid (fun W r => decodes_both r (by omega) L n e hD)
  have HK := hid hk
  have RY := hid ry
  have hc := ha.2.1
  clear hD hk ry
  by_cases hl : 600 < xs.length
  · have hly : ys.length = 600 := by rw [hys, List.length_take]; omega
    have d1 : decide ((600 : Int) < (xs.length : Int)) = true := decide_eq_true (by omega)
    have hc6 : 600 ≤ c := by omega
    rw [hly] at HD
    clear hys ha
    obtain ⟨lx, hlx⟩ : ∃ lx, lx = xs.length := ⟨_, rfl⟩
    rw [← hlx] at d1 hc hl ⊢
    clear hlx
    go_enter Tryd.func4, Tryd.ntmps4
    go_wp2_with fail
    refine (HD.out w RY.out).1.mono ?_
    rintro en w1 ⟨la, lc, rfl, o1, b1⟩
    have R1 := hid (Own.row o1); have B1 := hid b1; have RY1 := hid (Row.mono RY.out b1)
    clear o1 b1
    go_wp2_with fail
    refine (HD.out w1 RY1.out).2.mono ?_
    rintro en w2 ⟨da, dc, rfl, o2, b2⟩
    have R2 := hid (Row.mono R1.out b2); have Q2 := hid (Own.row o2); have B2 := hid (kept_trans B1.out b2)
    clear o2 b2
    go_wp2_with fail
    refine (samePts_eq R2.out Q2.out HK.out).mono ?_
    rintro en w3 ⟨rfl, b3⟩
    have B3 := hid (kept_trans B2.out b3)
    clear b3
    go_wp2_with fail
    refine (lives08_any _).mono ?_
    rintro en w5 ⟨rfl, b5⟩
    have B5 := hid (kept_trans B3.out b5)
    clear b5
    go_wp2_with fail
    go_ret
    exact ⟨rfl, B5.out⟩
  · have hyx : ys = xs := by rw [hys, List.take_of_length_le (by omega)]
    have d1 : decide ((600 : Int) < (xs.length : Int)) = false := decide_eq_false (by omega)
    clear hys ha
    subst hyx
    go_enter Tryd.func4, Tryd.ntmps4
    go_wp2_with fail
    refine (HD.out w RY.out).1.mono ?_
    rintro en w1 ⟨la, lc, rfl, o1, b1⟩
    have R1 := hid (Own.row o1); have B1 := hid b1; have RY1 := hid (Row.mono RY.out b1)
    clear o1 b1
    go_wp2_with fail
    refine (HD.out w1 RY1.out).2.mono ?_
    rintro en w2 ⟨da, dc, rfl, o2, b2⟩
    have R2 := hid (Row.mono R1.out b2); have Q2 := hid (Own.row o2); have B2 := hid (kept_trans B1.out b2)
    clear o2 b2
    go_wp2_with fail
    refine (samePts_eq R2.out Q2.out HK.out).mono ?_
    rintro en w3 ⟨rfl, b3⟩
    have B3 := hid (kept_trans B2.out b3)
    clear b3
    go_wp2_with fail
    refine (lives08_any _).mono ?_
    rintro en w5 ⟨rfl, b5⟩
    have B5 := hid (kept_trans B3.out b5)
    clear b5
    go_wp2_with fail
    go_ret
    exact ⟨rfl, B5.out⟩
set_option maxHeartbeats 8000000 in
theorem PlogRound_walk (w : World) (a : Option Addr) (c : Nat) (L : List PtM) (r : RowPt w a c L) (k : inPts L) (a2 : Option Addr) (c2 : Nat) (xs : List UInt8) (hx : RowB w a2 c2 xs) :
    Calls Tryd.prog 5 #[.slice a L.length c, .slice a2 xs.length c2] w fun e w' => e = .returned (.bool true) ∧ Below w.heap.size w w' := by
  have hF := hid (few_any r (Nat.le_trans k.2.2 (by unfold maxLen; omega)))
  obtain ⟨K, hK⟩ : ∃ K, K = cutP 70 300 L := ⟨_, rfl⟩
  have okK : okPts K := by rw [hK]; exact cutP_ok k.1
  have lenK : K.length ≤ 70 := by rw [hK]; exact cutP_len _ _ _
  rw [← hK] at hF
  obtain ⟨E, hE⟩ : ∃ E, E = encL K := ⟨_, rfl⟩
  obtain ⟨n, hn⟩ : ∃ n, n = encE K := ⟨_, rfl⟩
  have hEl : E.length ≤ 20000 := by rw [hE]; exact encL_len
  have HE1 : Hid (∀ W a1 c1, RowPt W a1 c1 K → Calls Tryd.prog 10 #[.slice a1 K.length c1] W fun e w' => ∃ ba bc, e = .returned (.tuple #[.slice ba E.length bc, .int .i64 n]) ∧ OwnB w' W.heap.size ba bc E ∧ Below W.heap.size W w') :=
    hid (fun W a1 c1 h => by rw [hE, hn]; exact encode_any h okK (by omega))
  have HKL := hid lenK
  clear k
  by_cases hok : encOk K = true
  case neg =>
    have hn1 : n = 1 := by rw [hn]; exact if_neg hok
    clear hE hn hK hok lenK
    subst hn1
    go_enter Tryd.func5, Tryd.ntmps5
    go_wp2_with fail
    refine hF.out.mono ?_
    rintro e w1 ⟨la, lc, rfl, o1, b1⟩
    have R1 := hid (Own.row o1); have B1 := hid b1
    clear o1 b1
    go_wp2_with fail
    refine (HE1.out w1 la lc R1.out).mono ?_
    rintro e w2 ⟨ba, bc, rfl, o2, b2⟩
    have B2 := hid (kept_trans B1.out b2)
    clear o2 b2
    go_wp2_with fail
    refine (lives08_any _).mono ?_
    rintro en w5 ⟨rfl, b5⟩
    have B5 := hid (kept_trans B2.out b5)
    clear b5
    go_wp2_with fail
    go_ret
    exact ⟨rfl, B5.out⟩
  have hn0 : n = 0 := by rw [hn]; exact if_pos hok
  obtain ⟨ys, hys⟩ : ∃ ys, ys = xs.take 50 := ⟨_, rfl⟩
  have ry : RowB w a2 c2 ys := by rw [hys]; exact rowB_take hx 50
  have ly : ys.length ≤ 50 := by rw [hys, List.length_take]; omega
  have hdec : decD (E ++ ys) = (K, (E.length : Int), 0) := by rw [hE]; exact decD_enc hok ys
  have HD : Hid (∀ W a6 c6, RowB W a6 c6 (E ++ ys) → Calls Tryd.prog 14 #[.slice a6 (E ++ ys).length c6] W fun en w' => ∃ la lc, en = .returned (.tuple #[.slice la K.length lc, .int .i64 (E.length : Int), .int .i64 0]) ∧ OwnPt w' W.heap.size la lc K ∧ Below W.heap.size W w') :=
    hid (fun W a6 c6 r6 => (decodes_both r6 (by rw [List.length_append]; omega) K _ 0 hdec).1)
  have em8 : (E.length : Int).tmod 8 = 0 := by
    have : E.length % 8 = 0 := by rw [hE]; exact encL_mod
    show ((E.length % 8 : Nat) : Int) = 0
    rw [this]; rfl
  have ew : IntKind.i64.wrap 0 = 0 := rfl
  have RY := hid ry
  have hc := hx.2.1
  clear hE hn hK hok lenK hdec ry
  subst hn0
  by_cases hl : 50 < xs.length
  · have hly : ys.length = 50 := by rw [hys, List.length_take]; omega
    have d1 : decide ((50 : Int) < (xs.length : Int)) = true := decide_eq_true (by omega)
    have hc6 : 50 ≤ c2 := by omega
    have RY : Hid (Row w 1 a2 50 c2 (ys.map byteV)) := hid (by have := RY.out; unfold RowB at this; rw [hly] at this; exact this)
    clear hys hx
    obtain ⟨lx, hlx⟩ : ∃ lx, lx = xs.length := ⟨_, rfl⟩
    rw [← hlx] at d1 hc hl ⊢
    clear hlx
    go_enter Tryd.func5, Tryd.ntmps5
    go_wp2_with fail
    refine hF.out.mono ?_
    rintro e w1 ⟨la, lc, rfl, o1, b1⟩
    have R1 := hid (Own.row o1); have B1 := hid b1; have Y1 := hid (Row.mono RY.out b1)
    clear o1 b1
    go_wp2_with fail
    refine (HE1.out w1 la lc R1.out).mono ?_
    rintro e w2 ⟨ba, bc, rfl, o2, b2⟩
    have R2 := hid (Row.mono R1.out b2); have P2 := hid (Own.row o2); have B2 := hid (kept_trans B1.out b2); have Y2 := hid (Row.mono Y1.out b2)
    clear o2 b2
    have t1 : True := trivial
    have t2 : True := trivial
    go_wp2_with (first
      | (at_builtin; have _t := t1; refine wpl_append rfl (.tmp 27) (.tmp 28) rfl E8 w2.heap.size rfl rfl (Own.nil _ _ _ _) P2.out (byteV_one E) (by omega) (by omega) (Nat.le_refl _) ?_; clear t1; intro a5 c5 w5 o5 g5 b5; simp only [Nat.zero_add, List.nil_append] at o5 ⊢)
      | (at_builtin; have _t := t2; refine wpl_append rfl (.tmp 30) (.tmp 31) rfl E8 w2.heap.size rfl rfl o5 (Y2.out.mono b5) (byteV_one ys) (by omega) (by omega) b5.size ?_; clear t2; intro a6 c6 w6 o6 g6 b6))
    have r6 : RowB w6 a6 c6 (E ++ ys) := by
      have := o6.row
      rw [← List.map_append] at this
      unfold RowB; rw [List.length_append, hly]; exact this
    have b26 : Below w2.heap.size w2 w6 := b5.trans b6
    have D6 := HD.out w6 a6 c6 r6
    rw [List.length_append, hly] at D6
    refine D6.mono ?_
    rintro e w7 ⟨da, dc, rfl, o7, b7⟩
    have R7 := hid (Row.mono R2.out (kept_trans b26 b7)); have Q7 := hid (Own.row o7); have B7 := hid (kept_trans B2.out (kept_trans b26 b7))
    clear o7 b7 b26 r6 o6 g6 b6 o5 g5 b5 D6
    go_wp2_with fail
    refine (samePts_eq Q7.out R7.out (Nat.le_trans HKL.out (by omega))).mono ?_
    rintro en w8 ⟨rfl, b8⟩
    have B8 := hid (kept_trans B7.out b8)
    clear b8
    go_wp2_with fail
    refine (lives08_any _).mono ?_
    rintro en w9 ⟨rfl, b9⟩
    have B9 := hid (kept_trans B8.out b9)
    clear b9
    go_wp2_with fail
    go_ret
    exact ⟨rfl, B9.out⟩
  · have hyx : ys = xs := by rw [hys, List.take_of_length_le (by omega)]
    have d1 : decide ((50 : Int) < (xs.length : Int)) = false := decide_eq_false (by omega)
    clear hys hx
    subst hyx
    go_enter Tryd.func5, Tryd.ntmps5
    go_wp2_with fail
    refine hF.out.mono ?_
    rintro e w1 ⟨la, lc, rfl, o1, b1⟩
    have R1 := hid (Own.row o1); have B1 := hid b1; have Y1 := hid (Row.mono RY.out b1)
    clear o1 b1
    go_wp2_with fail
    refine (HE1.out w1 la lc R1.out).mono ?_
    rintro e w2 ⟨ba, bc, rfl, o2, b2⟩
    have R2 := hid (Row.mono R1.out b2); have P2 := hid (Own.row o2); have B2 := hid (kept_trans B1.out b2); have Y2 := hid (Row.mono Y1.out b2)
    clear o2 b2
    have t1 : True := trivial
    have t2 : True := trivial
    go_wp2_with (first
      | (at_builtin; have _t := t1; refine wpl_append rfl (.tmp 27) (.tmp 28) rfl E8 w2.heap.size rfl rfl (Own.nil _ _ _ _) P2.out (byteV_one E) (by omega) (by omega) (Nat.le_refl _) ?_; clear t1; intro a5 c5 w5 o5 g5 b5; simp only [Nat.zero_add, List.nil_append] at o5 ⊢)
      | (at_builtin; have _t := t2; refine wpl_append rfl (.tmp 30) (.tmp 31) rfl E8 w2.heap.size rfl rfl o5 (Y2.out.mono b5) (byteV_one ys) (by omega) (by omega) b5.size ?_; clear t2; intro a6 c6 w6 o6 g6 b6))
    have r6 : RowB w6 a6 c6 (E ++ ys) := by
      have := o6.row
      rw [← List.map_append] at this
      unfold RowB; rw [List.length_append]; exact this
    have b26 : Below w2.heap.size w2 w6 := b5.trans b6
    have D6 := HD.out w6 a6 c6 r6
    rw [List.length_append] at D6
    refine D6.mono ?_
    rintro e w7 ⟨da, dc, rfl, o7, b7⟩
    have R7 := hid (Row.mono R2.out (kept_trans b26 b7)); have Q7 := hid (Own.row o7); have B7 := hid (kept_trans B2.out (kept_trans b26 b7))
    clear o7 b7 b26 r6 o6 g6 b6 o5 g5 b5 D6
    go_wp2_with fail
    refine (samePts_eq Q7.out R7.out (Nat.le_trans HKL.out (by omega))).mono ?_
    rintro en w8 ⟨rfl, b8⟩
    have B8 := hid (kept_trans B7.out b8)
    clear b8
    go_wp2_with fail
    refine (lives08_any _).mono ?_
    rintro en w9 ⟨rfl, b9⟩
    have B9 := hid (kept_trans B8.out b9)
    clear b9
    go_wp2_with fail
    go_ret
    exact ⟨rfl, B9.out⟩
end Go.Proofs.YtkhhoognemjibaaDoor
