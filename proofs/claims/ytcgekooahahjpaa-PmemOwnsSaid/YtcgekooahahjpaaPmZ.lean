/- Whatever is asked of a memory; what was flushed and fenced lasts. (genPmZ.py) -/
import Derived.Test.YtcgekooahahjpaaPmY
namespace Go.Proofs.Ytcgekooahahjpaa
open Go.RowKit
set_option linter.unusedSimpArgs false
set_option linter.unusedVariables false

theorem newP_ok (w : World) (n : Nat) (h : validM n) : Calls Try.prog 9 #[.int .i64 (n : Int)] w fun e w' => ∃ g v d p, e = .returned (.pointer (some ⟨g, 0, none⟩)) ∧ MemP w' g v d p (newM n) ∧ (w.heap.size ≤ g ∧ w.heap.size ≤ v ∧ w.heap.size ≤ d ∧ w.heap.size ≤ p) ∧ Below w.heap.size w w' := by
  have h2 := h.2.1
  refine (newM_any n w (by omega)).mono ?_
  intro e w' z
  unfold NewP at z
  rw [if_pos h] at z
  exact z
theorem newR_ok (w : World) (n : Nat) (h : validM n) : Calls Try.prog 10 #[.int .i64 (n : Int)] w fun e w' => ∃ g v d a, e = .returned (.pointer (some ⟨g, 0, none⟩)) ∧ MemR w' g v d a (newM n) ∧ (w.heap.size ≤ g ∧ w.heap.size ≤ v ∧ w.heap.size ≤ d ∧ w.heap.size ≤ a) ∧ Below w.heap.size w w' := by
  have h2 := h.2.1
  refine (newR_any n w (by omega)).mono ?_
  intro e w' z
  unfold NewR at z
  rw [if_pos h] at z
  exact z
theorem new256 (w : World) : Calls Try.prog 9 #[.int .i64 256] w fun e w' => ∃ g v d p, e = .returned (.pointer (some ⟨g, 0, none⟩)) ∧ MemP w' g v d p (newM 256) ∧ (w.heap.size ≤ g ∧ w.heap.size ≤ v ∧ w.heap.size ≤ d ∧ w.heap.size ≤ p) ∧ Below w.heap.size w w' := newP_ok w 256 (by decide)
theorem newR256 (w : World) : Calls Try.prog 10 #[.int .i64 256] w fun e w' => ∃ g v d a, e = .returned (.pointer (some ⟨g, 0, none⟩)) ∧ MemR w' g v d a (newM 256) ∧ (w.heap.size ≤ g ∧ w.heap.size ≤ v ∧ w.heap.size ≤ d ∧ w.heap.size ≤ a) ∧ Below w.heap.size w w' := newR_ok w 256 (by decide)
theorem newM_len (n : Nat) : (newM n).V.length = n := List.length_replicate
theorem both_start {w w1 w2 : World} {g v d p g2 v2 d2 a2 n : Nat} (m1 : MemP w1 g v d p (newM n)) (h1 : w.heap.size ≤ g ∧ w.heap.size ≤ v ∧ w.heap.size ≤ d ∧ w.heap.size ≤ p) (b1 : Below w.heap.size w w1) (m2 : MemR w2 g2 v2 d2 a2 (newM n)) (h2 : w1.heap.size ≤ g2 ∧ w1.heap.size ≤ v2 ∧ w1.heap.size ≤ d2 ∧ w1.heap.size ≤ a2) (b2 : Below w1.heap.size w1 w2) :
    Both w2 w.heap.size ⟨g, v, d, p, g2, v2, d2, a2⟩ (newM n) := by
  have hs := b1.size
  obtain ⟨_, _, _, _, _, _, gl, vl, dl, pl⟩ := mem_apart m1
  refine ⟨m1.mono b2, m2, ⟨h1.1, h1.2.1, h1.2.2.1, h1.2.2.2, by show _ ≤ g2; omega, by show _ ≤ v2; omega, by show _ ≤ d2; omega, by show _ ≤ a2; omega⟩, by show v ≠ v2; omega, by show v ≠ d2; omega, by show d ≠ v2; omega, by show d ≠ d2; omega⟩
theorem doesP_below {w : World} {B : Nat} {K : MemK} {M : MemM} (h : Both w B K M) (hB : B ≤ w.heap.size) {w' : World} (t : Turns K.all w w') : Below B w w' := t.below hB (fun k hk => MemK.from_le h.2.2.1 k hk)

set_option maxHeartbeats 8000000 in
theorem plays_core (w : World) (s0 : Int) (s : Nat) (hs0 : -9223372036854775808 ≤ s0 ∧ s0 ≤ 9223372036854775807) (hcut : (s0 ≤ 512 ∧ s0 = s) ∨ (512 < s0 ∧ s0 % 513 = s)) (hv : validM s) (a : Option Addr) (n c : Nat) (f : Nat → DeedV) (r : RowD w a c n f) :
    Calls Try.prog 3 #[.int .i64 s0, .slice a n c] w fun e w' => e = .returned (.bool true) ∧ Below w.heap.size w w' := by
  have hnc := r.1
  have hc9 := r.2.1
  have HR := hid r
  have hs513 : s ≤ 512 := by omega
  have HV := hid hv
  clear r hv
  rcases hcut with ⟨h1, rfl⟩ | ⟨h1, h2⟩
  · have d0 : decide ((512 : Int) < (s : Int)) = false := decide_eq_false (by omega)
    clear h1 hs0
    go_enter Try.func3, Try.ntmps3
    go_wp2_with fail
    refine (newP_ok w s HV.out).mono ?_
    rintro e w1 ⟨g, v, d, p, rfl, m1, h1, b1⟩
    have HM1 := hid m1; have HH1 := hid h1; have B1 := hid b1
    clear m1 h1 b1
    go_wp2_with fail
    refine (newR_ok w1 s HV.out).mono ?_
    rintro e w2 ⟨g2, v2, d2, a2, rfl, m2, h2, b2⟩
    have hB0 := both_start HM1.out HH1.out B1.out m2 h2 b2
    have B2 := hid (kept_trans B1.out b2)
    clear m2 h2 b2 HM1 HH1 B1
    obtain ⟨K, rfl, rfl, rfl, rfl, rfl, rfl, rfl, rfl⟩ : ∃ K : MemK, K.gm = g ∧ K.vm = v ∧ K.dm = d ∧ K.pm = p ∧ K.gr = g2 ∧ K.vr = v2 ∧ K.dr = d2 ∧ K.ar = a2 := ⟨⟨g, v, d, p, g2, v2, d2, a2⟩, rfl, rfl, rfl, rfl, rfl, rfl, rfl, rfl⟩
    have HB0 := hid hB0
    clear hB0
    go_wp2_with fail
    go_loopw [7, 8, 9] (fun i _ _ wr => ∃ (j : Nat) (M : MemM), j ≤ n ∧ j ≤ 30 ∧ i = .int .i64 j ∧ Both wr w.heap.size K M ∧ M.V.length = s ∧ Below w.heap.size w wr) (fun i _ _ _ => n - (intOf i).toNat)
    case atStart => exact ⟨0, newM s, Nat.zero_le _, Nat.zero_le _, rfl, HB0.out, newM_len _, B2.out⟩
    case round =>
      obtain ⟨j, M, hj, hj6, rfl, hm, hlen, hbel⟩ := hrel
      by_cases hlt : j < n ∧ j < 30
      · obtain ⟨hlt, hlt6⟩ := hlt
        have ltd : decide ((j : Int) < (n : Int)) = true := decide_eq_true (by omega)
        have ltd6 : decide ((j : Int) < 30) = true := decide_eq_true (by omega)
        obtain ⟨_, _, h3, _⟩ := HR.out.mono hbel
        obtain ⟨b, off, e, hbl, hc⟩ := h3 (by omega)
        subst e
        obtain ⟨x0, x1, x2, x3, x4⟩ := hc j hlt
        have HD := hid (does_any hm (f j).kind (f j).at_ (f j).n (f j).sa (f j).sc (f j).S (f j).pa (f j).pc (f j).P (HR.out.ok hbel hm.2.2.1 hlt))
        have HBL := hid hbel; have HMM := hid hm; have HLN := hid hlen
        clear hc h3 hm hbel hlen
        generalize (f j).kind = t0 at *
        generalize (f j).at_ = t1 at *
        generalize (f j).n = t2 at *
        generalize (f j).sa = t3 at *
        generalize (f j).sc = t4 at *
        generalize (f j).S.length = t5 at *
        generalize (f j).pa = t6 at *
        generalize (f j).pc = t7 at *
        generalize (f j).P.length = t8 at *
        go_wp2_with fail
        refine HD.out.mono ?_
        rintro e w3 ⟨rfl, M3, m3, l3, t3'⟩
        have B3 := hid (HBL.out.trans (doesP_below HMM.out HBL.out.size t3')); have MM3 := hid m3; have LL3 := hid (l3.trans HLN.out)
        clear m3 l3 t3' x0 x1 x2 x3 x4
        go_wp2_with fail
        refine (like_any MM3.out).mono ?_
        rintro e w4 ⟨rfl, b4⟩
        have B4 := hid (kept_trans B3.out b4); have MM4 := hid (MM3.out.mono b4)
        clear b4
        go_wp2_with fail
        go_roundw
        case rel => exact ⟨j + 1, M3, by omega, by omega, by go_num, MM4.out, LL3.out, B4.out⟩
        case measure => simp [intOf]; omega
      · have hex : (j < n ∧ ¬ j < 30) ∨ ¬ j < n := by omega
        have HM := hid hm; have HLEN := hid hlen; have HBEL := hid hbel
        clear hm hlen hbel hlt
        rcases hex with ⟨hn, hn6⟩ | hn
        · have ltd : decide ((j : Int) < (n : Int)) = true := decide_eq_true (by omega)
          have ltd6 : decide ((j : Int) < 30) = false := decide_eq_false (by omega)
          clear hn6
          go_wp2_with fail
          refine (lives_any _).mono ?_
          rintro e w8 ⟨rfl, b8⟩
          have B8 := hid (kept_trans HBEL.out b8)
          clear b8
          go_wp2_with fail
          go_ret
          exact ⟨rfl, B8.out⟩
        · have ltd : decide ((j : Int) < (n : Int)) = false := decide_eq_false (by omega)
          go_wp2_with fail
          refine (lives_any _).mono ?_
          rintro e w8 ⟨rfl, b8⟩
          have B8 := hid (kept_trans HBEL.out b8)
          clear b8
          go_wp2_with fail
          go_ret
          exact ⟨rfl, B8.out⟩
  · have d0 : decide ((512 : Int) < s0) = true := decide_eq_true h1
    have e1 : s0.tmod 513 = (s : Int) := by rw [Int.tmod_eq_emod_of_nonneg (by omega)]; exact h2
    have e2 : IntKind.i64.wrap (s : Int) = (s : Int) := IntWalk.i64_in _ (by omega)
    clear h1 h2 hs0
    go_enter Try.func3, Try.ntmps3
    go_wp2_with fail
    refine (newP_ok w s HV.out).mono ?_
    rintro e w1 ⟨g, v, d, p, rfl, m1, h1, b1⟩
    have HM1 := hid m1; have HH1 := hid h1; have B1 := hid b1
    clear m1 h1 b1
    go_wp2_with fail
    refine (newR_ok w1 s HV.out).mono ?_
    rintro e w2 ⟨g2, v2, d2, a2, rfl, m2, h2, b2⟩
    have hB0 := both_start HM1.out HH1.out B1.out m2 h2 b2
    have B2 := hid (kept_trans B1.out b2)
    clear m2 h2 b2 HM1 HH1 B1
    obtain ⟨K, rfl, rfl, rfl, rfl, rfl, rfl, rfl, rfl⟩ : ∃ K : MemK, K.gm = g ∧ K.vm = v ∧ K.dm = d ∧ K.pm = p ∧ K.gr = g2 ∧ K.vr = v2 ∧ K.dr = d2 ∧ K.ar = a2 := ⟨⟨g, v, d, p, g2, v2, d2, a2⟩, rfl, rfl, rfl, rfl, rfl, rfl, rfl, rfl⟩
    have HB0 := hid hB0
    clear hB0
    go_wp2_with fail
    go_loopw [7, 8, 9] (fun i _ _ wr => ∃ (j : Nat) (M : MemM), j ≤ n ∧ j ≤ 30 ∧ i = .int .i64 j ∧ Both wr w.heap.size K M ∧ M.V.length = s ∧ Below w.heap.size w wr) (fun i _ _ _ => n - (intOf i).toNat)
    case atStart => exact ⟨0, newM s, Nat.zero_le _, Nat.zero_le _, rfl, HB0.out, newM_len _, B2.out⟩
    case round =>
      obtain ⟨j, M, hj, hj6, rfl, hm, hlen, hbel⟩ := hrel
      by_cases hlt : j < n ∧ j < 30
      · obtain ⟨hlt, hlt6⟩ := hlt
        have ltd : decide ((j : Int) < (n : Int)) = true := decide_eq_true (by omega)
        have ltd6 : decide ((j : Int) < 30) = true := decide_eq_true (by omega)
        obtain ⟨_, _, h3, _⟩ := HR.out.mono hbel
        obtain ⟨b, off, e, hbl, hc⟩ := h3 (by omega)
        subst e
        obtain ⟨x0, x1, x2, x3, x4⟩ := hc j hlt
        have HD := hid (does_any hm (f j).kind (f j).at_ (f j).n (f j).sa (f j).sc (f j).S (f j).pa (f j).pc (f j).P (HR.out.ok hbel hm.2.2.1 hlt))
        have HBL := hid hbel; have HMM := hid hm; have HLN := hid hlen
        clear hc h3 hm hbel hlen
        generalize (f j).kind = t0 at *
        generalize (f j).at_ = t1 at *
        generalize (f j).n = t2 at *
        generalize (f j).sa = t3 at *
        generalize (f j).sc = t4 at *
        generalize (f j).S.length = t5 at *
        generalize (f j).pa = t6 at *
        generalize (f j).pc = t7 at *
        generalize (f j).P.length = t8 at *
        go_wp2_with fail
        refine HD.out.mono ?_
        rintro e w3 ⟨rfl, M3, m3, l3, t3'⟩
        have B3 := hid (HBL.out.trans (doesP_below HMM.out HBL.out.size t3')); have MM3 := hid m3; have LL3 := hid (l3.trans HLN.out)
        clear m3 l3 t3' x0 x1 x2 x3 x4
        go_wp2_with fail
        refine (like_any MM3.out).mono ?_
        rintro e w4 ⟨rfl, b4⟩
        have B4 := hid (kept_trans B3.out b4); have MM4 := hid (MM3.out.mono b4)
        clear b4
        go_wp2_with fail
        go_roundw
        case rel => exact ⟨j + 1, M3, by omega, by omega, by go_num, MM4.out, LL3.out, B4.out⟩
        case measure => simp [intOf]; omega
      · have hex : (j < n ∧ ¬ j < 30) ∨ ¬ j < n := by omega
        have HM := hid hm; have HLEN := hid hlen; have HBEL := hid hbel
        clear hm hlen hbel hlt
        rcases hex with ⟨hn, hn6⟩ | hn
        · have ltd : decide ((j : Int) < (n : Int)) = true := decide_eq_true (by omega)
          have ltd6 : decide ((j : Int) < 30) = false := decide_eq_false (by omega)
          clear hn6
          go_wp2_with fail
          refine (lives_any _).mono ?_
          rintro e w8 ⟨rfl, b8⟩
          have B8 := hid (kept_trans HBEL.out b8)
          clear b8
          go_wp2_with fail
          go_ret
          exact ⟨rfl, B8.out⟩
        · have ltd : decide ((j : Int) < (n : Int)) = false := decide_eq_false (by omega)
          go_wp2_with fail
          refine (lives_any _).mono ?_
          rintro e w8 ⟨rfl, b8⟩
          have B8 := hid (kept_trans HBEL.out b8)
          clear b8
          go_wp2_with fail
          go_ret
          exact ⟨rfl, B8.out⟩

set_option maxHeartbeats 4000000 in
theorem PmemPlays_walk (w : World) (s0 : Int) (ws : (Lit.int .i64 s0).wf = true) (a : Option Addr) (n c : Nat) (f : Nat → DeedV) (r : RowD w a c n f) :
    Calls Try.prog 3 #[.int .i64 s0, .slice a n c] w fun e w' => e = .returned (.bool true) ∧ Below w.heap.size w w' := by
  have hs0 := i64_bd ws
  clear ws
  by_cases h1 : s0 ≤ 512
  · by_cases hv : validM s0
    · obtain ⟨s, rfl⟩ : ∃ s : Nat, s0 = (s : Int) := ⟨s0.toNat, by have := hv.1; omega⟩
      exact plays_core w _ s hs0 (.inl ⟨h1, rfl⟩) hv a n c f r
    · have d0 : decide (512 < s0) = false := decide_eq_false (by omega)
      have hN : Hid (Calls Try.prog 9 #[.int .i64 s0] w fun e w' => e = .returned (.pointer none) ∧ w = w') := (newM_any s0 w hs0).mono fun e w' z => by
        unfold NewP at z; rw [if_neg hv] at z; exact z
      have hR : Hid (Calls Try.prog 10 #[.int .i64 s0] w fun e w' => e = .returned (.pointer none) ∧ w = w') := (newR_any s0 w hs0).mono fun e w' z => by
        unfold NewR at z; rw [if_neg hv] at z; exact z
      clear r hs0 h1 hv
      go_enter Try.func3, Try.ntmps3
      go_wp2_with fail
      refine hN.out.mono ?_
      rintro e w1 ⟨rfl, rfl⟩
      go_wp2_with fail
      refine hR.out.mono ?_
      rintro e w1 ⟨rfl, rfl⟩
      go_wp2_with fail
      refine (lives_any _).mono ?_
      rintro e w3 ⟨rfl, b3⟩
      go_wp2_with fail
      go_ret
      exact ⟨rfl, b3⟩
  · have hm : 0 ≤ s0 % 513 ∧ s0 % 513 < 513 := by omega
    by_cases hv : validM (s0 % 513)
    · obtain ⟨s, hs⟩ : ∃ s : Nat, s0 % 513 = (s : Int) := ⟨(s0 % 513).toNat, by omega⟩
      rw [hs] at hv
      exact plays_core w _ s hs0 (.inr ⟨by omega, hs⟩) hv a n c f r
    · have d0 : decide (512 < s0) = true := decide_eq_true (by omega)
      have hb : -9223372036854775808 ≤ s0 % 513 ∧ s0 % 513 ≤ 9223372036854775807 := by omega
      have hN : Hid (Calls Try.prog 9 #[.int .i64 (s0 % 513)] w fun e w' => e = .returned (.pointer none) ∧ w = w') := (newM_any _ w hb).mono fun e w' z => by
        unfold NewP at z; rw [if_neg hv] at z; exact z
      have hR : Hid (Calls Try.prog 10 #[.int .i64 (s0 % 513)] w fun e w' => e = .returned (.pointer none) ∧ w = w') := (newR_any _ w hb).mono fun e w' z => by
        unfold NewR at z; rw [if_neg hv] at z; exact z
      have e1 : s0.tmod 513 = s0 % 513 := Int.tmod_eq_emod_of_nonneg (by omega)
      clear r hv h1 hs0
      generalize s0 % 513 = q at *
      have e2 : IntKind.i64.wrap q = q := IntWalk.i64_in _ hb
      go_enter Try.func3, Try.ntmps3
      go_wp2_with fail
      refine hN.out.mono ?_
      rintro e w1 ⟨rfl, rfl⟩
      go_wp2_with fail
      refine hR.out.mono ?_
      rintro e w1 ⟨rfl, rfl⟩
      go_wp2_with fail
      refine (lives_any _).mono ?_
      rintro e w3 ⟨rfl, b3⟩
      go_wp2_with fail
      go_ret
      exact ⟨rfl, b3⟩
end Go.Proofs.Ytcgekooahahjpaa
