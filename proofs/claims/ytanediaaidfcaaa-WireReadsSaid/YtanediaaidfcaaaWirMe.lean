/- Merged: WirU WirV WirW. -/
import Derived.Test.YtanediaaidfcaaaWirMc
/- The coder: names that are read. -/
namespace Go.Proofs.Ytanediaaidfcaaa
open Go.RowKit
set_option linter.unusedSimpArgs false
set_option linter.unusedVariables false

def rNs (xs : List UInt8) : Nat → Nat → Bool → Nat × Bool × List (List UInt8)
  | 0, at_, no => (at_, no, [])
  | n + 1, at_, no => ((rNs xs n (textG xs 1 12 at_ no []).1 (textG xs 1 12 at_ no []).2.1).1, (rNs xs n (textG xs 1 12 at_ no []).1 (textG xs 1 12 at_ no []).2.1).2.1, (textG xs 1 12 at_ no []).2.2 :: (rNs xs n (textG xs 1 12 at_ no []).1 (textG xs 1 12 at_ no []).2.1).2.2)
theorem rNs_len (xs : List UInt8) (n at_ : Nat) (no : Bool) : (rNs xs n at_ no).2.2.length = n := by
  induction n generalizing at_ no with
  | zero => rfl
  | succ n ih => simp only [rNs, List.length_cons, ih]
def rNames (xs : List UInt8) (s : RM) : RM := if s.no = true then s else match getF xs s.at_ 1 with
  | none => ⟨s.at_ + 1, true, s.P⟩
  | some n => if n ≤ 16 then ⟨(rNs xs n (s.at_ + 1) false).1, (rNs xs n (s.at_ + 1) false).2.1, { s.P with N := (rNs xs n (s.at_ + 1) false).2.2 }⟩ else ⟨s.at_ + 1, true, s.P⟩
theorem strs_set (pre : List (List UInt8)) (n j : Nat) (s : List UInt8) (hj : pre.length = j) (hn : j < n) : (pre.map strV ++ List.replicate (n - j) (strV [])).set j (strV s) = (pre ++ [s]).map strV ++ List.replicate (n - (j + 1)) (strV []) := by
  obtain ⟨k, rfl⟩ : ∃ k, n = j + (k + 1) := ⟨n - j - 1, by omega⟩
  have e1 : j + (k + 1) - j = k + 1 := by omega
  have e2 : j + (k + 1) - (j + 1) = k := by omega
  rw [e1, e2, List.set_append_right _ _ (by simp; omega)]
  simp [hj, List.replicate_succ]
def NmP (W0 w : World) (g pk : Nat) (a : Option Addr) (c : Nat) (xs : List UInt8) (s : RM) : Prop := ∃ na nc, RdP W0 w g pk a c xs na s.P.N.length nc s ∧ Own w W0.heap.size 9 1 na s.P.N.length nc (s.P.N.map strV)

set_option maxRecDepth 100000 in
set_option maxHeartbeats 800000 in
theorem namesG_any {W0 w : World} {g pk : Nat} {a : Option Addr} {c : Nat} {xs : List UInt8} {s : RM} (h : RdP W0 w g pk a c xs none 0 0 s) (hN0 : s.P.N = []) (r0 : RowB W0 a c xs) (hg : W0.heap.size ≤ g) (hpk : W0.heap.size ≤ pk) (hl : xs.length ≤ 1000000) :
    Calls Try.prog 61 #[.pointer (some ⟨g, 0, none⟩), .pointer (some ⟨pk, 23, none⟩)] w fun e w' => e = .returned (.tuple #[]) ∧ NmP W0 w' g pk a c xs (rNames xs s) ∧ Turns (fun x => x = g ∨ x = pk) w w' := by
  obtain ⟨h1, h2, h3, h4⟩ := h
  have hne : pk ≠ g := blk_ne h3 h1 (by decide)
  have hgl := h1.lt
  have hpl := h3.lt
  have hW0 := h4.size
  have c23 : w.cell? ⟨pk, 23, none⟩ = some (.slice none 0 0) := h3.cell (i := 23) (by show 23 < 43; omega)
  obtain ⟨w1, hw1, b1, s1, kn, ka⟩ := box_new w 0
  have hN := numbersG_any (w := w1) (s := ⟨s.at_, s.no, [.int .i64 0]⟩) (show CoG w1 g a c xs s.at_ s.no from Blk.mono h1 b1) r0 (h4.trans (b1.mono hW0)) hg h2 hl 1 (by decide) (some ⟨w.heap.size + 1, 0, none⟩) 1 w.heap.size 3 [0] (by decide) (row_blkO ka 1 1 rfl (by omega))
    (fun _ b hb => by obtain ⟨off, e⟩ := hb; cases e; omega) (by omega) hW0 kn (fun i hi => by
      obtain rfl : i = 0 := by simp at hi; omega
      exact Nat.one_pos)
  obtain ⟨nv, at1, no1, hS, hbad, hgood⟩ : ∃ (nv at1 : Nat) (no1 : Bool), [0].foldl (gStep xs 1) ⟨s.at_, s.no, [.int .i64 0]⟩ = ⟨at1, no1, [.int .i64 (nv : Int)]⟩ ∧ ((no1 || !decide (nv ≤ 16)) = true → rNames xs s = ⟨at1, true, s.P⟩) ∧ ((no1 || !decide (nv ≤ 16)) = false → rNames xs s = ⟨(rNs xs nv at1 false).1, (rNs xs nv at1 false).2.1, { s.P with N := (rNs xs nv at1 false).2.2 }⟩) := by
    by_cases hno : s.no = true
    · refine ⟨0, s.at_, true, ?_, fun _ => ?_, fun q => (by cases q)⟩
      · rw [hno]; rfl
      · have : s = ⟨s.at_, true, s.P⟩ := by cases s; simp at hno; rw [hno]
        exact (if_pos hno).trans this
    · cases hv : getF xs s.at_ 1 with
      | none =>
        refine ⟨0, s.at_ + 1, true, ?_, fun _ => ?_, fun q => (by cases q)⟩
        · show gStep xs 1 ⟨s.at_, s.no, [.int .i64 0]⟩ 0 = _
          unfold gStep
          rw [if_neg hno]
          simp [hv]
        · unfold rNames; rw [if_neg hno, hv]
      | some v =>
        refine ⟨v, s.at_ + 1, false, ?_, fun q => ?_, fun q => ?_⟩
        · show gStep xs 1 ⟨s.at_, s.no, [.int .i64 0]⟩ 0 = _
          unfold gStep
          rw [if_neg hno]
          simp [hv]
        · unfold rNames; rw [if_neg hno, hv]
          simp only
          rw [if_neg (by simpa using q)]
        · unfold rNames; rw [if_neg hno, hv]
          simp only
          rw [if_pos (by simpa using q)]
  rw [hS] at hN
  have HN := hid hN; have HW1 := hid hw1; have B1 := hid b1; have H3 := hid h3; have H4 := hid h4; have HNN := hid hN0
  have HX1 := hid hbad; have HX2 := hid hgood; have R0 := hid r0
  clear hN hw1 b1 kn ka h1 h3 h4 hS hbad hgood h2 hN0 r0
  obtain ⟨okb, hok⟩ : ∃ okb, decide ((nv : Int) ≤ 16) = okb := ⟨_, rfl⟩
  have hok2 : decide (nv ≤ 16) = okb := by rw [← hok]; exact decide_eq_decide.2 (by omega)
  by_cases hor : (no1 || !okb) = true
  · rw [HX1.out (by rw [hok2]; exact hor)]
    have HOR := hid hor
    clear hor HX1 HX2
    go_enter Try.func61, Try.ntmps61
    go_wp2_with fail
    rw [← HW1.out]
    refine HN.out.mono ?_
    rintro e w2 ⟨rfl, hb2, hat2, hn2, _, t2⟩
    have n2 := hn2.cell (i := 0) (by simp)
    simp only [List.getElem_cons_zero] at n2
    have CB2 := hid hb2; have T2 := hid t2; have HAT2 := hid hat2
    clear hb2 t2 hn2 hat2
    go_wp2_with fail
    refine (check_any CB2.out okb).mono ?_
    rintro e w3 ⟨rfl, hw3⟩
    rw [HOR.out] at hw3
    have hb3 : Blk w3 g 52 [.bool false, .slice a xs.length c, .int .i64 (at1 : Int), .bool true] := by rw [hw3]; exact Blk.set CB2.out 3 _
    have t3 : Turns (fun x => x = g) w2 w3 := by rw [hw3]; exact turns_setG g 3 _
    have x3 := hb3.cell (i := 3) (by simp)
    simp only [List.getElem_cons_zero, List.getElem_cons_succ] at x3
    have T3 := hid t3; have CB3 := hid hb3
    clear hb3 t3 hw3 n2
    go_wp2_with fail
    refine bodyPost_ret (results_none rfl _ _ _) rfl ?_
    have ht : Turns (fun x => x = g ∨ x = pk) w w3 := ((Turns.of_below B1.out).trans' (T2.out.trans (T3.out.mono (fun _ q => .inl q))) (fun x hx q => q.elim .inl (fun e => by omega)))
    have hp3 := ((Turns.of_below (X := fun x => x = g) B1.out).trans' (T2.out.trans (T3.out.mono (fun _ q => .inl q))) (fun x hx q => q.elim id (fun e => by omega))).blk H3.out hne
    refine ⟨rfl, ⟨none, 0, ⟨CB3.out, ⟨HAT2.out.1, fun q => (by cases q)⟩, ?_, H4.out.trans (ht.below hW0 (fun x hx => by rcases hx with e | e <;> rw [e] <;> assumption))⟩, ?_⟩, ht⟩
    · show Blk w3 pk 35 (pkC s.P none s.P.N.length 0)
      rw [HNN.out]; exact hp3
    · show Own w3 W0.heap.size 9 1 none s.P.N.length 0 (s.P.N.map strV)
      rw [HNN.out]; exact Own.nil _ _ _ _
  · have hor' : (no1 || !okb) = false := by simpa using hor
    obtain ⟨rfl, rfl⟩ : no1 = false ∧ okb = true := by
      cases no1 <;> cases okb <;> simp at hor' ⊢
    rw [HX2.out (by rw [hok2]; rfl)]
    obtain ⟨⟨ra, rn, rs⟩, hrr⟩ : ∃ r, r = rNs xs nv at1 false := ⟨_, rfl⟩
    rw [← hrr]
    simp only
    have HRR := hid hrr
    clear hrr
    have hn16 : nv ≤ 16 := of_decide_eq_true hok2
    clear hor hor' HX1 HX2
    rcases Nat.eq_zero_or_pos nv with rfl | hpos
    · go_enter Try.func61, Try.ntmps61
      go_wp2_with fail
      rw [← HW1.out]
      refine HN.out.mono ?_
      rintro e w2 ⟨rfl, hb2, hat2, hn2, _, t2⟩
      have n2 := hn2.cell (i := 0) (by simp)
      simp only [List.getElem_cons_zero] at n2
      have CB2 := hid hb2; have T2 := hid t2; have HAT2 := hid hat2; have KN2 := hid hn2
      clear hb2 t2 hn2 hat2
      go_wp2_with fail
      refine (check_any CB2.out true).mono ?_
      rintro e w3 ⟨rfl, hw3⟩
      have hb3 : Blk w3 g 52 [.bool false, .slice a xs.length c, .int .i64 (at1 : Int), .bool false] := by rw [hw3]; exact Blk.set CB2.out 3 _
      have t3 : Turns (fun x => x = g) w2 w3 := by rw [hw3]; exact turns_setG g 3 _
      have x3 := hb3.cell (i := 3) (by simp)
      have x0 := hb3.cell (i := 0) (by simp)
      simp only [List.getElem_cons_zero, List.getElem_cons_succ] at x3 x0
      have n3 : w3.cell? ⟨w.heap.size, 0, none⟩ = some (.int .i64 ((0 : Nat) : Int)) := (t3.blk KN2.out (by omega)).cell (i := 0) (by simp)
      have ht : Turns (fun x => x = g ∨ x = pk) w w3 := ((Turns.of_below B1.out).trans' (T2.out.trans (t3.mono (fun _ q => .inl q))) (fun x hx q => q.elim .inl (fun e => by omega)))
      have hp3 := ((Turns.of_below (X := fun x => x = g) B1.out).trans' (T2.out.trans (t3.mono (fun _ q => .inl q))) (fun x hx q => q.elim id (fun e => by omega))).blk H3.out hne
      have p23 : w3.cell? ⟨pk, 23, none⟩ = some (.slice none 0 0) := hp3.cell (i := 23) (by show 23 < 43; omega)
      have HT := hid ht; have CB3 := hid hb3; have HP3 := hid hp3
      clear hb3 t3 hw3 n2 ht hp3
      go_wp2_with fail
      go_loopw [38, 5] (fun i _ wr => i = .int .i64 0 ∧ wr = w3) (fun i _ _ => 0)
      case atStart => exact ⟨rfl, rfl⟩
      case round =>
        obtain ⟨rfl, rfl⟩ := hrel
        go_wp2_with fail
        go_end0
        obtain ⟨rfl, rfl, rfl⟩ : ra = at1 ∧ rn = false ∧ rs = [] := by have := HRR.out; simpa [rNs] using this
        refine ⟨rfl, ⟨none, 0, ⟨CB3.out, HAT2.out, HP3.out, H4.out.trans (HT.out.below hW0 (fun x hx => by rcases hx with e | e <;> rw [e] <;> assumption))⟩, Own.nil _ _ _ _⟩, HT.out⟩
    · have d5 : decide ((0 : Int) < (nv : Int)) = true := decide_eq_true (by omega)
      go_enter Try.func61, Try.ntmps61
      go_wp2_with fail
      rw [← HW1.out]
      refine HN.out.mono ?_
      rintro e w2 ⟨rfl, hb2, hat2, hn2, _, t2⟩
      have n2 := hn2.cell (i := 0) (by simp)
      simp only [List.getElem_cons_zero] at n2
      have CB2 := hid hb2; have T2 := hid t2; have HAT2 := hid hat2; have KN2 := hid hn2
      clear hb2 t2 hn2 hat2
      go_wp2_with fail
      refine (check_any CB2.out true).mono ?_
      rintro e w3 ⟨rfl, hw3⟩
      have hb3 : Blk w3 g 52 [.bool false, .slice a xs.length c, .int .i64 (at1 : Int), .bool false] := by rw [hw3]; exact Blk.set CB2.out 3 _
      have t3 : Turns (fun x => x = g) w2 w3 := by rw [hw3]; exact turns_setG g 3 _
      have x3 := hb3.cell (i := 3) (by simp)
      have x0 := hb3.cell (i := 0) (by simp)
      simp only [List.getElem_cons_zero, List.getElem_cons_succ] at x3 x0
      have n3 : w3.cell? ⟨w.heap.size, 0, none⟩ = some (.int .i64 (nv : Int)) := (t3.blk KN2.out (by omega)).cell (i := 0) (by simp)
      have ht : Turns (fun x => x = g ∨ x = pk) w w3 := ((Turns.of_below B1.out).trans' (T2.out.trans (t3.mono (fun _ q => .inl q))) (fun x hx q => q.elim .inl (fun e => by omega)))
      have hp3 := ((Turns.of_below (X := fun x => x = g) B1.out).trans' (T2.out.trans (t3.mono (fun _ q => .inl q))) (fun x hx q => q.elim id (fun e => by omega))).blk H3.out hne
      have hs3 : w.heap.size ≤ w3.heap.size := ht.size
      have HT := hid ht; have CB3 := hid hb3; have HP3 := hid hp3
      clear hb3 t3 hw3 n2 ht hp3
      go_wp2_with (at_make; refine wpl_make rfl (.tmp 31) (.tmp 31) rfl Try.underlying25 (bytes := 16) (z := strV []) (by kernel_rfl) rfl rfl rfl rfl rfl (by omega) (by omega) ?_; intro w4 k4 b4; have y23 : w4.cell? ⟨pk, 23, none⟩ = some (.slice none 0 0) := (HP3.out.mono b4).cell (i := 23) (by show 23 < 43; omega); have f23 := (HP3.out.mono b4).frozen 23; have K4 := hid k4; have B4 := hid b4; clear k4 b4)
      obtain ⟨nb, hnb⟩ : ∃ nb, nb = w3.heap.size := ⟨_, rfl⟩
      rw [← hnb]
      have hnbw : w.heap.size ≤ nb := by omega
      have k4 : Blk w4 nb 9 (List.replicate nv (strV [])) := by rw [hnb]; exact K4.out
      have hnpk : nb ≠ pk := by have := HP3.out.lt; omega
      have hng : nb ≠ g := by have := CB3.out.lt; omega
      have tp : Turns (fun x => x = pk) w4 (w4.setCell ⟨pk, 23, none⟩ (.slice (some ⟨nb, 0, none⟩) nv nv)) := turns_setG pk 23 _
      have hp5 : Blk (w4.setCell ⟨pk, 23, none⟩ (.slice (some ⟨nb, 0, none⟩) nv nv)) pk 35 (pkC s.P (some ⟨nb, 0, none⟩) nv nv) := Blk.set (HP3.out.mono B4.out) 23 _
      have k5 := tp.blk k4 hnpk
      have cb5 := tp.blk (CB3.out.mono B4.out) (fun e => hne e.symm)
      have t5 : Turns (fun x => x = g ∨ x = pk ∨ w.heap.size ≤ x) w (w4.setCell ⟨pk, 23, none⟩ (.slice (some ⟨nb, 0, none⟩) nv nv)) := ((HT.out.trans (Turns.of_below B4.out)).trans (tp.mono (fun _ q => .inr q))).mono (fun _ q => q.elim .inl (fun e => .inr (.inl e)))
      generalize w4.setCell ⟨pk, 23, none⟩ (.slice (some ⟨nb, 0, none⟩) nv nv) = w5 at *
      have p5 : w5.cell? ⟨pk, 23, none⟩ = some (.slice (some ⟨nb, 0, none⟩) nv nv) := hp5.cell (i := 23) (by show 23 < 43; omega)
      have K5 := hid k5; have HP5 := hid hp5; have CB5 := hid cb5; have T5 := hid t5
      clear k4 tp hp5 k5 cb5 t5 y23 f23 hnb c23 x3 x0 n3
      go_wp2_with fail
      go_loopw [38, 5] (fun i _ wr => ∃ (j at2 : Nat) (no2 : Bool) (pre : List (List UInt8)), j ≤ nv ∧ i = .int .i64 j ∧ pre.length = j ∧ CoG wr g a c xs at2 no2 ∧ atOk xs at2 no2 ∧ Blk wr pk 35 (pkC s.P (some ⟨nb, 0, none⟩) nv nv) ∧ Blk wr nb 9 (pre.map strV ++ List.replicate (nv - j) (strV [])) ∧ (ra, rn, rs) = ((rNs xs (nv - j) at2 no2).1, (rNs xs (nv - j) at2 no2).2.1, pre ++ (rNs xs (nv - j) at2 no2).2.2) ∧ Turns (fun x => x = g ∨ x = pk ∨ w.heap.size ≤ x) w wr) (fun i _ _ => nv - (intOf i).toNat)
      case atStart => exact ⟨0, at1, false, [], Nat.zero_le _, rfl, rfl, CB5.out, HAT2.out, HP5.out, K5.out, HRR.out, T5.out⟩
      case round =>
        obtain ⟨j, at2, no2, pre, hj, rfl, hpre, hcb, hat, hpp, hbb, heq, ht⟩ := hrel
        by_cases hlt : j < nv
        · have d0 : decide ((j : Int) < (nv : Int)) = true := decide_eq_true (by omega)
          have p23 : wr.cell? ⟨pk, 23, none⟩ = some (.slice (some ⟨nb, 0, none⟩) nv nv) := hpp.cell (i := 23) (by show 23 < 43; omega)
          have hbr : Below W0.heap.size W0 wr := H4.out.trans (ht.below hW0 (fun x hx => by rcases hx with e | e | e <;> omega))
          have hget : (pre.map strV ++ List.replicate (nv - j) (strV []))[j]? = some (strV []) := by
            rw [List.getElem?_append_right (by simp [hpre])]
            rw [List.length_map, hpre, Nat.sub_self, List.getElem?_replicate, if_pos (by omega)]
          have htx := textG_any hcb R0.out hbr hg hat hl 1 12 (by decide) (by decide) nb j 9 _ hng (by omega) hbb [] (by simp) hget
          have hst := strs_set pre nv j (textG xs 1 12 at2 no2 []).2.2 hpre hlt
          have hnj : nv - j = (nv - (j + 1)) + 1 := by omega
          rw [hnj] at heq
          simp only [rNs] at heq
          generalize textG xs 1 12 at2 no2 [] = tt at *
          obtain ⟨ta, tn, ts⟩ := tt
          simp only at heq htx hst
          have HTX := hid htx
          clear htx
          have HE := hid heq; have HS := hid hst; have HT2 := hid ht; have HPP := hid hpp; have HPR := hid hpre
          clear heq hst ht hcb hat hpp hbb hget hbr hpre hnj
          go_wp2_with fail
          refine HTX.out.mono ?_
          rintro e w6 ⟨rfl, h6, a6, k6, t6⟩
          rw [HS.out] at k6
          have hp6 := t6.blk HPP.out (fun q => q.elim hne (fun e => hnpk e.symm))
          have H6 := hid h6; have A6 := hid a6; have K6 := hid k6; have HP6 := hid hp6; have T6 := hid (HT2.out.trans (t6.mono (Y := fun x => x = g ∨ x = pk ∨ w.heap.size ≤ x) (fun _ q => q.elim .inl (fun e => .inr (.inr (by omega))))))
          clear h6 a6 k6 t6 hp6 p23
          go_wp2_with fail
          go_roundw
          case rel => exact ⟨j + 1, ta, tn, pre ++ [ts], by omega, by go_num, by rw [List.length_append, HPR.out]; rfl, H6.out, A6.out, HP6.out, K6.out, by rw [HE.out, List.append_assoc]; rfl, T6.out⟩
          case measure => simp [intOf]; omega
        · obtain rfl : j = nv := by omega
          have d0 : decide ((j : Int) < (j : Int)) = false := decide_eq_false (by omega)
          have p23 : wr.cell? ⟨pk, 23, none⟩ = some (.slice (some ⟨nb, 0, none⟩) j j) := hpp.cell (i := 23) (by show 23 < 43; omega)
          have htt : Turns (fun x => x = g ∨ x = pk) w wr := ht.mono' (fun k hk q => by rcases q with e | e | e; exact .inl e; exact .inr e; omega)
          have hbr : Below W0.heap.size W0 wr := H4.out.trans (htt.below hW0 (fun x hx => by rcases hx with e | e <;> omega))
          rw [Nat.sub_self] at heq hbb
          obtain ⟨rfl, rfl, rfl⟩ : ra = at2 ∧ rn = no2 ∧ rs = pre := by simpa [rNs] using heq
          rw [List.replicate_zero, List.append_nil] at hbb
          have hown := Own.of_blk (B := W0.heap.size) (sz := 1) (n := j) (c := j) hbb (by omega) (Nat.le_refl _) (by unfold maxLen; omega) (by simp [hpre])
          rw [List.take_of_length_le (by simp [hpre])] at hown
          have HO := hid hown; have HCB := hid hcb; have HAT := hid hat; have HPP := hid hpp; have HTT := hid htt; have HBR := hid hbr; have HPR := hid hpre
          clear hown hcb hat hpp htt hbr hbb heq ht hpre
          go_wp2_with fail
          go_end0
          refine ⟨rfl, ⟨some ⟨nb, 0, none⟩, j, ⟨HCB.out, HAT.out, ?_, HBR.out⟩, ?_⟩, HTT.out⟩
          · show Blk _ pk 35 (pkC s.P (some ⟨nb, 0, none⟩) rs.length j)
            rw [HPR.out]; exact HPP.out
          · show Own _ _ _ _ _ rs.length j (rs.map strV)
            rw [HPR.out]; exact HO.out
end Go.Proofs.Ytanediaaidfcaaa
/- The coder: an answer to a question, read. (genWirV.py) -/
namespace Go.Proofs.Ytanediaaidfcaaa
open Go.RowKit
set_option linter.unusedSimpArgs false
set_option linter.unusedVariables false

def rRhead (xs : List UInt8) (s : RM) : RM := rNum xs 2 ([28, 29].foldl (rNum xs 1) (rNum xs 2 ([24, 25].foldl (rNum xs 1) (rNum xs 4 (rNum xs 8 (rNum xs 1 (rNum xs 1 (rNum xs 1 (s) 4) 19) 18) 27) 5)) 26)) 30
def rRtold (xs : List UInt8) (s : RM) : RM := rNames xs ([31, 32, 33, 34].foldl (rNum xs 1) (rRhead xs s))
theorem rNum_N (xs : List UInt8) (k : Nat) (s : RM) (o : Nat) : (rNum xs k s o).P.N = s.P.N := by unfold rNum; split <;> rfl
theorem foldR_N (xs : List UInt8) (k : Nat) (os : List Nat) (s : RM) : (os.foldl (rNum xs k) s).P.N = s.P.N := by
  induction os generalizing s with
  | nil => rfl
  | cons o os ih => rw [List.foldl_cons, ih, rNum_N]
theorem RdP.nums {W0 w : World} {g pk : Nat} {a : Option Addr} {c : Nat} {xs : List UInt8} {na : Option Addr} {nn nc : Nat} {s : RM} (h : RdP W0 w g pk a c xs na nn nc s) (r0 : RowB W0 a c xs) (hg : W0.heap.size ≤ g) (hpk : W0.heap.size ≤ pk) (hl : xs.length ≤ 1000000) (k : Nat) (hk : k ≤ 8) (os : List Nat) (ho : ∀ o ∈ os, isNum o = true) (hfew : os.length ≤ 10) (s' : RM) (hs : os.foldl (rNum xs k) s = s') :
    Calls Try.prog 31 #[.pointer (some ⟨g, 0, none⟩), .int .i64 k, .slice (some ⟨w.heap.size, 0, none⟩) os.length os.length] (w.alloc (.cells ((os.map fun o => (.pointer (some ⟨pk, o, none⟩) : Value))).toArray 71))
      fun e w' => e = .returned (.tuple #[]) ∧ RdP W0 w' g pk a c xs na nn nc s' ∧ Turns (fun x => x = g ∨ x = pk) w w' := by
  subst hs; exact numsG_any h r0 hg hpk hl k hk os ho hfew

set_option maxRecDepth 100000 in
set_option maxHeartbeats 1000000 in
theorem rpcToldG_any {W0 w : World} {g pk : Nat} {a : Option Addr} {c : Nat} {xs : List UInt8} {s : RM} (h : RdP W0 w g pk a c xs none 0 0 s) (hN0 : s.P.N = []) (r0 : RowB W0 a c xs) (hg : W0.heap.size ≤ g) (hpk : W0.heap.size ≤ pk) (hl : xs.length ≤ 1000000) :
    Calls Try.prog 50 #[.pointer (some ⟨g, 0, none⟩), .pointer (some ⟨pk, 0, none⟩)] w fun e w' => e = .returned (.tuple #[]) ∧ NmP W0 w' g pk a c xs (rRtold xs s) ∧ Turns (fun x => x = g ∨ x = pk) w w' := by
  unfold rRtold rRhead
  obtain ⟨s1, hs1⟩ : ∃ s1, s1 = rNum xs 1 s 4 := ⟨_, rfl⟩
  obtain ⟨s2, hs2⟩ : ∃ s2, s2 = rNum xs 1 s1 19 := ⟨_, rfl⟩
  obtain ⟨s3, hs3⟩ : ∃ s3, s3 = rNum xs 1 s2 18 := ⟨_, rfl⟩
  obtain ⟨s4, hs4⟩ : ∃ s4, s4 = rNum xs 8 s3 27 := ⟨_, rfl⟩
  obtain ⟨s5, hs5⟩ : ∃ s5, s5 = rNum xs 4 s4 5 := ⟨_, rfl⟩
  obtain ⟨s6, hs6⟩ : ∃ s6, s6 = [24, 25].foldl (rNum xs 1) s5 := ⟨_, rfl⟩
  obtain ⟨s7, hs7⟩ : ∃ s7, s7 = rNum xs 2 s6 26 := ⟨_, rfl⟩
  obtain ⟨s8, hs8⟩ : ∃ s8, s8 = [28, 29].foldl (rNum xs 1) s7 := ⟨_, rfl⟩
  obtain ⟨s9, hs9⟩ : ∃ s9, s9 = rNum xs 2 s8 30 := ⟨_, rfl⟩
  rw [← hs1, ← hs2, ← hs3, ← hs4, ← hs5, ← hs6, ← hs7, ← hs8, ← hs9]
  obtain ⟨s10, hs10⟩ : ∃ s10, s10 = [31, 32, 33, 34].foldl (rNum xs 1) s9 := ⟨_, rfl⟩
  rw [← hs10]
  have HS10 := hid hs10
  clear hs10
  have hN9 : s9.P.N = [] := by rw [hs9, hs8, hs7, hs6, hs5, hs4, hs3, hs2, hs1]; simp only [rNum_N, foldR_N, List.foldl_cons, List.foldl_nil]; exact hN0
  have HS1 := hid hs1; have HS2 := hid hs2; have HS3 := hid hs3; have HS4 := hid hs4; have HS5 := hid hs5; have HS6 := hid hs6; have HS7 := hid hs7; have HS8 := hid hs8; have HS9 := hid hs9
  have H0 := hid h; have R0 := hid r0; have HN9 := hid hN9
  have T0 := hid (Turns.refl (fun x => x = g ∨ x = pk) w)
  clear h r0 hN0 hN9 hs1 hs2 hs3 hs4 hs5 hs6 hs7 hs8 hs9
  go_enter Try.func50, Try.ntmps50
  go_wp2_with fail
  refine (H0.out.nums R0.out hg hpk hl 1 (by decide) [4] (by decide) (by decide) s1 HS1.out.symm).mono ?_
  rintro e w1 ⟨rfl, h1, t1⟩
  have H1 := hid h1; have T1 := hid (T0.out.trans t1); clear h1 t1
  go_wp2_with fail
  refine (errnoG_any H1.out R0.out hg hpk hl).mono ?_
  rintro e w2 ⟨rfl, h2, t2⟩
  rw [← HS2.out] at h2
  have H2 := hid h2; have T2 := hid (T1.out.trans t2); clear h2 t2
  go_wp2_with fail
  refine (H2.out.nums R0.out hg hpk hl 1 (by decide) [18] (by decide) (by decide) s3 HS3.out.symm).mono ?_
  rintro e w3 ⟨rfl, h3, t3⟩
  have H3 := hid h3; have T3 := hid (T2.out.trans t3); clear h3 t3
  go_wp2_with fail
  refine (H3.out.nums R0.out hg hpk hl 8 (by decide) [27] (by decide) (by decide) s4 HS4.out.symm).mono ?_
  rintro e w4 ⟨rfl, h4, t4⟩
  have H4 := hid h4; have T4 := hid (T3.out.trans t4); clear h4 t4
  go_wp2_with fail
  refine (H4.out.nums R0.out hg hpk hl 4 (by decide) [5] (by decide) (by decide) s5 HS5.out.symm).mono ?_
  rintro e w5 ⟨rfl, h5, t5⟩
  have H5 := hid h5; have T5 := hid (T4.out.trans t5); clear h5 t5
  go_wp2_with fail
  go_region
  all_goals
    go_wp2_with fail
  go_region_with (go_at_call 31; refine ((H5.out.drewN 2).nums R0.out hg hpk hl 1 (by decide) [24, 25] (by decide) (by decide) s6 HS6.out.symm).mono ?_; rintro e w6 ⟨rfl, h6, t6⟩; have H6 := hid h6; have T6 := hid ((T5.out.trans (Turns.of_below (bel_drewN (Below.refl _ _) 2))).trans t6); clear h6 t6)
  go_wp2_with fail
  refine (H6.out.nums R0.out hg hpk hl 2 (by decide) [26] (by decide) (by decide) s7 HS7.out.symm).mono ?_
  rintro e w7 ⟨rfl, h7, t7⟩
  have H7 := hid h7; have T7 := hid (T6.out.trans t7); clear h7 t7
  go_wp2_with fail
  go_region_with (go_at_call 31; refine ((H7.out.drewN 1).nums R0.out hg hpk hl 1 (by decide) [28, 29] (by decide) (by decide) s8 HS8.out.symm).mono ?_; rintro e w8 ⟨rfl, h8, t8⟩; have H8 := hid h8; have T8 := hid ((T7.out.trans (Turns.of_below (bel_drewN (Below.refl _ _) 1))).trans t8); clear h8 t8)
  go_wp2_with fail
  refine (H8.out.nums R0.out hg hpk hl 2 (by decide) [30] (by decide) (by decide) s9 HS9.out.symm).mono ?_
  rintro e w9 ⟨rfl, h9, t9⟩
  have H9 := hid h9; have T9 := hid (T8.out.trans t9); clear h9 t9
  go_wp2_with fail
  go_loopw [73, 6] (fun i _ wr => ∃ j : Nat, j ≤ 4 ∧ i = .int .i64 j ∧ RdP W0 wr g pk a c xs none 0 0 (([31, 32, 33, 34].take j).foldl (rNum xs 1) s9) ∧ Turns (fun x => x = g ∨ x = pk) w wr) (fun i _ _ => 4 - (intOf i).toNat)
  case atStart => exact ⟨0, Nat.zero_le _, rfl, H9.out, T9.out⟩
  case round =>
    obtain ⟨j, hj, rfl, hm', ht⟩ := hrel
    by_cases hlt : j < 4
    · have d0 : decide ((j : Int) < 4) = true := decide_eq_true (by omega)
      have hnum : isNum (31 + j) = true := by rcases (by omega : j = 0 ∨ j = 1 ∨ j = 2 ∨ j = 3) with e | e | e | e <;> subst e <;> rfl
      have hstep : [31 + j].foldl (rNum xs 1) (([31, 32, 33, 34].take j).foldl (rNum xs 1) s9) = ([31, 32, 33, 34].take (j + 1)).foldl (rNum xs 1) s9 := by rcases (by omega : j = 0 ∨ j = 1 ∨ j = 2 ∨ j = 3) with e | e | e | e <;> subst e <;> rfl
      have HZ := hid (hm'.nums R0.out hg hpk hl 1 (by decide) [31 + j] (by intro o ho; rw [List.mem_singleton] at ho; rw [ho]; exact hnum) (by simp) _ hstep)
      have HT := hid ht
      clear hm' ht hnum hstep
      go_wp2_with fail
      refine HZ.out.mono ?_
      rintro e w10 ⟨rfl, h10, t10⟩
      have H10 := hid h10; have T10 := hid (HT.out.trans t10)
      clear h10 t10
      go_wp2_with fail
      go_roundw
      case rel => exact ⟨j + 1, by omega, by go_num, H10.out, T10.out⟩
      case measure => simp [intOf]; omega
    · obtain rfl : j = 4 := by omega
      have hE : ([31, 32, 33, 34].take 4).foldl (rNum xs 1) s9 = s10 := HS10.out.symm
      have hN10 : s10.P.N = [] := by rw [HS10.out, foldR_N]; exact HN9.out
      rw [hE] at hm'
      have HM := hid hm'; have HT := hid ht; have HN10 := hid hN10
      clear hm' ht hE hN10
      go_wp2_with fail
      refine (namesG_any HM.out HN10.out R0.out hg hpk hl).mono ?_
      rintro e w11 ⟨rfl, h11, t11⟩
      have H11 := hid h11; have T11 := hid (HT.out.trans t11)
      clear h11 t11
      go_wp2_with fail
      go_end0
      exact ⟨rfl, H11.out, T11.out⟩
end Go.Proofs.Ytanediaaidfcaaa
/- The coder: a whole packet is read: its words; the rest, whichever. (genWirW.py) -/
namespace Go.Proofs.Ytanediaaidfcaaa
open Go.RowKit
set_option linter.unusedSimpArgs false
set_option linter.unusedVariables false

def rHead (xs : List UInt8) (s : RM) : RM := chkR (rNum xs 8 (rNum xs 4 ([0, 1].foldl (rNum xs 1) s) 2) 3) (okCl ((rNum xs 8 (rNum xs 4 ([0, 1].foldl (rNum xs 1) s) 2) 3).P.I 1))
def rBody (xs : List UInt8) (k : Int) (s : RM) : RM := if k = 1 then rAsk xs s else if k = 2 then rVtold xs s else if k = 3 then rRask xs s else if k = 4 then rRtold xs s else if k = 5 then rNum xs 1 s 18 else ⟨s.at_, true, s.P⟩
def rPacket (xs : List UInt8) (s : RM) : RM := rBody xs ((rHead xs s).P.I 0) (rHead xs s)
theorem rText_N (xs : List UInt8) (k most : Nat) (s : RM) (o : Nat) : (rText xs k most s o).P.N = s.P.N := rfl
theorem RdP.nm {W0 w : World} {g pk : Nat} {a : Option Addr} {c : Nat} {xs : List UInt8} {s : RM} (h : RdP W0 w g pk a c xs none 0 0 s) (hN : s.P.N = []) : NmP W0 w g pk a c xs s := by
  refine ⟨none, 0, ?_, ?_⟩
  · rw [hN]; exact h
  · rw [hN]; exact Own.nil _ _ _ _
/-- no text yet, no names -/
def emptyR (s : RM) : Prop := s.P.N = [] ∧ ∀ o, s.P.S o = []
/-- the rest, whichever it is -/
theorem bodyG_any {W0 w : World} {g pk : Nat} {a : Option Addr} {c : Nat} {xs : List UInt8} {s : RM} (h : RdP W0 w g pk a c xs none 0 0 s) (hE : emptyR s) (r0 : RowB W0 a c xs) (hg : W0.heap.size ≤ g) (hpk : W0.heap.size ≤ pk) (hl : xs.length ≤ 1000000) (k : Int) (f : FuncId) (hf : restF k = some f) :
    Calls Try.prog f #[.pointer (some ⟨g, 0, none⟩), .pointer (some ⟨pk, 0, none⟩)] w fun e w' => e = .returned (.tuple #[]) ∧ NmP W0 w' g pk a c xs (rBody xs k s) ∧ Turns (fun x => x = g ∨ x = pk) w w' := by
  have hs7 : (s.P.S 7).length ≤ 10000 := by rw [hE.2]; simp
  have hs11 : (s.P.S 11).length ≤ 10000 ∧ (s.P.S 12).length ≤ 10000 := by rw [hE.2, hE.2]; simp
  unfold restF at hf
  unfold rBody
  by_cases k1 : k = 1
  · rw [if_pos k1] at hf ⊢
    cases hf
    refine (verbAskG_any h r0 hg hpk hl hs7).mono ?_
    rintro e w' ⟨rfl, h1, t1⟩
    exact ⟨rfl, h1.nm (by unfold rAsk rVerb; rw [foldR_N, rText_N, rNum_N, rNum_N]; show (rNum xs 1 s 4).P.N = []; rw [rNum_N]; exact hE.1), t1⟩
  rw [if_neg k1] at hf ⊢
  by_cases k2 : k = 2
  · rw [if_pos k2] at hf ⊢
    cases hf
    refine (verbToldG_any h r0 hg hpk hl hs7).mono ?_
    rintro e w' ⟨rfl, h1, t1⟩
    exact ⟨rfl, h1.nm (by unfold rVtold rVerb; rw [rNum_N, rText_N, rNum_N]; show (rNum xs 1 s 4).P.N = []; rw [rNum_N]; exact hE.1), t1⟩
  rw [if_neg k2] at hf ⊢
  by_cases k3 : k = 3
  · rw [if_pos k3] at hf ⊢
    cases hf
    refine (rpcAskG_any h r0 hg hpk hl hs11).mono ?_
    rintro e w' ⟨rfl, h1, t1⟩
    exact ⟨rfl, h1.nm (by unfold rRask; rw [rNum_N, rNum_N, rText_N, rText_N, foldR_N]; exact hE.1), t1⟩
  rw [if_neg k3] at hf ⊢
  by_cases k4 : k = 4
  · rw [if_pos k4] at hf ⊢
    cases hf
    exact rpcToldG_any h hE.1 r0 hg hpk hl
  rw [if_neg k4] at hf ⊢
  by_cases k5 : k = 5
  · rw [if_pos k5] at hf ⊢
    cases hf
    refine (recallG_any h r0 hg hpk hl).mono ?_
    rintro e w' ⟨rfl, h1, t1⟩
    exact ⟨rfl, h1.nm (by rw [rNum_N]; exact hE.1), t1⟩
  · rw [if_neg k5] at hf; cases hf
theorem foldR_S (xs : List UInt8) (k : Nat) (os : List Nat) (s : RM) : (os.foldl (rNum xs k) s).P.S = s.P.S := by
  induction os generalizing s with
  | nil => rfl
  | cons o os ih => rw [List.foldl_cons, ih, rNum_S]
theorem RdP.chk' {W0 w : World} {g pk : Nat} {a : Option Addr} {c : Nat} {xs : List UInt8} {na : Option Addr} {nn nc : Nat} {s : RM} (h : RdP W0 w g pk a c xs na nn nc s) (hg : W0.heap.size ≤ g) (ok : Bool) : Calls Try.prog 32 #[.pointer (some ⟨g, 0, none⟩), .bool ok] w fun e w' => e = .returned (.tuple #[]) ∧ RdP W0 w' g pk a c xs na nn nc (chkR s ok) ∧ Turns (fun x => x = g ∨ x = pk) w w' := by
  refine (RdP.chk h hg ok).mono ?_
  rintro e w' ⟨rfl, h1, t1⟩
  exact ⟨rfl, h1, t1.mono (fun _ q => .inl q)⟩
theorem RdP.wrong {W0 w : World} {g pk : Nat} {a : Option Addr} {c : Nat} {xs : List UInt8} {na : Option Addr} {nn nc : Nat} {s : RM} (h : RdP W0 w g pk a c xs na nn nc s) (hg : W0.heap.size ≤ g) : RdP W0 (w.setCell ⟨g, 3, none⟩ (.bool true)) g pk a c xs na nn nc ⟨s.at_, true, s.P⟩ ∧ Turns (fun x => x = g ∨ x = pk) w (w.setCell ⟨g, 3, none⟩ (.bool true)) := by
  obtain ⟨h1, h2, h3, h4⟩ := h
  have t : Turns (fun x => x = g) w (w.setCell ⟨g, 3, none⟩ (.bool true)) := turns_setG g 3 _
  exact ⟨⟨Blk.set h1 3 _, ⟨h2.1, fun q => (by cases q)⟩, t.blk h3 (blk_ne h3 h1 (by decide)), h4.trans (t.below h4.size (fun x hx => by rw [hx]; exact hg))⟩, t.mono (fun _ q => .inl q)⟩
end Go.Proofs.Ytanediaaidfcaaa
