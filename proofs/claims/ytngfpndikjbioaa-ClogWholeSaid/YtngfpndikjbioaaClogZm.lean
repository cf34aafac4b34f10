import Derived.Test.YtngfpndikjbioaaClogZl
namespace Go.Proofs.Ytngfpndikjbioaa
open Go.RowKit Go.WideShapes
set_option linter.unusedSimpArgs false
set_option linter.unusedVariables false

def oV (x : Nat) : Value := .int .i64 (x : Int)
theorem one_int (v : Value) (h : v.oneCell' = true) : ∀ u ∈ [v], u.oneCell' = true := by
  intro u hu
  simp only [List.mem_cons, List.not_mem_nil, or_false] at hu
  subst hu; exact h

theorem row_drop {w : World} {sz g off n c : Nat} {cs : List Value} (h : Row w sz (some ⟨g, off, none⟩) n c cs) (k : Nat) (hk : k ≤ n) : Row w sz (some ⟨g, off + k * sz, none⟩) (n - k) (c - k) (cs.drop (k * sz)) := by
  obtain ⟨h1, h2, h3, h4, h5⟩ := h
  refine ⟨by rw [List.length_drop, h1, Nat.sub_mul], by omega, by omega, (fun h => by simp at h), fun hn => ?_⟩
  obtain ⟨b, o, e, hlt, hc⟩ := h5 (by omega)
  cases e
  refine ⟨g, off + k * sz, rfl, hlt, fun j u hu => ?_⟩
  rw [List.getElem?_drop] at hu
  rw [Nat.add_assoc]; exact hc _ _ hu
theorem flat5_drop (R : List RecT) (k : Nat) : (R.flatMap recCells).drop (k * 5) = (R.drop k).flatMap recCells := by
  induction R generalizing k with
  | nil => simp
  | cons r R ih =>
    cases k with
    | zero => simp
    | succ k =>
      rw [List.flatMap_cons, List.drop_succ_cons, ← ih k, show (k + 1) * 5 = (recCells r).length + k * 5 by show _ = 5 + _; omega, List.drop_append]
      simp
theorem row_empty (w : World) (sz : Nat) (a : Addr) (d : Nat) (hd : d ≤ maxLen) : Row w sz (some a) 0 d [] := ⟨by simp, Nat.zero_le _, hd, (fun h => by simp at h), (fun h => absurd h (by omega))⟩
theorem own_none {w : World} {B : Nat} {e : TypeId} {sz n c : Nat} {a : Option Addr} {cs : List Value} (h : Own w B e sz a n c cs) : (a = none ∧ n = 0 ∧ c = 0) ∨ ∃ g, a = some ⟨g, 0, none⟩ := by
  obtain ⟨h0, h⟩ := h
  rcases h with ⟨hv, hz⟩ | ⟨g', cap, cur, hv, _⟩
  · cases hv; exact .inl ⟨rfl, rfl, rfl⟩
  · cases hv; exact .inr ⟨g', rfl⟩

theorem same16_eq (a b : Option Addr) (c d : Nat) (L : List RecT) (n1 n2 : Nat) (w : World) (h1 : L.length = n1) (h2 : L.length = n2) (ha : RowR w a c L) (hb : RowR w b d L) :
    Calls Try.prog 23 #[.slice a n1 c, .slice b n2 d] w fun e w' => e = .returned (.bool true) ∧ Below w.heap.size w w' := by
  subst h1
  have h := same16_any a b c d L w ha hb
  rw [h2] at h ⊢; exact h
theorem sameInts_eq (a b : Option Addr) (c d : Nat) (L : List Int) (n1 n2 : Nat) (w : World) (h1 : L.length = n1) (h2 : L.length = n2) (ha : RowI w a c L) (hb : RowI w b d L) :
    Calls Try.prog 24 #[.slice a n1 c, .slice b n2 d] w fun e w' => e = .returned (.bool true) ∧ Below w.heap.size w w' := by
  subst h1
  have h := sameInts_any a b c d L L w ha hb
  rw [decide_eq_true rfl] at h
  rw [h2] at h ⊢; exact h

set_option maxHeartbeats 8000000 in
set_option maxRecDepth 100000 in
theorem ClogWhole_walk (w : World) (a0 : Option Addr) (c0 : Nat) (L0 : List RecT) (h0 : RowR w a0 c0 L0) (ep : Int) (wep : (Lit.int .i64 ep).wf = true) (oth : Int) (woth : (Lit.int .i64 oth).wf = true) (at_ : Int) (wat : (Lit.int .i64 at_).wf = true) :
    Calls Try.prog 8 #[.slice a0 L0.length c0, .int .i64 ep, .int .i64 oth, .int .i64 at_] w fun e w' => e = .returned (.bool true) ∧ Below w.heap.size w w' := by
  have bat := i64_bd wat
  have bep := i64_bd wep
  have hl0 := rowR_len h0
  have H0 := hid h0
  clear h0 wep woth wat
  have hS0 : Blk (w.alloc (.cells #[.int .i64 0] 3)) w.heap.size 3 [.int .i64 0] := heap_alloc_new w _
  have HO0 : Hid (Own (w.alloc (.cells #[.int .i64 0] 3)) w.heap.size 3 1 (some ⟨w.heap.size, 0, none⟩) 1 1 ((offs 0 []).map oV)) := Blk.own hS0 (Nat.le_refl _) (by unfold maxLen; simp [offs])
  have HB0 : Hid (Below w.heap.size w (w.alloc (.cells #[.int .i64 0] 3))) := (Below.refl _ w).alloc (Nat.le_refl _) _
  clear hS0
  go_enter Try.func8, Try.ntmps8
  go_wp2_with fail
  go_loopw [9, 10, 11, 12] (fun b o s i wr => ∃ (k n m c1 c2 c3 : Nat) (a1 a2 a3 : Option Addr) (R : List RecT), k ≤ 9 ∧ k ≤ L0.length ∧ i = .int .i64 k ∧ b = .slice a1 n c1 ∧ o = .slice a2 m c2 ∧ s = .slice a3 (m + 1) c3 ∧ R.length = m ∧ m ≤ k ∧ (R.flatMap recB).length = n ∧ (∀ r ∈ R, recOk r) ∧ Own wr w.heap.size 5 1 a1 n c1 ((R.flatMap recB).map byteV) ∧ Own wr w.heap.size 23 5 a2 m c2 (R.flatMap recCells) ∧ Own wr w.heap.size 3 1 a3 (m + 1) c3 ((offs 0 R).map oV) ∧ Below w.heap.size w wr) (fun _ _ _ i _ => 9 - (intOf i).toNat)
  case atStart => exact ⟨0, 0, 0, 0, 0, 1, none, none, _, [], by omega, by omega, rfl, rfl, rfl, rfl, rfl, by omega, rfl, by simp, Own.nil _ _ _ _, Own.nil _ _ _ _, HO0.out, HB0.out⟩
  case round =>
  obtain ⟨k, n, m, c1, c2, c3, a1, a2, a3, R, hk9, hkl, rfl, rfl, rfl, rfl, hRm, hmk, hRn, hRok, o1, o2, o3, hbel⟩ := hrel
  have HRM := hid hRm; have HRN := hid hRn; have HROK := hid hRok
  have hfb := (flat_bound R hRok).2
  rw [hRm, hRn] at hfb
  have hn9 : n ≤ 936 := by omega
  clear hRm hRn hRok hfb HB0 HO0
  by_cases hk : k < L0.length ∧ k < 9
  · obtain ⟨ba, oa, rfl, hba, hca⟩ := rowR_cells H0.out (by omega)
    have ca := hca k hk.1
    clear hca
    generalize L0.getD k rec0 = rr at *
    obtain ⟨rc, ri, rt, ro, rs⟩ := rr
    have q0 := ca 0 _ rfl; have q1 := ca 1 _ rfl; have q2 := ca 2 _ rfl; have q3 := ca 3 _ rfl; have q4 := ca 4 _ rfl
    simp only [Nat.add_zero] at q0
    have Q := hid ca
    clear ca
    have q0 : wr.cell? ⟨ba, oa + k * 5, none⟩ = some (.int .i64 rc) := (hbel.cell (p := ⟨ba, oa + k * 5, none⟩) hba).trans q0
    have q1 : wr.cell? ⟨ba, oa + k * 5 + 1, none⟩ = some (.int .i64 ri) := (hbel.cell (p := ⟨ba, oa + k * 5 + 1, none⟩) hba).trans q1
    have q2 : wr.cell? ⟨ba, oa + k * 5 + 2, none⟩ = some (.bool rt) := (hbel.cell (p := ⟨ba, oa + k * 5 + 2, none⟩) hba).trans q2
    have q3 : wr.cell? ⟨ba, oa + k * 5 + 3, none⟩ = some (.int .i64 ro) := (hbel.cell (p := ⟨ba, oa + k * 5 + 3, none⟩) hba).trans q3
    have q4 : wr.cell? ⟨ba, oa + k * 5 + 4, none⟩ = some (.string rs) := (hbel.cell (p := ⟨ba, oa + k * 5 + 4, none⟩) hba).trans q4
    have HC := fun w1 => cutS_any rc ri rt ro rs w1
    have HE := fun w1 => enc_any rc ri rt ro (cutS rs) w1
    have hcs := cutS_size rs
    unfold recV at HC HE
    generalize cutS rs = cs at *
    have dk1 : decide ((k : Int) < (L0.length : Int)) = true := decide_eq_true (by omega)
    have dk1' : decide (k < L0.length) = true := decide_eq_true hk.1
    have dk2 : decide ((k : Int) < 9) = true := decide_eq_true (by omega)
    have dk2' : decide (k < 9) = true := decide_eq_true hk.2
    have ik : (k : Int) < (L0.length : Int) := by omega
    have O1 := hid o1; have O2 := hid o2; have O3 := hid o3; have HB := hid hbel
    clear o1 o2 o3 hbel
    by_cases hm : recMay rc ri rt ro cs = true
    · have hOK : recOk ⟨rc, ri, rt, ro, cs⟩ := ⟨hm, hcs⟩
      have hX := recB_len hOK
      have hXe : recB ⟨rc, ri, rt, ro, cs⟩ = recL rc ri rt ro cs := rfl
      rw [← hXe] at HE
      simp only [if_pos hm] at HE
      have HOK := hid hOK
      have hRB : ∀ R' : List RecT, (R' ++ [(⟨rc, ri, rt, ro, cs⟩ : RecT)]).flatMap recB = R'.flatMap recB ++ recB ⟨rc, ri, rt, ro, cs⟩ := fun R' => by simp
      have hOF : (offs 0 (R ++ [(⟨rc, ri, rt, ro, cs⟩ : RecT)])) = offs 0 R ++ [n + (recB ⟨rc, ri, rt, ro, cs⟩).length] := by rw [offs_snoc, HRN.out, Nat.zero_add]
      generalize recB ⟨rc, ri, rt, ro, cs⟩ = X at *
      have HE := hid HE; have HC := hid HC; have HRB := hid hRB; have HOF := hid hOF
      obtain ⟨_, hX1, hX2⟩ := hX
      clear hXe hRB hOF hm hOK
      have t1 : True := trivial
      have t2 : True := trivial
      have t3 : True := trivial
      go_wp2_with fail
      refine (HC.out _).mono ?_
      rintro e w4 ⟨rfl, b4⟩
      go_wp2_with fail
      refine (HE.out _).mono ?_
      rintro e w5 ⟨a5, c5, rfl, o5, b5⟩
      have K5 := hid (kept_trans (kept_trans HB.out b4) b5)
      have P1 := hid ((O1.out.mono b4).mono b5); have P2 := hid ((O2.out.mono b4).mono b5); have P3 := hid ((O3.out.mono b4).mono b5)
      have RX := hid o5.row
      clear b4 b5 o5
      go_wp2_with (first
        | (at_builtin; have _t := t1; refine wpl_append rfl (.tmp 46) (.tmp 47) rfl E8 w.heap.size rfl rfl P1.out RX.out (byteV_one X) (by omega) (by omega) K5.out.size ?_; clear t1; intro a6 c6 w6 o6 g6 b6
           have S2 := hid (P2.out.stays g6 (own_apart P2.out P1.out (by decide))); have S3 := hid (P3.out.stays g6 (own_apart P3.out P1.out (by decide)))
           have S1 := hid o6; have K6 := hid (below_trans K5.out b6 (Nat.le_refl _))
           have z0 : w6.cell? ⟨ba, oa + k * 5, none⟩ = some (.int .i64 rc) := (K6.out.cell (p := ⟨ba, oa + k * 5, none⟩) hba).trans (Q.out 0 _ rfl)
           have z1 : w6.cell? ⟨ba, oa + k * 5 + 1, none⟩ = some (.int .i64 ri) := (K6.out.cell (p := ⟨ba, oa + k * 5 + 1, none⟩) hba).trans (Q.out 1 _ rfl)
           have z2 : w6.cell? ⟨ba, oa + k * 5 + 2, none⟩ = some (.bool rt) := (K6.out.cell (p := ⟨ba, oa + k * 5 + 2, none⟩) hba).trans (Q.out 2 _ rfl)
           have z3 : w6.cell? ⟨ba, oa + k * 5 + 3, none⟩ = some (.int .i64 ro) := (K6.out.cell (p := ⟨ba, oa + k * 5 + 3, none⟩) hba).trans (Q.out 3 _ rfl)
           have z4 : w6.cell? ⟨ba, oa + k * 5 + 4, none⟩ = some (.string rs) := (K6.out.cell (p := ⟨ba, oa + k * 5 + 4, none⟩) hba).trans (Q.out 4 _ rfl)
           clear o6 g6 b6 P1 P2 P3)
        | (go_at_call 9; refine (HC.out _).mono ?_; rintro e w7 ⟨rfl, b7⟩; have K7 := hid (kept_trans K6.out b7); have T1 := hid (S1.out.mono b7); have T2 := hid (S2.out.mono b7); have T3 := hid (S3.out.mono b7); clear b7 S1 S2 S3)
        | (at_builtin; have _t := t2; obtain ⟨W8, hW8⟩ : ∃ W8, W8 = w7.alloc (.cells #[.int .i64 rc, .int .i64 ri, .bool rt, .int .i64 ro, .string cs] 23) := ⟨_, rfl⟩; have k8 : Blk W8 w7.heap.size 23 (recCells ⟨rc, ri, rt, ro, cs⟩) := by rw [hW8]; exact heap_alloc_new w7 _
           have u1 : Own W8 w.heap.size 5 1 a6 (n + X.length) c6 ((R.flatMap recB).map byteV ++ X.map byteV) := by rw [hW8]; exact T1.out.alloc _
           have u2 : Own W8 w.heap.size 23 5 a2 m c2 (R.flatMap recCells) := by rw [hW8]; exact T2.out.alloc _
           have u3 : Own W8 w.heap.size 3 1 a3 (m + 1) c3 ((offs 0 R).map oV) := by rw [hW8]; exact T3.out.alloc _
           have B8 : Below w.heap.size w W8 := by rw [hW8]; exact K7.out.alloc K7.out.size _
           rw [← hW8]
           clear hW8
           refine wpl_append rfl (.tmp 49) (.tmp 55) rfl ER w.heap.size rfl rfl u2 (row_blk k8 5 1 rfl (by unfold maxLen; omega)) (rec_oneCell _) (by omega) (by omega) B8.size ?_
           clear t2
           intro a9 c9 w9 o9 g9 b9
           have V1 := hid (u1.stays g9 (own_apart u1 u2 (by decide))); have V3 := hid (u3.stays g9 (own_apart u3 u2 (by decide)))
           have V2 := hid o9; have K9 := hid (below_trans B8 b9 (Nat.le_refl _))
           clear u1 u2 u3 o9 g9 b9 B8 k8 T1 T2 T3)
        | (at_builtin; have _t := t3; obtain ⟨W10, hW10⟩ : ∃ W10, W10 = w9.alloc (.cells #[.int .i64 ((n : Int) + (X.length : Int))] 3) := ⟨_, rfl⟩; have k10 : Blk W10 w9.heap.size 3 [.int .i64 ((n : Int) + (X.length : Int))] := by rw [hW10]; exact heap_alloc_new w9 _
           have u1 : Own W10 w.heap.size 5 1 a6 (n + X.length) c6 ((R.flatMap recB).map byteV ++ X.map byteV) := by rw [hW10]; exact V1.out.alloc _
           have u2 : Own W10 w.heap.size 23 5 a9 (m + 1) c9 (R.flatMap recCells ++ recCells ⟨rc, ri, rt, ro, cs⟩) := by rw [hW10]; exact V2.out.alloc _
           have u3 : Own W10 w.heap.size 3 1 a3 (m + 1) c3 ((offs 0 R).map oV) := by rw [hW10]; exact V3.out.alloc _
           have B10 : Below w.heap.size w W10 := by rw [hW10]; exact K9.out.alloc K9.out.size _
           rw [← hW10]
           clear hW10
           refine wpl_append rfl (.tmp 57) (.tmp 60) rfl EI w.heap.size rfl rfl u3 (row_blk k10 1 1 rfl (by unfold maxLen; omega)) (one_int _ rfl) (by omega) (by omega) B10.size ?_
           clear t3
           intro a11 c11 w11 o11 g11 b11
           have Y1 := hid (u1.stays g11 (own_apart u1 u3 (by decide))); have Y2 := hid (u2.stays g11 (own_apart u2 u3 (by decide)))
           have Y3 := hid o11; have K11 := hid (below_trans B10 b11 (Nat.le_refl _))
           clear u1 u2 u3 o11 g11 b11 B10 k10 V1 V2 V3))
      go_roundw
      case rel => exact ⟨k + 1, n + X.length, m + 1, c6, c9, c11, a6, a9, a11, R ++ [(⟨rc, ri, rt, ro, cs⟩ : RecT)], by omega, by omega, by go_num, rfl, rfl, rfl, by simp [HRM.out], by omega, by rw [HRB.out, List.length_append, HRN.out], (fun r hr => by rcases List.mem_append.1 hr with h | h; exact HROK.out r h; (simp only [List.mem_cons, List.not_mem_nil, or_false] at h; subst h; exact HOK.out)), by rw [HRB.out, List.map_append]; exact Y1.out, by rw [flat_snoc]; exact Y2.out, by rw [HOF.out, List.map_append]; exact Y3.out, K11.out⟩
      case measure => simp [intOf]; omega
    · have hX0 : recL rc ri rt ro cs = [] := by unfold recL; rw [if_neg hm]
      simp only [if_neg hm, hX0] at HE
      have HE := hid HE; have HC := hid HC
      clear hm hX0
      go_wp2_with fail
      refine (HC.out _).mono ?_
      rintro e w4 ⟨rfl, b4⟩
      go_wp2_with fail
      refine (HE.out _).mono ?_
      rintro e w5 ⟨a5, c5, rfl, o5, b5⟩
      have K5 := hid (kept_trans (kept_trans HB.out b4) b5)
      have P1 := hid ((O1.out.mono b4).mono b5); have P2 := hid ((O2.out.mono b4).mono b5); have P3 := hid ((O3.out.mono b4).mono b5)
      clear b4 b5 o5
      go_wp2_with fail
      go_roundw
      case rel => exact ⟨k + 1, n, m, c1, c2, c3, a1, a2, a3, R, by omega, by omega, by go_num, rfl, rfl, rfl, HRM.out, by omega, HRN.out, HROK.out, P1.out, P2.out, P3.out, K5.out⟩
      case measure => simp [intOf]; omega
  · have O1 := hid o1; have O2 := hid o2; have O3 := hid o3; have HB := hid hbel
    clear o1 o2 o3 hbel
    have HEnd := fun w1 => end_any ep n w1
    unfold endX endE at HEnd
    rcases (by omega : ¬ k < L0.length ∨ (k < L0.length ∧ k = 9)) with h | ⟨h, rfl⟩
    · have dk1 : decide ((k : Int) < (L0.length : Int)) = false := decide_eq_false (by omega)
      have dk1' : decide (k < L0.length) = false := decide_eq_false h
      clear hk
      by_cases hE : 0 ≤ ep ∧ ep ≤ 1073741824
      · obtain ⟨p, rfl⟩ := Int.eq_ofNat_of_zero_le hE.1
        have hp : p ≤ 1073741824 := by omega
        have hb8 := (flat_bound R HROK.out).1
        rw [HRN.out] at hb8
        have hok : okE (p : Int) (n : Int) = true := okE_t ⟨by omega, by omega, by omega, by omega, by omega⟩
        simp only [hok, if_true] at HEnd
        clear hok hb8
        obtain ⟨x, hx⟩ : ∃ x, x = 4294967296 * p + n := ⟨_, rfl⟩
        rw [show (4294967296 * (p : Int) + (n : Int)) = ((x : Nat) : Int) by omega] at HEnd
        have HEnd := hid HEnd
        have hx9 : (x : Int) ≤ 9223372036854775807 := by omega
        have HLg := fun w1 r1 => log16_any (x : Int) a1 c1 (R.flatMap recB) w1 r1 hx9
        have ROB : RowB wr a1 c1 (R.flatMap recB) := by have q := O1.out.row; unfold RowB; rw [HRN.out]; exact q
        have ROB := hid ROB
        rw [HRN.out] at HLg
        have HZL := logF_len (x : Int) (R.flatMap recB) hx9
        unfold RetB at HLg
        rw [HZL] at HLg
        have HZR : Hid (∀ (w1 w2 : World) (B : Nat) (pa : Option Addr) (pc : Nat), OwnB w1 B pa pc (logF (x : Int) (R.flatMap recB)) → Below w1.heap.size w1 w2 → RowB w2 pa pc (logF (x : Int) (R.flatMap recB))) := fun w1 w2 B pa pc o b => o.row.mono b
        have hS1 := fun (k2 : Nat) (hk2 : k2 ≤ m) => scanF_recs R HROK.out (by rw [HRM.out]; omega) p k2 hp (by rw [HRM.out]; exact hk2)
        rw [HRN.out, ← hx] at hS1
        have hS2 := fun (hne : ((p : Nat) : Int) ≠ oth) => scanF_other x (by omega) (R.flatMap recB) oth 0 (by rw [show x / 4294967296 = p by omega]; exact hne)
        have S1 := fun (k2 : Nat) (pa : Option Addr) (pc : Nat) (w1 : World) r1 => scan_any pa pc (logF (x : Int) (R.flatMap recB)) (p : Int) (((offs 0 R).getD k2 0 : Nat) : Int) w1 r1
        have S2 := fun (pa : Option Addr) (pc : Nat) (w1 : World) r1 => scan_any pa pc (logF (x : Int) (R.flatMap recB)) oth 0 w1 r1
        rw [HZL] at S1 S2
        obtain ⟨G, hG⟩ : ∃ G, G = scanF (logF (x : Int) (R.flatMap recB)) oth 0 := ⟨_, rfl⟩
        rw [← hG] at S2 hS2
        have HLg := hid HLg; have S2 := hid S2; have HS2 := hid hS2
        clear hS2 hG HZL
        generalize logF (x : Int) (R.flatMap recB) = zs at *
        have HX := hid hx
        clear hx hE
        obtain ⟨A, hA9, hA⟩ : ∃ A : Nat, A ≤ 9223372036854775807 ∧ ((at_ < 0 ∧ -(at_ + 1) = (A : Int)) ∨ at_ = (A : Int)) := by
          rcases Int.lt_or_le at_ 0 with h | h
          · exact ⟨(-(at_ + 1)).toNat, by omega, .inl ⟨h, by omega⟩⟩
          · exact ⟨at_.toNat, by omega, .inr (by omega)⟩
        have hk2 : A % (m + 1) ≤ m := by have := Nat.mod_lt A (show 0 < m + 1 by omega); omega
        have em1 : ((A : Nat) : Int).tmod ((m : Int) + 1) = ((A % (m + 1) : Nat) : Int) := by rw [show (m : Int) + 1 = ((m + 1 : Nat) : Int) by omega]; rfl
        generalize A % (m + 1) = k2 at *
        have hS1 := hS1 k2 hk2
        have S1 := S1 k2
        rw [hS1] at S1
        have S1 := hid S1
        clear hS1
        have ew1 : IntKind.i64.wrap (k2 : Int) = k2 := IntWalk.i64_in _ (by omega)
        have ew5 : IntKind.i64.wrap ((k2 : Int) + 1) = (k2 : Int) + 1 := IntWalk.i64_in _ (by omega)
        have em0 : ((m : Int) + 1 == 0) = false := by simp; omega
        have em3 : ¬ ((m : Int) + 1 = 0) := by omega
        obtain ⟨g3, rfl⟩ := Own.addr O3.out (by omega)
        obtain ⟨LL, kb, hll, hBg, htk, hnc3, hcm⟩ := Own.blk O3.out
        have hg3 := kb.lt
        clear kb hll hBg htk
        have hcell : wr.cell? ⟨g3, k2, none⟩ = some (.int .i64 (((offs 0 R).getD k2 0 : Nat) : Int)) := by
          obtain ⟨b, off, e, hlt, hc⟩ := O3.out.row.at (by omega)
          cases e
          have := hc k2 (oV ((offs 0 R).getD k2 0)) (by
            have hol : k2 < (offs 0 R).length := by rw [offs_length, HRM.out]; omega
            rw [List.getElem?_map, List.getElem?_eq_getElem hol, List.getD_eq_getElem?_getD, List.getElem?_eq_getElem hol]; rfl)
          rw [Nat.zero_add] at this
          exact this
        generalize (offs 0 R).getD k2 0 = v at *
        have hFf : ((R.drop k2).zip ((offs 0 R).drop (k2 + 1))).map Prod.fst = R.drop k2 := List.map_fst_zip (by rw [List.length_drop, List.length_drop, offs_length]; omega)
        have hFs : ((R.drop k2).zip ((offs 0 R).drop (k2 + 1))).map (fun x => (x.2 : Int)) = ((offs 0 R).drop (k2 + 1)).map (fun x : Nat => (x : Int)) := by
          have := List.map_snd_zip (l₁ := R.drop k2) (l₂ := (offs 0 R).drop (k2 + 1)) (by rw [List.length_drop, List.length_drop, offs_length]; omega)
          have e : (fun x : RecT × Nat => ((x.2 : Nat) : Int)) = (fun x : Nat => (x : Int)) ∘ Prod.snd := rfl
          rw [e, ← List.map_map, this]
        have hFl : ((R.drop k2).zip ((offs 0 R).drop (k2 + 1))).length = m - k2 := by rw [List.length_zip, List.length_drop, List.length_drop, offs_length, HRM.out]; omega
        have HFf := hid hFf; have HFs := hid hFs; have HFl := hid hFl
        clear hFf hFs hFl
        generalize (R.drop k2).zip ((offs 0 R).drop (k2 + 1)) = F at *
        have ik2 : (k2 : Int) < (m : Int) + 1 := by omega
        have HCELL := hid hcell
        clear hcell
        have dpos : ∀ (hh : at_ = (A : Int)), decide ((A : Int) < 0) = false := fun _ => decide_eq_false (by omega)
        rcases hA with hA | rfl
        · have dn : decide (at_ < 0) = true := decide_eq_true hA.1
          have wn1 : IntKind.i64.wrap (at_ + 1) = at_ + 1 := IntWalk.i64_in _ (by omega)
          have wn2 : IntKind.i64.wrap (-(at_ + 1)) = (A : Int) := by rw [← hA.2]; exact IntWalk.i64_in _ (by omega)
          clear dpos hA bat
          go_wp2_with fail
          refine (HEnd.out wr).mono ?_
          rintro e w2 ⟨rfl, rfl⟩
          go_wp2_with fail
          have hS0 : wr.drew.cell? ⟨g3, k2, none⟩ = some (.int .i64 (v : Nat)) ∧ Below wr.heap.size wr wr.drew := ⟨HCELL.out, (Below.refl _ _).drew⟩
          refine wp_region_held_drew (S := fun w' => w'.cell? ⟨g3, k2, none⟩ = some (.int .i64 (v : Nat)) ∧ Below wr.heap.size wr w') (by kernel_rfl) hS0 (fun hS_0 => ?_)
          refine takeR (i := 0) (v := .int .i64 (x : Nat)) rfl rfl (by kernel_rfl) (by kernel_rfl) (by kernel_rfl) (fun _ _ _ h => h) (Or.inl ⟨Eq.refl true, fun w1 hSw => ?_⟩) hS_0 ?_
          · first | rfl | (clear hSw; go_simp; done) | (clear hSw; go_simp; rfl)
          (try simp only [Act.put, List.setIfInBounds_toArray, List.set_cons_zero, List.set_cons_succ])
          refine takeR (i := 1) (v := .slice a1 n c1) rfl rfl (by kernel_rfl) (by kernel_rfl) (by kernel_rfl) (fun _ _ _ h => h) (Or.inl ⟨Eq.refl true, fun w1 hSw => ?_⟩) hS_0 ?_
          · first | rfl | (clear hSw; go_simp; done) | (clear hSw; go_simp; rfl)
          (try simp only [Act.put, List.setIfInBounds_toArray, List.set_cons_zero, List.set_cons_succ])
          refine takeR (i := 3) (v := .int .i64 (p : Nat)) rfl rfl (by kernel_rfl) (by kernel_rfl) (by kernel_rfl) (fun _ _ _ h => h) (Or.inl ⟨Eq.refl true, fun w1 hSw => ?_⟩) hS_0 ?_
          · first | rfl | (clear hSw; go_simp; done) | (clear hSw; go_simp; rfl)
          (try simp only [Act.put, List.setIfInBounds_toArray, List.set_cons_zero, List.set_cons_succ])
          refine takeR (i := 4) (v := .slice (some ⟨g3, 0, none⟩) (m + 1) c3) rfl rfl (by kernel_rfl) (by kernel_rfl) (by kernel_rfl) (fun _ _ _ h => h) (Or.inl ⟨Eq.refl true, fun w1 hSw => ?_⟩) hS_0 ?_
          · first | rfl | (clear hSw; go_simp; done) | (clear hSw; go_simp; rfl)
          (try simp only [Act.put, List.setIfInBounds_toArray, List.set_cons_zero, List.set_cons_succ])
          refine takeR (i := 5) (v := .int .i64 (k2 : Nat)) rfl rfl (by kernel_rfl) (by kernel_rfl) (by kernel_rfl) (fun _ _ _ h => h) (Or.inl ⟨Eq.refl true, fun w1 hSw => ?_⟩) hS_0 ?_
          · first | rfl | (clear hSw; go_simp; done) | (clear hSw; go_simp; rfl)
          (try simp only [Act.put, List.setIfInBounds_toArray, List.set_cons_zero, List.set_cons_succ])
          refine takeR (i := 6) (v := .pointer (some ⟨g3, k2, none⟩)) rfl rfl (by kernel_rfl) (by kernel_rfl) (by kernel_rfl) (fun _ _ _ h => h) (Or.inl ⟨Eq.refl true, fun w1 hSw => ?_⟩) hS_0 ?_
          · first | rfl | (clear hSw; go_simp; done) | (clear hSw; go_simp; rfl)
          (try simp only [Act.put, List.setIfInBounds_toArray, List.set_cons_zero, List.set_cons_succ])
          refine takeR (i := 7) (v := .int .i64 (v : Nat)) rfl rfl (by kernel_rfl) (by kernel_rfl) (by kernel_rfl) (fun _ _ _ h => h) (Or.inl ⟨Eq.refl true, fun w1 hSw => ?_⟩) hS_0 ?_
          · (obtain ⟨q1, q2⟩ := hSw; go_simp; try rfl)
          (try simp only [Act.put, List.setIfInBounds_toArray, List.set_cons_zero, List.set_cons_succ])
          refine wpAnyH_ready (rs := [2]) (by kernel_rfl) (by simp) (AllReadyH.cons rfl (fun K hK => ?_) AllReadyH.nil)
          go_simp
          go_wp2_with (go_at_call 20; refine (HLg.out _ (ROB.out.mono hS_0.2)).mono ?_; rintro e w10 ⟨pa, pc, rfl, o10, b10⟩)
          refine hK.out _ _ ?_ (fun hS_1 => ?_)
          · exact ⟨(b10.cell (p := ⟨g3, k2, none⟩) (Nat.lt_of_lt_of_le hg3 hS_0.2.size)).trans hS_0.1, kept_trans hS_0.2 b10⟩
          clear hK K
          refine wpAnyH_ready (rs := [8]) (by kernel_rfl) (by simp) (AllReadyH.cons rfl (fun K hK => ?_) AllReadyH.nil)
          go_simp
          go_wp2_with (go_at_call 21; refine (S1.out pa pc w10 (HZR.out w10 w10 _ pa pc o10 (Below.refl _ _))).mono ?_; rintro e w11 ⟨p1, d1, p2, d2, rfl, r1, r2, b11⟩)
          refine hK.out _ _ ?_ (fun hS_2 => ?_)
          · exact ⟨(b11.cell (p := ⟨g3, k2, none⟩) (Nat.lt_of_lt_of_le hg3 hS_1.2.size)).trans hS_1.1, kept_trans hS_1.2 b11⟩
          clear hK K
          refine takeR (i := 9) (v := .tuple #[.slice p1 (F.length) d1, .slice p2 (F.length) d2]) rfl rfl (by kernel_rfl) (by kernel_rfl) (by kernel_rfl) (fun _ _ _ h => h) (Or.inl ⟨Eq.refl true, fun w1 hSw => ?_⟩) hS_2 ?_
          · first | rfl | (clear hSw; go_simp; done) | (clear hSw; go_simp; rfl)
          (try simp only [Act.put, List.setIfInBounds_toArray, List.set_cons_zero, List.set_cons_succ])
          refine takeR (i := 10) (v := .slice p1 (F.length) d1) rfl rfl (by kernel_rfl) (by kernel_rfl) (by kernel_rfl) (fun _ _ _ h => h) (Or.inl ⟨Eq.refl true, fun w1 hSw => ?_⟩) hS_2 ?_
          · first | rfl | (clear hSw; go_simp; done) | (clear hSw; go_simp; rfl)
          (try simp only [Act.put, List.setIfInBounds_toArray, List.set_cons_zero, List.set_cons_succ])
          refine takeR (i := 11) (v := .slice p2 (F.length) d2) rfl rfl (by kernel_rfl) (by kernel_rfl) (by kernel_rfl) (fun _ _ _ h => h) (Or.inl ⟨Eq.refl true, fun w1 hSw => ?_⟩) hS_2 ?_
          · first | rfl | (clear hSw; go_simp; done) | (clear hSw; go_simp; rfl)
          (try simp only [Act.put, List.setIfInBounds_toArray, List.set_cons_zero, List.set_cons_succ])
          refine takeR (i := 12) (v := .slice p1 (F.length) d1) rfl rfl (by kernel_rfl) (by kernel_rfl) (by kernel_rfl) (fun _ _ _ h => h) (Or.inl ⟨Eq.refl true, fun w1 hSw => ?_⟩) hS_2 ?_
          · first | rfl | (clear hSw; go_simp; done) | (clear hSw; go_simp; rfl)
          (try simp only [Act.put, List.setIfInBounds_toArray, List.set_cons_zero, List.set_cons_succ])
          refine takeR (i := 13) (v := .slice p2 (F.length) d2) rfl rfl (by kernel_rfl) (by kernel_rfl) (by kernel_rfl) (fun _ _ _ h => h) (Or.inl ⟨Eq.refl true, fun w1 hSw => ?_⟩) hS_2 ?_
          · first | rfl | (clear hSw; go_simp; done) | (clear hSw; go_simp; rfl)
          (try simp only [Act.put, List.setIfInBounds_toArray, List.set_cons_zero, List.set_cons_succ])
          refine wpAnyH_done (by kernel_rfl) ?_ _
          rw [HFf.out] at r1
          rw [HFs.out] at r2
          have R1 := hid r1; have R2 := hid r2
          have K11 := hid hS_2.2
          have HB11 := hid (kept_trans HB.out hS_2.2)
          have O2b := hid (O2.out.mono hS_2.2); have O3b := hid (O3.out.mono hS_2.2); have ROB2 := hid (ROB.out.mono hS_2.2)
          have hEl : (R.drop k2).length = m - k2 := by rw [List.length_drop, HRM.out]
          have hZl : (((offs 0 R).drop (k2 + 1)).map (fun x : Nat => (x : Int))).length = m + 1 - (k2 + 1) := by rw [List.length_map, List.length_drop, offs_length, HRM.out]
          have hZm : (((offs 0 R).drop (k2 + 1)).map (fun x : Nat => (x : Int))).map iV = ((offs 0 R).map oV).drop (k2 + 1) := by rw [List.map_map, ← List.map_drop]; rfl
          have hED : (R.flatMap recCells).drop (k2 * 5) = (R.drop k2).flatMap recCells := flat5_drop R k2
          have HED := hid hED
          have hc2m := O2b.out.row.2.1
          have hc2x := O2b.out.row.2.2.1
          have HEL := hid hEl; have HZL := hid hZl; have HZM := hid hZm
          clear hS_0 hS_1 hS_2 hS0 r1 r2 b10 b11 o10 O2 O3 HCELL HEnd S1 HFf HFs ROB HB hEl hZl hZm hED
          generalize R.drop k2 = E at *
          generalize ((offs 0 R).drop (k2 + 1)).map (fun x : Nat => (x : Int)) = Zs at *
          have s1 : (k2 : Int) ≤ (m : Int) := by omega
          have s2 : (k2 : Int) + 1 ≤ (m : Int) + 1 := by omega
          have s3 : ((k2 : Int) + 1).toNat = k2 + 1 := by omega
          have s4 : 0 ≤ (k2 : Int) + 1 := by omega
          have HFE := hid (show E.length = F.length by rw [HEL.out, HFl.out])
          have HFZ := hid (show Zs.length = F.length by rw [HZL.out, HFl.out]; omega)
          by_cases hkm : k2 = m
          · have hE0 : E = [] := List.eq_nil_of_length_eq_zero (by rw [HEL.out]; omega)
            have hZ0 : Zs = [] := List.eq_nil_of_length_eq_zero (by rw [HZL.out]; omega)
            subst hE0 hZ0
            subst hkm
            rcases own_none O2b.out with ⟨rfl, rfl, rfl⟩ | ⟨g2, rfl⟩
            · by_cases hc3 : c3 = 1
              all_goals
                go_wp2_with fail
                refine (same16_eq p1 _ d1 _ [] F.length _ w11 HFE.out ?h2 R1.out ?row).mono ?_
                case h2 => first | exact HEL.out | rfl | (simp; done) | (simp; omega)
                case row => first | exact QE.out | exact Row.nil _ _ | exact row_empty _ _ _ _ (by unfold maxLen at *; omega)
                rintro e w12 ⟨rfl, b12⟩
                go_wp2_with fail
                refine (sameInts_eq p2 _ d2 _ [] F.length _ w12 HFZ.out ?h2 (R2.out.mono b12) ?row).mono ?_
                case h2 => first | exact HZL.out | (rw [HZL.out]; omega) | rfl | (simp; done) | (simp; omega)
                case row => first | exact QZ.out.mono b12 | exact Row.nil _ _ | exact row_empty _ _ _ _ (by unfold maxLen at *; omega)
                rintro e w13 ⟨rfl, b13⟩
                have RB3 := hid ((ROB2.out.mono b12).mono b13); have HB13 := hid (kept_trans (kept_trans HB11.out b12) b13)
                clear b12 b13
                go_wp2_with fail
                refine (HLg.out w13 RB3.out).mono ?_
                rintro e w14 ⟨pa2, pc2, rfl, o14, b14⟩
                have RZ := hid (HZR.out w14 w14 _ pa2 pc2 o14 (Below.refl _ _)); have HB14 := hid (kept_trans HB13.out b14)
                clear o14 b14
                go_wp2_with fail
                refine (S2.out pa2 pc2 w14 RZ.out).mono ?_
                rintro e w15 ⟨p5, d5, p6, d6, rfl, r5, r6, b15⟩
                have HB15 := hid (kept_trans HB14.out b15)
                clear r5 r6 b15
                by_cases ho : (p : Int) = oth
                · subst ho
                  go_wp2_with (go_at_call 13; refine (lives16_any _).mono ?_; rintro en2 w20 ⟨rfl, rfl⟩)
                  go_ret
                  exact ⟨rfl, HB15.out⟩
                · have hG := HS2.out ho
                  subst hG
                  have ho' : (oth == (p : Int)) = false := by simp; omega
                  clear ho
                  go_wp2_with (go_at_call 13; refine (lives16_any _).mono ?_; rintro en2 w20 ⟨rfl, rfl⟩)
                  go_ret
                  exact ⟨rfl, HB15.out⟩
            · by_cases hc2 : c2 = k2
              all_goals
                by_cases hc3 : c3 = k2 + 1
                all_goals
                  go_wp2_with fail
                  refine (same16_eq p1 _ d1 _ [] F.length _ w11 HFE.out ?h2 R1.out ?row).mono ?_
                  case h2 => first | exact HEL.out | rfl | (simp; done) | (simp; omega)
                  case row => first | exact QE.out | exact Row.nil _ _ | exact row_empty _ _ _ _ (by unfold maxLen at *; omega)
                  rintro e w12 ⟨rfl, b12⟩
                  go_wp2_with fail
                  refine (sameInts_eq p2 _ d2 _ [] F.length _ w12 HFZ.out ?h2 (R2.out.mono b12) ?row).mono ?_
                  case h2 => first | exact HZL.out | (rw [HZL.out]; omega) | rfl | (simp; done) | (simp; omega)
                  case row => first | exact QZ.out.mono b12 | exact Row.nil _ _ | exact row_empty _ _ _ _ (by unfold maxLen at *; omega)
                  rintro e w13 ⟨rfl, b13⟩
                  have RB3 := hid ((ROB2.out.mono b12).mono b13); have HB13 := hid (kept_trans (kept_trans HB11.out b12) b13)
                  clear b12 b13
                  go_wp2_with fail
                  refine (HLg.out w13 RB3.out).mono ?_
                  rintro e w14 ⟨pa2, pc2, rfl, o14, b14⟩
                  have RZ := hid (HZR.out w14 w14 _ pa2 pc2 o14 (Below.refl _ _)); have HB14 := hid (kept_trans HB13.out b14)
                  clear o14 b14
                  go_wp2_with fail
                  refine (S2.out pa2 pc2 w14 RZ.out).mono ?_
                  rintro e w15 ⟨p5, d5, p6, d6, rfl, r5, r6, b15⟩
                  have HB15 := hid (kept_trans HB14.out b15)
                  clear r5 r6 b15
                  by_cases ho : (p : Int) = oth
                  · subst ho
                    go_wp2_with (go_at_call 13; refine (lives16_any _).mono ?_; rintro en2 w20 ⟨rfl, rfl⟩)
                    go_ret
                    exact ⟨rfl, HB15.out⟩
                  · have hG := HS2.out ho
                    subst hG
                    have ho' : (oth == (p : Int)) = false := by simp; omega
                    clear ho
                    go_wp2_with (go_at_call 13; refine (lives16_any _).mono ?_; rintro en2 w20 ⟨rfl, rfl⟩)
                    go_ret
                    exact ⟨rfl, HB15.out⟩
          · rcases own_none O2b.out with ⟨_, hm0, _⟩ | ⟨g2, rfl⟩
            · omega
            · have hc2 : ¬ c2 = k2 := by omega
              have hc3 : ¬ c3 = k2 + 1 := by omega
              have QE : Hid (RowR w11 (some ⟨g2, k2 * 5, none⟩) (c2 - k2) E) := by
                have q := row_drop (O2b.out.row) k2 hk2
                rw [HED.out, Nat.zero_add] at q
                unfold RowR; rw [HEL.out]; exact q
              have QZ : Hid (RowI w11 (some ⟨g3, k2 + 1, none⟩) (c3 - (k2 + 1)) Zs) := by
                have q := row_drop (O3b.out.row) (k2 + 1) (by omega)
                rw [Nat.zero_add, Nat.mul_one, ← HZM.out] at q
                unfold RowI; rw [HZL.out]; exact q
              have HN1 := hid hkm
              clear hkm
              go_wp2_with fail
              refine (same16_eq p1 _ d1 _ E F.length _ w11 HFE.out ?h2 R1.out ?row).mono ?_
              case h2 => first | exact HEL.out | rfl | (simp; done) | (simp; omega)
              case row => first | exact QE.out | exact Row.nil _ _ | exact row_empty _ _ _ _ (by unfold maxLen at *; omega)
              rintro e w12 ⟨rfl, b12⟩
              go_wp2_with fail
              refine (sameInts_eq p2 _ d2 _ Zs F.length _ w12 HFZ.out ?h2 (R2.out.mono b12) ?row).mono ?_
              case h2 => first | exact HZL.out | (rw [HZL.out]; omega) | rfl | (simp; done) | (simp; omega)
              case row => first | exact QZ.out.mono b12 | exact Row.nil _ _ | exact row_empty _ _ _ _ (by unfold maxLen at *; omega)
              rintro e w13 ⟨rfl, b13⟩
              have RB3 := hid ((ROB2.out.mono b12).mono b13); have HB13 := hid (kept_trans (kept_trans HB11.out b12) b13)
              clear b12 b13
              go_wp2_with fail
              refine (HLg.out w13 RB3.out).mono ?_
              rintro e w14 ⟨pa2, pc2, rfl, o14, b14⟩
              have RZ := hid (HZR.out w14 w14 _ pa2 pc2 o14 (Below.refl _ _)); have HB14 := hid (kept_trans HB13.out b14)
              clear o14 b14
              go_wp2_with fail
              refine (S2.out pa2 pc2 w14 RZ.out).mono ?_
              rintro e w15 ⟨p5, d5, p6, d6, rfl, r5, r6, b15⟩
              have HB15 := hid (kept_trans HB14.out b15)
              clear r5 r6 b15
              by_cases ho : (p : Int) = oth
              · subst ho
                go_wp2_with (go_at_call 13; refine (lives16_any _).mono ?_; rintro en2 w20 ⟨rfl, rfl⟩)
                go_ret
                exact ⟨rfl, HB15.out⟩
              · have hG := HS2.out ho
                subst hG
                have ho' : (oth == (p : Int)) = false := by simp; omega
                clear ho
                go_wp2_with (go_at_call 13; refine (lives16_any _).mono ?_; rintro en2 w20 ⟨rfl, rfl⟩)
                go_ret
                exact ⟨rfl, HB15.out⟩
        · have dn := dpos rfl
          clear dpos bat
          go_wp2_with fail
          refine (HEnd.out wr).mono ?_
          rintro e w2 ⟨rfl, rfl⟩
          go_wp2_with fail
          have hS0 : wr.drew.cell? ⟨g3, k2, none⟩ = some (.int .i64 (v : Nat)) ∧ Below wr.heap.size wr wr.drew := ⟨HCELL.out, (Below.refl _ _).drew⟩
          refine wp_region_held_drew (S := fun w' => w'.cell? ⟨g3, k2, none⟩ = some (.int .i64 (v : Nat)) ∧ Below wr.heap.size wr w') (by kernel_rfl) hS0 (fun hS_0 => ?_)
          refine takeR (i := 0) (v := .int .i64 (x : Nat)) rfl rfl (by kernel_rfl) (by kernel_rfl) (by kernel_rfl) (fun _ _ _ h => h) (Or.inl ⟨Eq.refl true, fun w1 hSw => ?_⟩) hS_0 ?_
          · first | rfl | (clear hSw; go_simp; done) | (clear hSw; go_simp; rfl)
          (try simp only [Act.put, List.setIfInBounds_toArray, List.set_cons_zero, List.set_cons_succ])
          refine takeR (i := 1) (v := .slice a1 n c1) rfl rfl (by kernel_rfl) (by kernel_rfl) (by kernel_rfl) (fun _ _ _ h => h) (Or.inl ⟨Eq.refl true, fun w1 hSw => ?_⟩) hS_0 ?_
          · first | rfl | (clear hSw; go_simp; done) | (clear hSw; go_simp; rfl)
          (try simp only [Act.put, List.setIfInBounds_toArray, List.set_cons_zero, List.set_cons_succ])
          refine takeR (i := 3) (v := .int .i64 (p : Nat)) rfl rfl (by kernel_rfl) (by kernel_rfl) (by kernel_rfl) (fun _ _ _ h => h) (Or.inl ⟨Eq.refl true, fun w1 hSw => ?_⟩) hS_0 ?_
          · first | rfl | (clear hSw; go_simp; done) | (clear hSw; go_simp; rfl)
          (try simp only [Act.put, List.setIfInBounds_toArray, List.set_cons_zero, List.set_cons_succ])
          refine takeR (i := 4) (v := .slice (some ⟨g3, 0, none⟩) (m + 1) c3) rfl rfl (by kernel_rfl) (by kernel_rfl) (by kernel_rfl) (fun _ _ _ h => h) (Or.inl ⟨Eq.refl true, fun w1 hSw => ?_⟩) hS_0 ?_
          · first | rfl | (clear hSw; go_simp; done) | (clear hSw; go_simp; rfl)
          (try simp only [Act.put, List.setIfInBounds_toArray, List.set_cons_zero, List.set_cons_succ])
          refine takeR (i := 5) (v := .int .i64 (k2 : Nat)) rfl rfl (by kernel_rfl) (by kernel_rfl) (by kernel_rfl) (fun _ _ _ h => h) (Or.inl ⟨Eq.refl true, fun w1 hSw => ?_⟩) hS_0 ?_
          · first | rfl | (clear hSw; go_simp; done) | (clear hSw; go_simp; rfl)
          (try simp only [Act.put, List.setIfInBounds_toArray, List.set_cons_zero, List.set_cons_succ])
          refine takeR (i := 6) (v := .pointer (some ⟨g3, k2, none⟩)) rfl rfl (by kernel_rfl) (by kernel_rfl) (by kernel_rfl) (fun _ _ _ h => h) (Or.inl ⟨Eq.refl true, fun w1 hSw => ?_⟩) hS_0 ?_
          · first | rfl | (clear hSw; go_simp; done) | (clear hSw; go_simp; rfl)
          (try simp only [Act.put, List.setIfInBounds_toArray, List.set_cons_zero, List.set_cons_succ])
          refine takeR (i := 7) (v := .int .i64 (v : Nat)) rfl rfl (by kernel_rfl) (by kernel_rfl) (by kernel_rfl) (fun _ _ _ h => h) (Or.inl ⟨Eq.refl true, fun w1 hSw => ?_⟩) hS_0 ?_
          · (obtain ⟨q1, q2⟩ := hSw; go_simp; try rfl)
          (try simp only [Act.put, List.setIfInBounds_toArray, List.set_cons_zero, List.set_cons_succ])
          refine wpAnyH_ready (rs := [2]) (by kernel_rfl) (by simp) (AllReadyH.cons rfl (fun K hK => ?_) AllReadyH.nil)
          go_simp
          go_wp2_with (go_at_call 20; refine (HLg.out _ (ROB.out.mono hS_0.2)).mono ?_; rintro e w10 ⟨pa, pc, rfl, o10, b10⟩)
          refine hK.out _ _ ?_ (fun hS_1 => ?_)
          · exact ⟨(b10.cell (p := ⟨g3, k2, none⟩) (Nat.lt_of_lt_of_le hg3 hS_0.2.size)).trans hS_0.1, kept_trans hS_0.2 b10⟩
          clear hK K
          refine wpAnyH_ready (rs := [8]) (by kernel_rfl) (by simp) (AllReadyH.cons rfl (fun K hK => ?_) AllReadyH.nil)
          go_simp
          go_wp2_with (go_at_call 21; refine (S1.out pa pc w10 (HZR.out w10 w10 _ pa pc o10 (Below.refl _ _))).mono ?_; rintro e w11 ⟨p1, d1, p2, d2, rfl, r1, r2, b11⟩)
          refine hK.out _ _ ?_ (fun hS_2 => ?_)
          · exact ⟨(b11.cell (p := ⟨g3, k2, none⟩) (Nat.lt_of_lt_of_le hg3 hS_1.2.size)).trans hS_1.1, kept_trans hS_1.2 b11⟩
          clear hK K
          refine takeR (i := 9) (v := .tuple #[.slice p1 (F.length) d1, .slice p2 (F.length) d2]) rfl rfl (by kernel_rfl) (by kernel_rfl) (by kernel_rfl) (fun _ _ _ h => h) (Or.inl ⟨Eq.refl true, fun w1 hSw => ?_⟩) hS_2 ?_
          · first | rfl | (clear hSw; go_simp; done) | (clear hSw; go_simp; rfl)
          (try simp only [Act.put, List.setIfInBounds_toArray, List.set_cons_zero, List.set_cons_succ])
          refine takeR (i := 10) (v := .slice p1 (F.length) d1) rfl rfl (by kernel_rfl) (by kernel_rfl) (by kernel_rfl) (fun _ _ _ h => h) (Or.inl ⟨Eq.refl true, fun w1 hSw => ?_⟩) hS_2 ?_
          · first | rfl | (clear hSw; go_simp; done) | (clear hSw; go_simp; rfl)
          (try simp only [Act.put, List.setIfInBounds_toArray, List.set_cons_zero, List.set_cons_succ])
          refine takeR (i := 11) (v := .slice p2 (F.length) d2) rfl rfl (by kernel_rfl) (by kernel_rfl) (by kernel_rfl) (fun _ _ _ h => h) (Or.inl ⟨Eq.refl true, fun w1 hSw => ?_⟩) hS_2 ?_
          · first | rfl | (clear hSw; go_simp; done) | (clear hSw; go_simp; rfl)
          (try simp only [Act.put, List.setIfInBounds_toArray, List.set_cons_zero, List.set_cons_succ])
          refine takeR (i := 12) (v := .slice p1 (F.length) d1) rfl rfl (by kernel_rfl) (by kernel_rfl) (by kernel_rfl) (fun _ _ _ h => h) (Or.inl ⟨Eq.refl true, fun w1 hSw => ?_⟩) hS_2 ?_
          · first | rfl | (clear hSw; go_simp; done) | (clear hSw; go_simp; rfl)
          (try simp only [Act.put, List.setIfInBounds_toArray, List.set_cons_zero, List.set_cons_succ])
          refine takeR (i := 13) (v := .slice p2 (F.length) d2) rfl rfl (by kernel_rfl) (by kernel_rfl) (by kernel_rfl) (fun _ _ _ h => h) (Or.inl ⟨Eq.refl true, fun w1 hSw => ?_⟩) hS_2 ?_
          · first | rfl | (clear hSw; go_simp; done) | (clear hSw; go_simp; rfl)
          (try simp only [Act.put, List.setIfInBounds_toArray, List.set_cons_zero, List.set_cons_succ])
          refine wpAnyH_done (by kernel_rfl) ?_ _
          rw [HFf.out] at r1
          rw [HFs.out] at r2
          have R1 := hid r1; have R2 := hid r2
          have K11 := hid hS_2.2
          have HB11 := hid (kept_trans HB.out hS_2.2)
          have O2b := hid (O2.out.mono hS_2.2); have O3b := hid (O3.out.mono hS_2.2); have ROB2 := hid (ROB.out.mono hS_2.2)
          have hEl : (R.drop k2).length = m - k2 := by rw [List.length_drop, HRM.out]
          have hZl : (((offs 0 R).drop (k2 + 1)).map (fun x : Nat => (x : Int))).length = m + 1 - (k2 + 1) := by rw [List.length_map, List.length_drop, offs_length, HRM.out]
          have hZm : (((offs 0 R).drop (k2 + 1)).map (fun x : Nat => (x : Int))).map iV = ((offs 0 R).map oV).drop (k2 + 1) := by rw [List.map_map, ← List.map_drop]; rfl
          have hED : (R.flatMap recCells).drop (k2 * 5) = (R.drop k2).flatMap recCells := flat5_drop R k2
          have HED := hid hED
          have hc2m := O2b.out.row.2.1
          have hc2x := O2b.out.row.2.2.1
          have HEL := hid hEl; have HZL := hid hZl; have HZM := hid hZm
          clear hS_0 hS_1 hS_2 hS0 r1 r2 b10 b11 o10 O2 O3 HCELL HEnd S1 HFf HFs ROB HB hEl hZl hZm hED
          generalize R.drop k2 = E at *
          generalize ((offs 0 R).drop (k2 + 1)).map (fun x : Nat => (x : Int)) = Zs at *
          have s1 : (k2 : Int) ≤ (m : Int) := by omega
          have s2 : (k2 : Int) + 1 ≤ (m : Int) + 1 := by omega
          have s3 : ((k2 : Int) + 1).toNat = k2 + 1 := by omega
          have s4 : 0 ≤ (k2 : Int) + 1 := by omega
          have HFE := hid (show E.length = F.length by rw [HEL.out, HFl.out])
          have HFZ := hid (show Zs.length = F.length by rw [HZL.out, HFl.out]; omega)
          by_cases hkm : k2 = m
          · have hE0 : E = [] := List.eq_nil_of_length_eq_zero (by rw [HEL.out]; omega)
            have hZ0 : Zs = [] := List.eq_nil_of_length_eq_zero (by rw [HZL.out]; omega)
            subst hE0 hZ0
            subst hkm
            rcases own_none O2b.out with ⟨rfl, rfl, rfl⟩ | ⟨g2, rfl⟩
            · by_cases hc3 : c3 = 1
              all_goals
                go_wp2_with fail
                refine (same16_eq p1 _ d1 _ [] F.length _ w11 HFE.out ?h2 R1.out ?row).mono ?_
                case h2 => first | exact HEL.out | rfl | (simp; done) | (simp; omega)
                case row => first | exact QE.out | exact Row.nil _ _ | exact row_empty _ _ _ _ (by unfold maxLen at *; omega)
                rintro e w12 ⟨rfl, b12⟩
                go_wp2_with fail
                refine (sameInts_eq p2 _ d2 _ [] F.length _ w12 HFZ.out ?h2 (R2.out.mono b12) ?row).mono ?_
                case h2 => first | exact HZL.out | (rw [HZL.out]; omega) | rfl | (simp; done) | (simp; omega)
                case row => first | exact QZ.out.mono b12 | exact Row.nil _ _ | exact row_empty _ _ _ _ (by unfold maxLen at *; omega)
                rintro e w13 ⟨rfl, b13⟩
                have RB3 := hid ((ROB2.out.mono b12).mono b13); have HB13 := hid (kept_trans (kept_trans HB11.out b12) b13)
                clear b12 b13
                go_wp2_with fail
                refine (HLg.out w13 RB3.out).mono ?_
                rintro e w14 ⟨pa2, pc2, rfl, o14, b14⟩
                have RZ := hid (HZR.out w14 w14 _ pa2 pc2 o14 (Below.refl _ _)); have HB14 := hid (kept_trans HB13.out b14)
                clear o14 b14
                go_wp2_with fail
                refine (S2.out pa2 pc2 w14 RZ.out).mono ?_
                rintro e w15 ⟨p5, d5, p6, d6, rfl, r5, r6, b15⟩
                have HB15 := hid (kept_trans HB14.out b15)
                clear r5 r6 b15
                by_cases ho : (p : Int) = oth
                · subst ho
                  go_wp2_with (go_at_call 13; refine (lives16_any _).mono ?_; rintro en2 w20 ⟨rfl, rfl⟩)
                  go_ret
                  exact ⟨rfl, HB15.out⟩
                · have hG := HS2.out ho
                  subst hG
                  have ho' : (oth == (p : Int)) = false := by simp; omega
                  clear ho
                  go_wp2_with (go_at_call 13; refine (lives16_any _).mono ?_; rintro en2 w20 ⟨rfl, rfl⟩)
                  go_ret
                  exact ⟨rfl, HB15.out⟩
            · by_cases hc2 : c2 = k2
              all_goals
                by_cases hc3 : c3 = k2 + 1
                all_goals
                  go_wp2_with fail
                  refine (same16_eq p1 _ d1 _ [] F.length _ w11 HFE.out ?h2 R1.out ?row).mono ?_
                  case h2 => first | exact HEL.out | rfl | (simp; done) | (simp; omega)
                  case row => first | exact QE.out | exact Row.nil _ _ | exact row_empty _ _ _ _ (by unfold maxLen at *; omega)
                  rintro e w12 ⟨rfl, b12⟩
                  go_wp2_with fail
                  refine (sameInts_eq p2 _ d2 _ [] F.length _ w12 HFZ.out ?h2 (R2.out.mono b12) ?row).mono ?_
                  case h2 => first | exact HZL.out | (rw [HZL.out]; omega) | rfl | (simp; done) | (simp; omega)
                  case row => first | exact QZ.out.mono b12 | exact Row.nil _ _ | exact row_empty _ _ _ _ (by unfold maxLen at *; omega)
                  rintro e w13 ⟨rfl, b13⟩
                  have RB3 := hid ((ROB2.out.mono b12).mono b13); have HB13 := hid (kept_trans (kept_trans HB11.out b12) b13)
                  clear b12 b13
                  go_wp2_with fail
                  refine (HLg.out w13 RB3.out).mono ?_
                  rintro e w14 ⟨pa2, pc2, rfl, o14, b14⟩
                  have RZ := hid (HZR.out w14 w14 _ pa2 pc2 o14 (Below.refl _ _)); have HB14 := hid (kept_trans HB13.out b14)
                  clear o14 b14
                  go_wp2_with fail
                  refine (S2.out pa2 pc2 w14 RZ.out).mono ?_
                  rintro e w15 ⟨p5, d5, p6, d6, rfl, r5, r6, b15⟩
                  have HB15 := hid (kept_trans HB14.out b15)
                  clear r5 r6 b15
                  by_cases ho : (p : Int) = oth
                  · subst ho
                    go_wp2_with (go_at_call 13; refine (lives16_any _).mono ?_; rintro en2 w20 ⟨rfl, rfl⟩)
                    go_ret
                    exact ⟨rfl, HB15.out⟩
                  · have hG := HS2.out ho
                    subst hG
                    have ho' : (oth == (p : Int)) = false := by simp; omega
                    clear ho
                    go_wp2_with (go_at_call 13; refine (lives16_any _).mono ?_; rintro en2 w20 ⟨rfl, rfl⟩)
                    go_ret
                    exact ⟨rfl, HB15.out⟩
          · rcases own_none O2b.out with ⟨_, hm0, _⟩ | ⟨g2, rfl⟩
            · omega
            · have hc2 : ¬ c2 = k2 := by omega
              have hc3 : ¬ c3 = k2 + 1 := by omega
              have QE : Hid (RowR w11 (some ⟨g2, k2 * 5, none⟩) (c2 - k2) E) := by
                have q := row_drop (O2b.out.row) k2 hk2
                rw [HED.out, Nat.zero_add] at q
                unfold RowR; rw [HEL.out]; exact q
              have QZ : Hid (RowI w11 (some ⟨g3, k2 + 1, none⟩) (c3 - (k2 + 1)) Zs) := by
                have q := row_drop (O3b.out.row) (k2 + 1) (by omega)
                rw [Nat.zero_add, Nat.mul_one, ← HZM.out] at q
                unfold RowI; rw [HZL.out]; exact q
              have HN1 := hid hkm
              clear hkm
              go_wp2_with fail
              refine (same16_eq p1 _ d1 _ E F.length _ w11 HFE.out ?h2 R1.out ?row).mono ?_
              case h2 => first | exact HEL.out | rfl | (simp; done) | (simp; omega)
              case row => first | exact QE.out | exact Row.nil _ _ | exact row_empty _ _ _ _ (by unfold maxLen at *; omega)
              rintro e w12 ⟨rfl, b12⟩
              go_wp2_with fail
              refine (sameInts_eq p2 _ d2 _ Zs F.length _ w12 HFZ.out ?h2 (R2.out.mono b12) ?row).mono ?_
              case h2 => first | exact HZL.out | (rw [HZL.out]; omega) | rfl | (simp; done) | (simp; omega)
              case row => first | exact QZ.out.mono b12 | exact Row.nil _ _ | exact row_empty _ _ _ _ (by unfold maxLen at *; omega)
              rintro e w13 ⟨rfl, b13⟩
              have RB3 := hid ((ROB2.out.mono b12).mono b13); have HB13 := hid (kept_trans (kept_trans HB11.out b12) b13)
              clear b12 b13
              go_wp2_with fail
              refine (HLg.out w13 RB3.out).mono ?_
              rintro e w14 ⟨pa2, pc2, rfl, o14, b14⟩
              have RZ := hid (HZR.out w14 w14 _ pa2 pc2 o14 (Below.refl _ _)); have HB14 := hid (kept_trans HB13.out b14)
              clear o14 b14
              go_wp2_with fail
              refine (S2.out pa2 pc2 w14 RZ.out).mono ?_
              rintro e w15 ⟨p5, d5, p6, d6, rfl, r5, r6, b15⟩
              have HB15 := hid (kept_trans HB14.out b15)
              clear r5 r6 b15
              by_cases ho : (p : Int) = oth
              · subst ho
                go_wp2_with (go_at_call 13; refine (lives16_any _).mono ?_; rintro en2 w20 ⟨rfl, rfl⟩)
                go_ret
                exact ⟨rfl, HB15.out⟩
              · have hG := HS2.out ho
                subst hG
                have ho' : (oth == (p : Int)) = false := by simp; omega
                clear ho
                go_wp2_with (go_at_call 13; refine (lives16_any _).mono ?_; rintro en2 w20 ⟨rfl, rfl⟩)
                go_ret
                exact ⟨rfl, HB15.out⟩
      · have hno : okE ep (n : Int) = false := okE_f (fun hh => hE ⟨hh.1, hh.2.1⟩)
        simp only [hno, Bool.false_ne_true, if_false] at HEnd
        have HEnd := hid HEnd
        clear hno
        rcases (by omega : ep < 0 ∨ (¬ ep < 0 ∧ 1073741824 < ep)) with hE2 | ⟨hE2, hE3⟩
        · have d1 : decide (ep < 0) = true := decide_eq_true hE2
          clear hE hE2
          go_wp2_with fail
          refine (HEnd.out wr).mono ?_
          rintro e w2 ⟨rfl, rfl⟩
          go_wp2_with (go_at_call 13; refine (lives16_any _).mono ?_; rintro en2 w10 ⟨rfl, rfl⟩)
          go_ret
          exact ⟨rfl, HB.out⟩
        · have d1 : decide (ep < 0) = false := decide_eq_false hE2
          have d2 : decide (1073741824 < ep) = true := decide_eq_true hE3
          clear hE hE2 hE3
          go_wp2_with fail
          refine (HEnd.out wr).mono ?_
          rintro e w2 ⟨rfl, rfl⟩
          go_wp2_with (go_at_call 13; refine (lives16_any _).mono ?_; rintro en2 w10 ⟨rfl, rfl⟩)
          go_ret
          exact ⟨rfl, HB.out⟩
    · have dk1 : decide ((9 : Int) < (L0.length : Int)) = true := decide_eq_true (by omega)
      have dk1' : decide (9 < L0.length) = true := decide_eq_true h
      clear hk
      by_cases hE : 0 ≤ ep ∧ ep ≤ 1073741824
      · obtain ⟨p, rfl⟩ := Int.eq_ofNat_of_zero_le hE.1
        have hp : p ≤ 1073741824 := by omega
        have hb8 := (flat_bound R HROK.out).1
        rw [HRN.out] at hb8
        have hok : okE (p : Int) (n : Int) = true := okE_t ⟨by omega, by omega, by omega, by omega, by omega⟩
        simp only [hok, if_true] at HEnd
        clear hok hb8
        obtain ⟨x, hx⟩ : ∃ x, x = 4294967296 * p + n := ⟨_, rfl⟩
        rw [show (4294967296 * (p : Int) + (n : Int)) = ((x : Nat) : Int) by omega] at HEnd
        have HEnd := hid HEnd
        have hx9 : (x : Int) ≤ 9223372036854775807 := by omega
        have HLg := fun w1 r1 => log16_any (x : Int) a1 c1 (R.flatMap recB) w1 r1 hx9
        have ROB : RowB wr a1 c1 (R.flatMap recB) := by have q := O1.out.row; unfold RowB; rw [HRN.out]; exact q
        have ROB := hid ROB
        rw [HRN.out] at HLg
        have HZL := logF_len (x : Int) (R.flatMap recB) hx9
        unfold RetB at HLg
        rw [HZL] at HLg
        have HZR : Hid (∀ (w1 w2 : World) (B : Nat) (pa : Option Addr) (pc : Nat), OwnB w1 B pa pc (logF (x : Int) (R.flatMap recB)) → Below w1.heap.size w1 w2 → RowB w2 pa pc (logF (x : Int) (R.flatMap recB))) := fun w1 w2 B pa pc o b => o.row.mono b
        have hS1 := fun (k2 : Nat) (hk2 : k2 ≤ m) => scanF_recs R HROK.out (by rw [HRM.out]; omega) p k2 hp (by rw [HRM.out]; exact hk2)
        rw [HRN.out, ← hx] at hS1
        have hS2 := fun (hne : ((p : Nat) : Int) ≠ oth) => scanF_other x (by omega) (R.flatMap recB) oth 0 (by rw [show x / 4294967296 = p by omega]; exact hne)
        have S1 := fun (k2 : Nat) (pa : Option Addr) (pc : Nat) (w1 : World) r1 => scan_any pa pc (logF (x : Int) (R.flatMap recB)) (p : Int) (((offs 0 R).getD k2 0 : Nat) : Int) w1 r1
        have S2 := fun (pa : Option Addr) (pc : Nat) (w1 : World) r1 => scan_any pa pc (logF (x : Int) (R.flatMap recB)) oth 0 w1 r1
        rw [HZL] at S1 S2
        obtain ⟨G, hG⟩ : ∃ G, G = scanF (logF (x : Int) (R.flatMap recB)) oth 0 := ⟨_, rfl⟩
        rw [← hG] at S2 hS2
        have HLg := hid HLg; have S2 := hid S2; have HS2 := hid hS2
        clear hS2 hG HZL
        generalize logF (x : Int) (R.flatMap recB) = zs at *
        have HX := hid hx
        clear hx hE
        obtain ⟨A, hA9, hA⟩ : ∃ A : Nat, A ≤ 9223372036854775807 ∧ ((at_ < 0 ∧ -(at_ + 1) = (A : Int)) ∨ at_ = (A : Int)) := by
          rcases Int.lt_or_le at_ 0 with h | h
          · exact ⟨(-(at_ + 1)).toNat, by omega, .inl ⟨h, by omega⟩⟩
          · exact ⟨at_.toNat, by omega, .inr (by omega)⟩
        have hk2 : A % (m + 1) ≤ m := by have := Nat.mod_lt A (show 0 < m + 1 by omega); omega
        have em1 : ((A : Nat) : Int).tmod ((m : Int) + 1) = ((A % (m + 1) : Nat) : Int) := by rw [show (m : Int) + 1 = ((m + 1 : Nat) : Int) by omega]; rfl
        generalize A % (m + 1) = k2 at *
        have hS1 := hS1 k2 hk2
        have S1 := S1 k2
        rw [hS1] at S1
        have S1 := hid S1
        clear hS1
        have ew1 : IntKind.i64.wrap (k2 : Int) = k2 := IntWalk.i64_in _ (by omega)
        have ew5 : IntKind.i64.wrap ((k2 : Int) + 1) = (k2 : Int) + 1 := IntWalk.i64_in _ (by omega)
        have em0 : ((m : Int) + 1 == 0) = false := by simp; omega
        have em3 : ¬ ((m : Int) + 1 = 0) := by omega
        obtain ⟨g3, rfl⟩ := Own.addr O3.out (by omega)
        obtain ⟨LL, kb, hll, hBg, htk, hnc3, hcm⟩ := Own.blk O3.out
        have hg3 := kb.lt
        clear kb hll hBg htk
        have hcell : wr.cell? ⟨g3, k2, none⟩ = some (.int .i64 (((offs 0 R).getD k2 0 : Nat) : Int)) := by
          obtain ⟨b, off, e, hlt, hc⟩ := O3.out.row.at (by omega)
          cases e
          have := hc k2 (oV ((offs 0 R).getD k2 0)) (by
            have hol : k2 < (offs 0 R).length := by rw [offs_length, HRM.out]; omega
            rw [List.getElem?_map, List.getElem?_eq_getElem hol, List.getD_eq_getElem?_getD, List.getElem?_eq_getElem hol]; rfl)
          rw [Nat.zero_add] at this
          exact this
        generalize (offs 0 R).getD k2 0 = v at *
        have hFf : ((R.drop k2).zip ((offs 0 R).drop (k2 + 1))).map Prod.fst = R.drop k2 := List.map_fst_zip (by rw [List.length_drop, List.length_drop, offs_length]; omega)
        have hFs : ((R.drop k2).zip ((offs 0 R).drop (k2 + 1))).map (fun x => (x.2 : Int)) = ((offs 0 R).drop (k2 + 1)).map (fun x : Nat => (x : Int)) := by
          have := List.map_snd_zip (l₁ := R.drop k2) (l₂ := (offs 0 R).drop (k2 + 1)) (by rw [List.length_drop, List.length_drop, offs_length]; omega)
          have e : (fun x : RecT × Nat => ((x.2 : Nat) : Int)) = (fun x : Nat => (x : Int)) ∘ Prod.snd := rfl
          rw [e, ← List.map_map, this]
        have hFl : ((R.drop k2).zip ((offs 0 R).drop (k2 + 1))).length = m - k2 := by rw [List.length_zip, List.length_drop, List.length_drop, offs_length, HRM.out]; omega
        have HFf := hid hFf; have HFs := hid hFs; have HFl := hid hFl
        clear hFf hFs hFl
        generalize (R.drop k2).zip ((offs 0 R).drop (k2 + 1)) = F at *
        have ik2 : (k2 : Int) < (m : Int) + 1 := by omega
        have HCELL := hid hcell
        clear hcell
        have dpos : ∀ (hh : at_ = (A : Int)), decide ((A : Int) < 0) = false := fun _ => decide_eq_false (by omega)
        rcases hA with hA | rfl
        · have dn : decide (at_ < 0) = true := decide_eq_true hA.1
          have wn1 : IntKind.i64.wrap (at_ + 1) = at_ + 1 := IntWalk.i64_in _ (by omega)
          have wn2 : IntKind.i64.wrap (-(at_ + 1)) = (A : Int) := by rw [← hA.2]; exact IntWalk.i64_in _ (by omega)
          clear dpos hA bat
          go_wp2_with fail
          refine (HEnd.out wr).mono ?_
          rintro e w2 ⟨rfl, rfl⟩
          go_wp2_with fail
          have hS0 : wr.drew.cell? ⟨g3, k2, none⟩ = some (.int .i64 (v : Nat)) ∧ Below wr.heap.size wr wr.drew := ⟨HCELL.out, (Below.refl _ _).drew⟩
          refine wp_region_held_drew (S := fun w' => w'.cell? ⟨g3, k2, none⟩ = some (.int .i64 (v : Nat)) ∧ Below wr.heap.size wr w') (by kernel_rfl) hS0 (fun hS_0 => ?_)
          refine takeR (i := 0) (v := .int .i64 (x : Nat)) rfl rfl (by kernel_rfl) (by kernel_rfl) (by kernel_rfl) (fun _ _ _ h => h) (Or.inl ⟨Eq.refl true, fun w1 hSw => ?_⟩) hS_0 ?_
          · first | rfl | (clear hSw; go_simp; done) | (clear hSw; go_simp; rfl)
          (try simp only [Act.put, List.setIfInBounds_toArray, List.set_cons_zero, List.set_cons_succ])
          refine takeR (i := 1) (v := .slice a1 n c1) rfl rfl (by kernel_rfl) (by kernel_rfl) (by kernel_rfl) (fun _ _ _ h => h) (Or.inl ⟨Eq.refl true, fun w1 hSw => ?_⟩) hS_0 ?_
          · first | rfl | (clear hSw; go_simp; done) | (clear hSw; go_simp; rfl)
          (try simp only [Act.put, List.setIfInBounds_toArray, List.set_cons_zero, List.set_cons_succ])
          refine takeR (i := 3) (v := .int .i64 (p : Nat)) rfl rfl (by kernel_rfl) (by kernel_rfl) (by kernel_rfl) (fun _ _ _ h => h) (Or.inl ⟨Eq.refl true, fun w1 hSw => ?_⟩) hS_0 ?_
          · first | rfl | (clear hSw; go_simp; done) | (clear hSw; go_simp; rfl)
          (try simp only [Act.put, List.setIfInBounds_toArray, List.set_cons_zero, List.set_cons_succ])
          refine takeR (i := 4) (v := .slice (some ⟨g3, 0, none⟩) (m + 1) c3) rfl rfl (by kernel_rfl) (by kernel_rfl) (by kernel_rfl) (fun _ _ _ h => h) (Or.inl ⟨Eq.refl true, fun w1 hSw => ?_⟩) hS_0 ?_
          · first | rfl | (clear hSw; go_simp; done) | (clear hSw; go_simp; rfl)
          (try simp only [Act.put, List.setIfInBounds_toArray, List.set_cons_zero, List.set_cons_succ])
          refine takeR (i := 5) (v := .int .i64 (k2 : Nat)) rfl rfl (by kernel_rfl) (by kernel_rfl) (by kernel_rfl) (fun _ _ _ h => h) (Or.inl ⟨Eq.refl true, fun w1 hSw => ?_⟩) hS_0 ?_
          · first | rfl | (clear hSw; go_simp; done) | (clear hSw; go_simp; rfl)
          (try simp only [Act.put, List.setIfInBounds_toArray, List.set_cons_zero, List.set_cons_succ])
          refine takeR (i := 6) (v := .pointer (some ⟨g3, k2, none⟩)) rfl rfl (by kernel_rfl) (by kernel_rfl) (by kernel_rfl) (fun _ _ _ h => h) (Or.inl ⟨Eq.refl true, fun w1 hSw => ?_⟩) hS_0 ?_
          · first | rfl | (clear hSw; go_simp; done) | (clear hSw; go_simp; rfl)
          (try simp only [Act.put, List.setIfInBounds_toArray, List.set_cons_zero, List.set_cons_succ])
          refine takeR (i := 7) (v := .int .i64 (v : Nat)) rfl rfl (by kernel_rfl) (by kernel_rfl) (by kernel_rfl) (fun _ _ _ h => h) (Or.inl ⟨Eq.refl true, fun w1 hSw => ?_⟩) hS_0 ?_
          · (obtain ⟨q1, q2⟩ := hSw; go_simp; try rfl)
          (try simp only [Act.put, List.setIfInBounds_toArray, List.set_cons_zero, List.set_cons_succ])
          refine wpAnyH_ready (rs := [2]) (by kernel_rfl) (by simp) (AllReadyH.cons rfl (fun K hK => ?_) AllReadyH.nil)
          go_simp
          go_wp2_with (go_at_call 20; refine (HLg.out _ (ROB.out.mono hS_0.2)).mono ?_; rintro e w10 ⟨pa, pc, rfl, o10, b10⟩)
          refine hK.out _ _ ?_ (fun hS_1 => ?_)
          · exact ⟨(b10.cell (p := ⟨g3, k2, none⟩) (Nat.lt_of_lt_of_le hg3 hS_0.2.size)).trans hS_0.1, kept_trans hS_0.2 b10⟩
          clear hK K
          refine wpAnyH_ready (rs := [8]) (by kernel_rfl) (by simp) (AllReadyH.cons rfl (fun K hK => ?_) AllReadyH.nil)
          go_simp
          go_wp2_with (go_at_call 21; refine (S1.out pa pc w10 (HZR.out w10 w10 _ pa pc o10 (Below.refl _ _))).mono ?_; rintro e w11 ⟨p1, d1, p2, d2, rfl, r1, r2, b11⟩)
          refine hK.out _ _ ?_ (fun hS_2 => ?_)
          · exact ⟨(b11.cell (p := ⟨g3, k2, none⟩) (Nat.lt_of_lt_of_le hg3 hS_1.2.size)).trans hS_1.1, kept_trans hS_1.2 b11⟩
          clear hK K
          refine takeR (i := 9) (v := .tuple #[.slice p1 (F.length) d1, .slice p2 (F.length) d2]) rfl rfl (by kernel_rfl) (by kernel_rfl) (by kernel_rfl) (fun _ _ _ h => h) (Or.inl ⟨Eq.refl true, fun w1 hSw => ?_⟩) hS_2 ?_
          · first | rfl | (clear hSw; go_simp; done) | (clear hSw; go_simp; rfl)
          (try simp only [Act.put, List.setIfInBounds_toArray, List.set_cons_zero, List.set_cons_succ])
          refine takeR (i := 10) (v := .slice p1 (F.length) d1) rfl rfl (by kernel_rfl) (by kernel_rfl) (by kernel_rfl) (fun _ _ _ h => h) (Or.inl ⟨Eq.refl true, fun w1 hSw => ?_⟩) hS_2 ?_
          · first | rfl | (clear hSw; go_simp; done) | (clear hSw; go_simp; rfl)
          (try simp only [Act.put, List.setIfInBounds_toArray, List.set_cons_zero, List.set_cons_succ])
          refine takeR (i := 11) (v := .slice p2 (F.length) d2) rfl rfl (by kernel_rfl) (by kernel_rfl) (by kernel_rfl) (fun _ _ _ h => h) (Or.inl ⟨Eq.refl true, fun w1 hSw => ?_⟩) hS_2 ?_
          · first | rfl | (clear hSw; go_simp; done) | (clear hSw; go_simp; rfl)
          (try simp only [Act.put, List.setIfInBounds_toArray, List.set_cons_zero, List.set_cons_succ])
          refine takeR (i := 12) (v := .slice p1 (F.length) d1) rfl rfl (by kernel_rfl) (by kernel_rfl) (by kernel_rfl) (fun _ _ _ h => h) (Or.inl ⟨Eq.refl true, fun w1 hSw => ?_⟩) hS_2 ?_
          · first | rfl | (clear hSw; go_simp; done) | (clear hSw; go_simp; rfl)
          (try simp only [Act.put, List.setIfInBounds_toArray, List.set_cons_zero, List.set_cons_succ])
          refine takeR (i := 13) (v := .slice p2 (F.length) d2) rfl rfl (by kernel_rfl) (by kernel_rfl) (by kernel_rfl) (fun _ _ _ h => h) (Or.inl ⟨Eq.refl true, fun w1 hSw => ?_⟩) hS_2 ?_
          · first | rfl | (clear hSw; go_simp; done) | (clear hSw; go_simp; rfl)
          (try simp only [Act.put, List.setIfInBounds_toArray, List.set_cons_zero, List.set_cons_succ])
          refine wpAnyH_done (by kernel_rfl) ?_ _
          rw [HFf.out] at r1
          rw [HFs.out] at r2
          have R1 := hid r1; have R2 := hid r2
          have K11 := hid hS_2.2
          have HB11 := hid (kept_trans HB.out hS_2.2)
          have O2b := hid (O2.out.mono hS_2.2); have O3b := hid (O3.out.mono hS_2.2); have ROB2 := hid (ROB.out.mono hS_2.2)
          have hEl : (R.drop k2).length = m - k2 := by rw [List.length_drop, HRM.out]
          have hZl : (((offs 0 R).drop (k2 + 1)).map (fun x : Nat => (x : Int))).length = m + 1 - (k2 + 1) := by rw [List.length_map, List.length_drop, offs_length, HRM.out]
          have hZm : (((offs 0 R).drop (k2 + 1)).map (fun x : Nat => (x : Int))).map iV = ((offs 0 R).map oV).drop (k2 + 1) := by rw [List.map_map, ← List.map_drop]; rfl
          have hED : (R.flatMap recCells).drop (k2 * 5) = (R.drop k2).flatMap recCells := flat5_drop R k2
          have HED := hid hED
          have hc2m := O2b.out.row.2.1
          have hc2x := O2b.out.row.2.2.1
          have HEL := hid hEl; have HZL := hid hZl; have HZM := hid hZm
          clear hS_0 hS_1 hS_2 hS0 r1 r2 b10 b11 o10 O2 O3 HCELL HEnd S1 HFf HFs ROB HB hEl hZl hZm hED
          generalize R.drop k2 = E at *
          generalize ((offs 0 R).drop (k2 + 1)).map (fun x : Nat => (x : Int)) = Zs at *
          have s1 : (k2 : Int) ≤ (m : Int) := by omega
          have s2 : (k2 : Int) + 1 ≤ (m : Int) + 1 := by omega
          have s3 : ((k2 : Int) + 1).toNat = k2 + 1 := by omega
          have s4 : 0 ≤ (k2 : Int) + 1 := by omega
          have HFE := hid (show E.length = F.length by rw [HEL.out, HFl.out])
          have HFZ := hid (show Zs.length = F.length by rw [HZL.out, HFl.out]; omega)
          by_cases hkm : k2 = m
          · have hE0 : E = [] := List.eq_nil_of_length_eq_zero (by rw [HEL.out]; omega)
            have hZ0 : Zs = [] := List.eq_nil_of_length_eq_zero (by rw [HZL.out]; omega)
            subst hE0 hZ0
            subst hkm
            rcases own_none O2b.out with ⟨rfl, rfl, rfl⟩ | ⟨g2, rfl⟩
            · by_cases hc3 : c3 = 1
              all_goals
                go_wp2_with fail
                refine (same16_eq p1 _ d1 _ [] F.length _ w11 HFE.out ?h2 R1.out ?row).mono ?_
                case h2 => first | exact HEL.out | rfl | (simp; done) | (simp; omega)
                case row => first | exact QE.out | exact Row.nil _ _ | exact row_empty _ _ _ _ (by unfold maxLen at *; omega)
                rintro e w12 ⟨rfl, b12⟩
                go_wp2_with fail
                refine (sameInts_eq p2 _ d2 _ [] F.length _ w12 HFZ.out ?h2 (R2.out.mono b12) ?row).mono ?_
                case h2 => first | exact HZL.out | (rw [HZL.out]; omega) | rfl | (simp; done) | (simp; omega)
                case row => first | exact QZ.out.mono b12 | exact Row.nil _ _ | exact row_empty _ _ _ _ (by unfold maxLen at *; omega)
                rintro e w13 ⟨rfl, b13⟩
                have RB3 := hid ((ROB2.out.mono b12).mono b13); have HB13 := hid (kept_trans (kept_trans HB11.out b12) b13)
                clear b12 b13
                go_wp2_with fail
                refine (HLg.out w13 RB3.out).mono ?_
                rintro e w14 ⟨pa2, pc2, rfl, o14, b14⟩
                have RZ := hid (HZR.out w14 w14 _ pa2 pc2 o14 (Below.refl _ _)); have HB14 := hid (kept_trans HB13.out b14)
                clear o14 b14
                go_wp2_with fail
                refine (S2.out pa2 pc2 w14 RZ.out).mono ?_
                rintro e w15 ⟨p5, d5, p6, d6, rfl, r5, r6, b15⟩
                have HB15 := hid (kept_trans HB14.out b15)
                clear r5 r6 b15
                by_cases ho : (p : Int) = oth
                · subst ho
                  go_wp2_with (go_at_call 13; refine (lives16_any _).mono ?_; rintro en2 w20 ⟨rfl, rfl⟩)
                  go_ret
                  exact ⟨rfl, HB15.out⟩
                · have hG := HS2.out ho
                  subst hG
                  have ho' : (oth == (p : Int)) = false := by simp; omega
                  clear ho
                  go_wp2_with (go_at_call 13; refine (lives16_any _).mono ?_; rintro en2 w20 ⟨rfl, rfl⟩)
                  go_ret
                  exact ⟨rfl, HB15.out⟩
            · by_cases hc2 : c2 = k2
              all_goals
                by_cases hc3 : c3 = k2 + 1
                all_goals
                  go_wp2_with fail
                  refine (same16_eq p1 _ d1 _ [] F.length _ w11 HFE.out ?h2 R1.out ?row).mono ?_
                  case h2 => first | exact HEL.out | rfl | (simp; done) | (simp; omega)
                  case row => first | exact QE.out | exact Row.nil _ _ | exact row_empty _ _ _ _ (by unfold maxLen at *; omega)
                  rintro e w12 ⟨rfl, b12⟩
                  go_wp2_with fail
                  refine (sameInts_eq p2 _ d2 _ [] F.length _ w12 HFZ.out ?h2 (R2.out.mono b12) ?row).mono ?_
                  case h2 => first | exact HZL.out | (rw [HZL.out]; omega) | rfl | (simp; done) | (simp; omega)
                  case row => first | exact QZ.out.mono b12 | exact Row.nil _ _ | exact row_empty _ _ _ _ (by unfold maxLen at *; omega)
                  rintro e w13 ⟨rfl, b13⟩
                  have RB3 := hid ((ROB2.out.mono b12).mono b13); have HB13 := hid (kept_trans (kept_trans HB11.out b12) b13)
                  clear b12 b13
                  go_wp2_with fail
                  refine (HLg.out w13 RB3.out).mono ?_
                  rintro e w14 ⟨pa2, pc2, rfl, o14, b14⟩
                  have RZ := hid (HZR.out w14 w14 _ pa2 pc2 o14 (Below.refl _ _)); have HB14 := hid (kept_trans HB13.out b14)
                  clear o14 b14
                  go_wp2_with fail
                  refine (S2.out pa2 pc2 w14 RZ.out).mono ?_
                  rintro e w15 ⟨p5, d5, p6, d6, rfl, r5, r6, b15⟩
                  have HB15 := hid (kept_trans HB14.out b15)
                  clear r5 r6 b15
                  by_cases ho : (p : Int) = oth
                  · subst ho
                    go_wp2_with (go_at_call 13; refine (lives16_any _).mono ?_; rintro en2 w20 ⟨rfl, rfl⟩)
                    go_ret
                    exact ⟨rfl, HB15.out⟩
                  · have hG := HS2.out ho
                    subst hG
                    have ho' : (oth == (p : Int)) = false := by simp; omega
                    clear ho
                    go_wp2_with (go_at_call 13; refine (lives16_any _).mono ?_; rintro en2 w20 ⟨rfl, rfl⟩)
                    go_ret
                    exact ⟨rfl, HB15.out⟩
          · rcases own_none O2b.out with ⟨_, hm0, _⟩ | ⟨g2, rfl⟩
            · omega
            · have hc2 : ¬ c2 = k2 := by omega
              have hc3 : ¬ c3 = k2 + 1 := by omega
              have QE : Hid (RowR w11 (some ⟨g2, k2 * 5, none⟩) (c2 - k2) E) := by
                have q := row_drop (O2b.out.row) k2 hk2
                rw [HED.out, Nat.zero_add] at q
                unfold RowR; rw [HEL.out]; exact q
              have QZ : Hid (RowI w11 (some ⟨g3, k2 + 1, none⟩) (c3 - (k2 + 1)) Zs) := by
                have q := row_drop (O3b.out.row) (k2 + 1) (by omega)
                rw [Nat.zero_add, Nat.mul_one, ← HZM.out] at q
                unfold RowI; rw [HZL.out]; exact q
              have HN1 := hid hkm
              clear hkm
              go_wp2_with fail
              refine (same16_eq p1 _ d1 _ E F.length _ w11 HFE.out ?h2 R1.out ?row).mono ?_
              case h2 => first | exact HEL.out | rfl | (simp; done) | (simp; omega)
              case row => first | exact QE.out | exact Row.nil _ _ | exact row_empty _ _ _ _ (by unfold maxLen at *; omega)
              rintro e w12 ⟨rfl, b12⟩
              go_wp2_with fail
              refine (sameInts_eq p2 _ d2 _ Zs F.length _ w12 HFZ.out ?h2 (R2.out.mono b12) ?row).mono ?_
              case h2 => first | exact HZL.out | (rw [HZL.out]; omega) | rfl | (simp; done) | (simp; omega)
              case row => first | exact QZ.out.mono b12 | exact Row.nil _ _ | exact row_empty _ _ _ _ (by unfold maxLen at *; omega)
              rintro e w13 ⟨rfl, b13⟩
              have RB3 := hid ((ROB2.out.mono b12).mono b13); have HB13 := hid (kept_trans (kept_trans HB11.out b12) b13)
              clear b12 b13
              go_wp2_with fail
              refine (HLg.out w13 RB3.out).mono ?_
              rintro e w14 ⟨pa2, pc2, rfl, o14, b14⟩
              have RZ := hid (HZR.out w14 w14 _ pa2 pc2 o14 (Below.refl _ _)); have HB14 := hid (kept_trans HB13.out b14)
              clear o14 b14
              go_wp2_with fail
              refine (S2.out pa2 pc2 w14 RZ.out).mono ?_
              rintro e w15 ⟨p5, d5, p6, d6, rfl, r5, r6, b15⟩
              have HB15 := hid (kept_trans HB14.out b15)
              clear r5 r6 b15
              by_cases ho : (p : Int) = oth
              · subst ho
                go_wp2_with (go_at_call 13; refine (lives16_any _).mono ?_; rintro en2 w20 ⟨rfl, rfl⟩)
                go_ret
                exact ⟨rfl, HB15.out⟩
              · have hG := HS2.out ho
                subst hG
                have ho' : (oth == (p : Int)) = false := by simp; omega
                clear ho
                go_wp2_with (go_at_call 13; refine (lives16_any _).mono ?_; rintro en2 w20 ⟨rfl, rfl⟩)
                go_ret
                exact ⟨rfl, HB15.out⟩
        · have dn := dpos rfl
          clear dpos bat
          go_wp2_with fail
          refine (HEnd.out wr).mono ?_
          rintro e w2 ⟨rfl, rfl⟩
          go_wp2_with fail
          have hS0 : wr.drew.cell? ⟨g3, k2, none⟩ = some (.int .i64 (v : Nat)) ∧ Below wr.heap.size wr wr.drew := ⟨HCELL.out, (Below.refl _ _).drew⟩
          refine wp_region_held_drew (S := fun w' => w'.cell? ⟨g3, k2, none⟩ = some (.int .i64 (v : Nat)) ∧ Below wr.heap.size wr w') (by kernel_rfl) hS0 (fun hS_0 => ?_)
          refine takeR (i := 0) (v := .int .i64 (x : Nat)) rfl rfl (by kernel_rfl) (by kernel_rfl) (by kernel_rfl) (fun _ _ _ h => h) (Or.inl ⟨Eq.refl true, fun w1 hSw => ?_⟩) hS_0 ?_
          · first | rfl | (clear hSw; go_simp; done) | (clear hSw; go_simp; rfl)
          (try simp only [Act.put, List.setIfInBounds_toArray, List.set_cons_zero, List.set_cons_succ])
          refine takeR (i := 1) (v := .slice a1 n c1) rfl rfl (by kernel_rfl) (by kernel_rfl) (by kernel_rfl) (fun _ _ _ h => h) (Or.inl ⟨Eq.refl true, fun w1 hSw => ?_⟩) hS_0 ?_
          · first | rfl | (clear hSw; go_simp; done) | (clear hSw; go_simp; rfl)
          (try simp only [Act.put, List.setIfInBounds_toArray, List.set_cons_zero, List.set_cons_succ])
          refine takeR (i := 3) (v := .int .i64 (p : Nat)) rfl rfl (by kernel_rfl) (by kernel_rfl) (by kernel_rfl) (fun _ _ _ h => h) (Or.inl ⟨Eq.refl true, fun w1 hSw => ?_⟩) hS_0 ?_
          · first | rfl | (clear hSw; go_simp; done) | (clear hSw; go_simp; rfl)
          (try simp only [Act.put, List.setIfInBounds_toArray, List.set_cons_zero, List.set_cons_succ])
          refine takeR (i := 4) (v := .slice (some ⟨g3, 0, none⟩) (m + 1) c3) rfl rfl (by kernel_rfl) (by kernel_rfl) (by kernel_rfl) (fun _ _ _ h => h) (Or.inl ⟨Eq.refl true, fun w1 hSw => ?_⟩) hS_0 ?_
          · first | rfl | (clear hSw; go_simp; done) | (clear hSw; go_simp; rfl)
          (try simp only [Act.put, List.setIfInBounds_toArray, List.set_cons_zero, List.set_cons_succ])
          refine takeR (i := 5) (v := .int .i64 (k2 : Nat)) rfl rfl (by kernel_rfl) (by kernel_rfl) (by kernel_rfl) (fun _ _ _ h => h) (Or.inl ⟨Eq.refl true, fun w1 hSw => ?_⟩) hS_0 ?_
          · first | rfl | (clear hSw; go_simp; done) | (clear hSw; go_simp; rfl)
          (try simp only [Act.put, List.setIfInBounds_toArray, List.set_cons_zero, List.set_cons_succ])
          refine takeR (i := 6) (v := .pointer (some ⟨g3, k2, none⟩)) rfl rfl (by kernel_rfl) (by kernel_rfl) (by kernel_rfl) (fun _ _ _ h => h) (Or.inl ⟨Eq.refl true, fun w1 hSw => ?_⟩) hS_0 ?_
          · first | rfl | (clear hSw; go_simp; done) | (clear hSw; go_simp; rfl)
          (try simp only [Act.put, List.setIfInBounds_toArray, List.set_cons_zero, List.set_cons_succ])
          refine takeR (i := 7) (v := .int .i64 (v : Nat)) rfl rfl (by kernel_rfl) (by kernel_rfl) (by kernel_rfl) (fun _ _ _ h => h) (Or.inl ⟨Eq.refl true, fun w1 hSw => ?_⟩) hS_0 ?_
          · (obtain ⟨q1, q2⟩ := hSw; go_simp; try rfl)
          (try simp only [Act.put, List.setIfInBounds_toArray, List.set_cons_zero, List.set_cons_succ])
          refine wpAnyH_ready (rs := [2]) (by kernel_rfl) (by simp) (AllReadyH.cons rfl (fun K hK => ?_) AllReadyH.nil)
          go_simp
          go_wp2_with (go_at_call 20; refine (HLg.out _ (ROB.out.mono hS_0.2)).mono ?_; rintro e w10 ⟨pa, pc, rfl, o10, b10⟩)
          refine hK.out _ _ ?_ (fun hS_1 => ?_)
          · exact ⟨(b10.cell (p := ⟨g3, k2, none⟩) (Nat.lt_of_lt_of_le hg3 hS_0.2.size)).trans hS_0.1, kept_trans hS_0.2 b10⟩
          clear hK K
          refine wpAnyH_ready (rs := [8]) (by kernel_rfl) (by simp) (AllReadyH.cons rfl (fun K hK => ?_) AllReadyH.nil)
          go_simp
          go_wp2_with (go_at_call 21; refine (S1.out pa pc w10 (HZR.out w10 w10 _ pa pc o10 (Below.refl _ _))).mono ?_; rintro e w11 ⟨p1, d1, p2, d2, rfl, r1, r2, b11⟩)
          refine hK.out _ _ ?_ (fun hS_2 => ?_)
          · exact ⟨(b11.cell (p := ⟨g3, k2, none⟩) (Nat.lt_of_lt_of_le hg3 hS_1.2.size)).trans hS_1.1, kept_trans hS_1.2 b11⟩
          clear hK K
          refine takeR (i := 9) (v := .tuple #[.slice p1 (F.length) d1, .slice p2 (F.length) d2]) rfl rfl (by kernel_rfl) (by kernel_rfl) (by kernel_rfl) (fun _ _ _ h => h) (Or.inl ⟨Eq.refl true, fun w1 hSw => ?_⟩) hS_2 ?_
          · first | rfl | (clear hSw; go_simp; done) | (clear hSw; go_simp; rfl)
          (try simp only [Act.put, List.setIfInBounds_toArray, List.set_cons_zero, List.set_cons_succ])
          refine takeR (i := 10) (v := .slice p1 (F.length) d1) rfl rfl (by kernel_rfl) (by kernel_rfl) (by kernel_rfl) (fun _ _ _ h => h) (Or.inl ⟨Eq.refl true, fun w1 hSw => ?_⟩) hS_2 ?_
          · first | rfl | (clear hSw; go_simp; done) | (clear hSw; go_simp; rfl)
          (try simp only [Act.put, List.setIfInBounds_toArray, List.set_cons_zero, List.set_cons_succ])
          refine takeR (i := 11) (v := .slice p2 (F.length) d2) rfl rfl (by kernel_rfl) (by kernel_rfl) (by kernel_rfl) (fun _ _ _ h => h) (Or.inl ⟨Eq.refl true, fun w1 hSw => ?_⟩) hS_2 ?_
          · first | rfl | (clear hSw; go_simp; done) | (clear hSw; go_simp; rfl)
          (try simp only [Act.put, List.setIfInBounds_toArray, List.set_cons_zero, List.set_cons_succ])
          refine takeR (i := 12) (v := .slice p1 (F.length) d1) rfl rfl (by kernel_rfl) (by kernel_rfl) (by kernel_rfl) (fun _ _ _ h => h) (Or.inl ⟨Eq.refl true, fun w1 hSw => ?_⟩) hS_2 ?_
          · first | rfl | (clear hSw; go_simp; done) | (clear hSw; go_simp; rfl)
          (try simp only [Act.put, List.setIfInBounds_toArray, List.set_cons_zero, List.set_cons_succ])
          refine takeR (i := 13) (v := .slice p2 (F.length) d2) rfl rfl (by kernel_rfl) (by kernel_rfl) (by kernel_rfl) (fun _ _ _ h => h) (Or.inl ⟨Eq.refl true, fun w1 hSw => ?_⟩) hS_2 ?_
          · first | rfl | (clear hSw; go_simp; done) | (clear hSw; go_simp; rfl)
          (try simp only [Act.put, List.setIfInBounds_toArray, List.set_cons_zero, List.set_cons_succ])
          refine wpAnyH_done (by kernel_rfl) ?_ _
          rw [HFf.out] at r1
          rw [HFs.out] at r2
          have R1 := hid r1; have R2 := hid r2
          have K11 := hid hS_2.2
          have HB11 := hid (kept_trans HB.out hS_2.2)
          have O2b := hid (O2.out.mono hS_2.2); have O3b := hid (O3.out.mono hS_2.2); have ROB2 := hid (ROB.out.mono hS_2.2)
          have hEl : (R.drop k2).length = m - k2 := by rw [List.length_drop, HRM.out]
          have hZl : (((offs 0 R).drop (k2 + 1)).map (fun x : Nat => (x : Int))).length = m + 1 - (k2 + 1) := by rw [List.length_map, List.length_drop, offs_length, HRM.out]
          have hZm : (((offs 0 R).drop (k2 + 1)).map (fun x : Nat => (x : Int))).map iV = ((offs 0 R).map oV).drop (k2 + 1) := by rw [List.map_map, ← List.map_drop]; rfl
          have hED : (R.flatMap recCells).drop (k2 * 5) = (R.drop k2).flatMap recCells := flat5_drop R k2
          have HED := hid hED
          have hc2m := O2b.out.row.2.1
          have hc2x := O2b.out.row.2.2.1
          have HEL := hid hEl; have HZL := hid hZl; have HZM := hid hZm
          clear hS_0 hS_1 hS_2 hS0 r1 r2 b10 b11 o10 O2 O3 HCELL HEnd S1 HFf HFs ROB HB hEl hZl hZm hED
          generalize R.drop k2 = E at *
          generalize ((offs 0 R).drop (k2 + 1)).map (fun x : Nat => (x : Int)) = Zs at *
          have s1 : (k2 : Int) ≤ (m : Int) := by omega
          have s2 : (k2 : Int) + 1 ≤ (m : Int) + 1 := by omega
          have s3 : ((k2 : Int) + 1).toNat = k2 + 1 := by omega
          have s4 : 0 ≤ (k2 : Int) + 1 := by omega
          have HFE := hid (show E.length = F.length by rw [HEL.out, HFl.out])
          have HFZ := hid (show Zs.length = F.length by rw [HZL.out, HFl.out]; omega)
          by_cases hkm : k2 = m
          · have hE0 : E = [] := List.eq_nil_of_length_eq_zero (by rw [HEL.out]; omega)
            have hZ0 : Zs = [] := List.eq_nil_of_length_eq_zero (by rw [HZL.out]; omega)
            subst hE0 hZ0
            subst hkm
            rcases own_none O2b.out with ⟨rfl, rfl, rfl⟩ | ⟨g2, rfl⟩
            · by_cases hc3 : c3 = 1
              all_goals
                go_wp2_with fail
                refine (same16_eq p1 _ d1 _ [] F.length _ w11 HFE.out ?h2 R1.out ?row).mono ?_
                case h2 => first | exact HEL.out | rfl | (simp; done) | (simp; omega)
                case row => first | exact QE.out | exact Row.nil _ _ | exact row_empty _ _ _ _ (by unfold maxLen at *; omega)
                rintro e w12 ⟨rfl, b12⟩
                go_wp2_with fail
                refine (sameInts_eq p2 _ d2 _ [] F.length _ w12 HFZ.out ?h2 (R2.out.mono b12) ?row).mono ?_
                case h2 => first | exact HZL.out | (rw [HZL.out]; omega) | rfl | (simp; done) | (simp; omega)
                case row => first | exact QZ.out.mono b12 | exact Row.nil _ _ | exact row_empty _ _ _ _ (by unfold maxLen at *; omega)
                rintro e w13 ⟨rfl, b13⟩
                have RB3 := hid ((ROB2.out.mono b12).mono b13); have HB13 := hid (kept_trans (kept_trans HB11.out b12) b13)
                clear b12 b13
                go_wp2_with fail
                refine (HLg.out w13 RB3.out).mono ?_
                rintro e w14 ⟨pa2, pc2, rfl, o14, b14⟩
                have RZ := hid (HZR.out w14 w14 _ pa2 pc2 o14 (Below.refl _ _)); have HB14 := hid (kept_trans HB13.out b14)
                clear o14 b14
                go_wp2_with fail
                refine (S2.out pa2 pc2 w14 RZ.out).mono ?_
                rintro e w15 ⟨p5, d5, p6, d6, rfl, r5, r6, b15⟩
                have HB15 := hid (kept_trans HB14.out b15)
                clear r5 r6 b15
                by_cases ho : (p : Int) = oth
                · subst ho
                  go_wp2_with (go_at_call 13; refine (lives16_any _).mono ?_; rintro en2 w20 ⟨rfl, rfl⟩)
                  go_ret
                  exact ⟨rfl, HB15.out⟩
                · have hG := HS2.out ho
                  subst hG
                  have ho' : (oth == (p : Int)) = false := by simp; omega
                  clear ho
                  go_wp2_with (go_at_call 13; refine (lives16_any _).mono ?_; rintro en2 w20 ⟨rfl, rfl⟩)
                  go_ret
                  exact ⟨rfl, HB15.out⟩
            · by_cases hc2 : c2 = k2
              all_goals
                by_cases hc3 : c3 = k2 + 1
                all_goals
                  go_wp2_with fail
                  refine (same16_eq p1 _ d1 _ [] F.length _ w11 HFE.out ?h2 R1.out ?row).mono ?_
                  case h2 => first | exact HEL.out | rfl | (simp; done) | (simp; omega)
                  case row => first | exact QE.out | exact Row.nil _ _ | exact row_empty _ _ _ _ (by unfold maxLen at *; omega)
                  rintro e w12 ⟨rfl, b12⟩
                  go_wp2_with fail
                  refine (sameInts_eq p2 _ d2 _ [] F.length _ w12 HFZ.out ?h2 (R2.out.mono b12) ?row).mono ?_
                  case h2 => first | exact HZL.out | (rw [HZL.out]; omega) | rfl | (simp; done) | (simp; omega)
                  case row => first | exact QZ.out.mono b12 | exact Row.nil _ _ | exact row_empty _ _ _ _ (by unfold maxLen at *; omega)
                  rintro e w13 ⟨rfl, b13⟩
                  have RB3 := hid ((ROB2.out.mono b12).mono b13); have HB13 := hid (kept_trans (kept_trans HB11.out b12) b13)
                  clear b12 b13
                  go_wp2_with fail
                  refine (HLg.out w13 RB3.out).mono ?_
                  rintro e w14 ⟨pa2, pc2, rfl, o14, b14⟩
                  have RZ := hid (HZR.out w14 w14 _ pa2 pc2 o14 (Below.refl _ _)); have HB14 := hid (kept_trans HB13.out b14)
                  clear o14 b14
                  go_wp2_with fail
                  refine (S2.out pa2 pc2 w14 RZ.out).mono ?_
                  rintro e w15 ⟨p5, d5, p6, d6, rfl, r5, r6, b15⟩
                  have HB15 := hid (kept_trans HB14.out b15)
                  clear r5 r6 b15
                  by_cases ho : (p : Int) = oth
                  · subst ho
                    go_wp2_with (go_at_call 13; refine (lives16_any _).mono ?_; rintro en2 w20 ⟨rfl, rfl⟩)
                    go_ret
                    exact ⟨rfl, HB15.out⟩
                  · have hG := HS2.out ho
                    subst hG
                    have ho' : (oth == (p : Int)) = false := by simp; omega
                    clear ho
                    go_wp2_with (go_at_call 13; refine (lives16_any _).mono ?_; rintro en2 w20 ⟨rfl, rfl⟩)
                    go_ret
                    exact ⟨rfl, HB15.out⟩
          · rcases own_none O2b.out with ⟨_, hm0, _⟩ | ⟨g2, rfl⟩
            · omega
            · have hc2 : ¬ c2 = k2 := by omega
              have hc3 : ¬ c3 = k2 + 1 := by omega
              have QE : Hid (RowR w11 (some ⟨g2, k2 * 5, none⟩) (c2 - k2) E) := by
                have q := row_drop (O2b.out.row) k2 hk2
                rw [HED.out, Nat.zero_add] at q
                unfold RowR; rw [HEL.out]; exact q
              have QZ : Hid (RowI w11 (some ⟨g3, k2 + 1, none⟩) (c3 - (k2 + 1)) Zs) := by
                have q := row_drop (O3b.out.row) (k2 + 1) (by omega)
                rw [Nat.zero_add, Nat.mul_one, ← HZM.out] at q
                unfold RowI; rw [HZL.out]; exact q
              have HN1 := hid hkm
              clear hkm
              go_wp2_with fail
              refine (same16_eq p1 _ d1 _ E F.length _ w11 HFE.out ?h2 R1.out ?row).mono ?_
              case h2 => first | exact HEL.out | rfl | (simp; done) | (simp; omega)
              case row => first | exact QE.out | exact Row.nil _ _ | exact row_empty _ _ _ _ (by unfold maxLen at *; omega)
              rintro e w12 ⟨rfl, b12⟩
              go_wp2_with fail
              refine (sameInts_eq p2 _ d2 _ Zs F.length _ w12 HFZ.out ?h2 (R2.out.mono b12) ?row).mono ?_
              case h2 => first | exact HZL.out | (rw [HZL.out]; omega) | rfl | (simp; done) | (simp; omega)
              case row => first | exact QZ.out.mono b12 | exact Row.nil _ _ | exact row_empty _ _ _ _ (by unfold maxLen at *; omega)
              rintro e w13 ⟨rfl, b13⟩
              have RB3 := hid ((ROB2.out.mono b12).mono b13); have HB13 := hid (kept_trans (kept_trans HB11.out b12) b13)
              clear b12 b13
              go_wp2_with fail
              refine (HLg.out w13 RB3.out).mono ?_
              rintro e w14 ⟨pa2, pc2, rfl, o14, b14⟩
              have RZ := hid (HZR.out w14 w14 _ pa2 pc2 o14 (Below.refl _ _)); have HB14 := hid (kept_trans HB13.out b14)
              clear o14 b14
              go_wp2_with fail
              refine (S2.out pa2 pc2 w14 RZ.out).mono ?_
              rintro e w15 ⟨p5, d5, p6, d6, rfl, r5, r6, b15⟩
              have HB15 := hid (kept_trans HB14.out b15)
              clear r5 r6 b15
              by_cases ho : (p : Int) = oth
              · subst ho
                go_wp2_with (go_at_call 13; refine (lives16_any _).mono ?_; rintro en2 w20 ⟨rfl, rfl⟩)
                go_ret
                exact ⟨rfl, HB15.out⟩
              · have hG := HS2.out ho
                subst hG
                have ho' : (oth == (p : Int)) = false := by simp; omega
                clear ho
                go_wp2_with (go_at_call 13; refine (lives16_any _).mono ?_; rintro en2 w20 ⟨rfl, rfl⟩)
                go_ret
                exact ⟨rfl, HB15.out⟩
      · have hno : okE ep (n : Int) = false := okE_f (fun hh => hE ⟨hh.1, hh.2.1⟩)
        simp only [hno, Bool.false_ne_true, if_false] at HEnd
        have HEnd := hid HEnd
        clear hno
        rcases (by omega : ep < 0 ∨ (¬ ep < 0 ∧ 1073741824 < ep)) with hE2 | ⟨hE2, hE3⟩
        · have d1 : decide (ep < 0) = true := decide_eq_true hE2
          clear hE hE2
          go_wp2_with fail
          refine (HEnd.out wr).mono ?_
          rintro e w2 ⟨rfl, rfl⟩
          go_wp2_with (go_at_call 13; refine (lives16_any _).mono ?_; rintro en2 w10 ⟨rfl, rfl⟩)
          go_ret
          exact ⟨rfl, HB.out⟩
        · have d1 : decide (ep < 0) = false := decide_eq_false hE2
          have d2 : decide (1073741824 < ep) = true := decide_eq_true hE3
          clear hE hE2 hE3
          go_wp2_with fail
          refine (HEnd.out wr).mono ?_
          rintro e w2 ⟨rfl, rfl⟩
          go_wp2_with (go_at_call 13; refine (lives16_any _).mono ?_; rintro en2 w10 ⟨rfl, rfl⟩)
          go_ret
          exact ⟨rfl, HB.out⟩

end Go.Proofs.Ytngfpndikjbioaa
