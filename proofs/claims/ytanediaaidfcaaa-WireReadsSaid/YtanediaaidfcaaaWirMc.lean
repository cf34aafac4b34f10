/- Merged: WirP WirQ WirR WirS. -/
import Derived.Test.YtanediaaidfcaaaWirO
/- The coder: names that are put. -/
namespace Go.Proofs.Ytanediaaidfcaaa
open Go.RowKit
set_option linter.unusedSimpArgs false
set_option linter.unusedVariables false

def namesP (m : WM) (N : List (List UInt8)) : WM := if (chkP (numP 1 m N.length) (decide (N.length ≤ 16))).no = true then chkP (numP 1 m N.length) (decide (N.length ≤ 16)) else N.foldl (textP 1 12) (chkP (numP 1 m N.length) (decide (N.length ≤ 16)))
theorem foldT_len (N : List (List UInt8)) (h : ∀ s ∈ N, s.length ≤ 200) (m : WM) : (N.foldl (textP 1 12) m).b.length ≤ m.b.length + 208 * N.length := by
  induction N generalizing m with
  | nil => simp
  | cons s N ih =>
    have h1 := ih (fun q hq => h q (List.mem_cons_of_mem _ hq)) (textP 1 12 m s)
    have h2 := textP_len (k := 1) (most := 12) (by decide) m s (h s (List.mem_cons_self ..))
    simp only [List.foldl_cons, List.length_cons, Nat.mul_add, Nat.mul_one] at *
    omega

set_option maxRecDepth 100000 in
set_option maxHeartbeats 600000 in
theorem namesP_any {w : World} {g B pk : Nat} {P : PkM} {na : Option Addr} {nc : Nat} {m : WM} (h : WrP w g B pk P na P.N.length nc m) (hN : ∀ s ∈ P.N, s.length ≤ 200) (hn9 : P.N.length ≤ 100) (hr : Row w 1 na P.N.length nc (P.N.map strV)) (hrb : 0 < P.N.length → ∀ b, (∃ off, na = some ⟨b, off, none⟩) → b ≠ g ∧ b < B) (hm : m.b.length ≤ 2000) :
    Calls Try.prog 61 #[.pointer (some ⟨g, 0, none⟩), .pointer (some ⟨pk, 23, none⟩)] w fun e w' => e = .returned (.tuple #[]) ∧ WrP w' g B pk P na P.N.length nc (namesP m P.N) ∧ Turns (fun x => x = g ∨ B ≤ x) w w' := by
  have hne := h.ne
  have hgl : g < w.heap.size := by obtain ⟨⟨_, _, hb, _⟩, _⟩ := h; exact hb.lt
  have hpl : pk < w.heap.size := h.2.2.1.lt
  have hpB : pk < B := h.2.2.2.1
  have hBw := h.2.1
  unfold namesP
  obtain ⟨n, hn⟩ : ∃ n, n = P.N.length := ⟨_, rfl⟩
  rw [← hn] at h hn9 hr hrb ⊢
  have c23 : w.cell? ⟨pk, 23, none⟩ = some (.slice na n nc) := by
    have := h.2.2.1.cell (i := 23) (by show 23 < 43; omega)
    exact this
  obtain ⟨w1, hw1, b1, s1, kn, ka⟩ := box_new w (n : Int)
  have h1 : CoP w1 g B m := by
    obtain ⟨a, c, hb, ho⟩ := h.1
    exact ⟨a, c, hb.mono b1, ho.mono b1⟩
  have hNn := numbersP_any h1 (by omega) 1 (by decide) (some ⟨w.heap.size + 1, 0, none⟩) 1 w.heap.size [0] [(n : Int)] rfl (by decide) (by omega) (row_blkO ka 1 1 rfl (by omega))
    (fun _ b hb => by obtain ⟨off, e⟩ := hb; cases e; omega) (by omega) (by omega) (fun i hi => by
      obtain rfl : i = 0 := by simp at hi; omega
      exact ⟨kn.cell (i := 0) (by simp), by show (n : Int) ≤ _; omega⟩)
  rw [show [(n : Int)].foldl (numP 1) m = numP 1 m n from rfl] at hNn
  have l1 : (numP 1 m n).b.length ≤ 2008 := by have := numP_len (k := 1) (by decide) m n; omega
  generalize numP 1 m n = m1 at *
  obtain ⟨okb, hok⟩ : ∃ okb, decide (n ≤ 16) = okb := ⟨_, rfl⟩
  rw [hok]
  have hok2 : decide ((n : Int) ≤ 16) = okb := by rw [← hok]; exact decide_eq_decide.2 (by omega)
  obtain ⟨m2, hm2⟩ : ∃ m2, m2 = chkP m1 okb := ⟨_, rfl⟩
  have l2 : m2.b.length ≤ 2008 := by rw [hm2]; exact l1
  rw [← hm2]
  have HN := hid hNn; have HW1 := hid hw1; have B1 := hid b1; have KN := hid kn; have H := hid h; have HM2 := hid hm2; have HR := hid hr; have HRB := hid hrb; have HNL := hid hn; have HNS := hid hN
  clear hNn hw1 b1 kn ka h h1 hm2 hr hrb hn hN
  cases hno : m2.no with
  | true =>
    simp only [if_true]
    go_enter Try.func61, Try.ntmps61
    go_wp2_with fail
    rw [← HW1.out]
    refine HN.out.mono ?_
    rintro e w2 ⟨rfl, h2, t2⟩
    have n2 : w2.cell? ⟨w.heap.size, 0, none⟩ = some (.int .i64 (n : Int)) := (t2.blk KN.out (by omega)).cell (i := 0) (by simp)
    have T2 := hid t2; have H2 := hid h2
    clear t2 h2
    go_wp2_with fail
    refine (CoP.chk H2.out okb).mono ?_
    rintro e w3 ⟨rfl, h3, t3⟩
    rw [← HM2.out] at h3
    have x3 : w3.cell? ⟨g, 3, none⟩ = some (.bool true) := by
      obtain ⟨a, c, hb, _⟩ := h3
      have := hb.cell (i := 3) (by simp)
      rw [this]; simp [hno]
    have T3 := hid (T2.out.trans t3); have H3 := hid h3
    clear h3 t3 n2
    go_wp2_with fail
    refine bodyPost_ret (results_none rfl _ _ _) rfl ?_
    have ht : Turns (fun x => x = g ∨ B ≤ x) w w3 := (Turns.of_below B1.out).trans (T3.out.mono (fun _ q => .inl q))
    exact ⟨rfl, H.out.of H3.out ht (by omega), ht⟩
  | false =>
    simp only [Bool.false_eq_true, if_false]
    have hn16 : n ≤ 16 := by
      have : okb = true := by
        have := HM2.out; rw [this] at hno
        simp only [chkP, Bool.or_eq_false_iff] at hno
        simpa using hno.2
      rw [this] at hok; exact of_decide_eq_true hok
    go_enter Try.func61, Try.ntmps61
    go_wp2_with fail
    rw [← HW1.out]
    refine HN.out.mono ?_
    rintro e w2 ⟨rfl, h2, t2⟩
    have n2 : w2.cell? ⟨w.heap.size, 0, none⟩ = some (.int .i64 (n : Int)) := (t2.blk KN.out (by omega)).cell (i := 0) (by simp)
    have T2 := hid t2; have H2 := hid h2
    clear t2 h2
    go_wp2_with fail
    refine (CoP.chk H2.out okb).mono ?_
    rintro e w3 ⟨rfl, h3, t3⟩
    rw [← HM2.out] at h3
    obtain ⟨x0, x3⟩ : w3.cell? ⟨g, 0, none⟩ = some (.bool true) ∧ w3.cell? ⟨g, 3, none⟩ = some (.bool false) := by
      obtain ⟨a, c, hb, _⟩ := h3
      have q0 := hb.cell (i := 0) (by simp)
      have q3 := hb.cell (i := 3) (by simp)
      refine ⟨q0, ?_⟩
      rw [q3]; simp [hno]
    have ht : Turns (fun x => x = g ∨ B ≤ x) w w3 := (Turns.of_below B1.out).trans ((T2.out.trans t3).mono (fun _ q => .inl q))
    have H3 := hid (H.out.of h3 ht (by omega)); have HT := hid ht
    have y23 : w3.cell? ⟨pk, 23, none⟩ = some (.slice na n nc) := (World.cell?_of_block (ht.block pk hpl (fun q => q.elim hne (fun e => by omega)))).trans c23
    clear h3 t3 n2 ht
    go_wp2_with fail
    go_loopw [38, 5] (fun i _ wr => ∃ j : Nat, j ≤ n ∧ i = .int .i64 j ∧ WrP wr g B pk P na n nc ((P.N.take j).foldl (textP 1 12) m2) ∧ Turns (fun x => x = g ∨ B ≤ x) w wr) (fun i _ _ => n - (intOf i).toNat)
    case atStart => exact ⟨0, Nat.zero_le _, rfl, H3.out, HT.out⟩
    case round =>
      obtain ⟨j, hj, rfl, hm', ht⟩ := hrel
      by_cases hlt : j < n
      · have d0 : decide ((j : Int) < (n : Int)) = true := decide_eq_true (by omega)
        have hjN : j < P.N.length := by have := HNL.out; omega
        have hlen := foldT_len (P.N.take j) (fun s hs => HNS.out s (List.mem_of_mem_take hs)) m2
        have hlen2 : ((P.N.take j).foldl (textP 1 12) m2).b.length ≤ 6000 := by
          have : (P.N.take j).length ≤ 16 := by rw [List.length_take]; omega
          omega
        have hstep : (P.N.take (j + 1)).foldl (textP 1 12) m2 = textP 1 12 ((P.N.take j).foldl (textP 1 12) m2) P.N[j] := by
          rw [List.take_add_one, List.foldl_append]
          simp [hjN]
        obtain ⟨ra, roff, rfl, hrl, hrc⟩ := HR.out.at (by omega)
        obtain ⟨hrg, hrB⟩ := HRB.out (by omega) ra ⟨roff, rfl⟩
        have p0 : wr.cell? ⟨ra, roff + j, none⟩ = some (strV P.N[j]) := (World.cell?_of_block (ht.block ra hrl (fun q => q.elim hrg (fun e => by omega)))).trans (hrc j _ (by simp [hjN]))
        have p23 : wr.cell? ⟨pk, 23, none⟩ = some (.slice (some ⟨ra, roff, none⟩) n nc) := hm'.2.2.1.cell (i := 23) (by show 23 < 43; omega)
        have hs2 := HNS.out P.N[j] (List.getElem_mem hjN)
        generalize (P.N.take j).foldl (textP 1 12) m2 = m3 at *
        have HTX := hid (textP_any hm'.1 hm'.2.1 1 12 (by decide) (by decide) ra (roff + j) P.N[j] (by omega) (by omega) hrg p0 hrB)
        have HS := hid hstep; have HM := hid hm'; have HTT := hid ht
        have hl4 := textP_len (k := 1) (most := 12) (by decide) m3 P.N[j] hs2
        clear hstep hm' ht hrc p0 c23 y23
        go_wp2_with fail
        refine HTX.out.mono ?_
        rintro e w4 ⟨rfl, h4, t4⟩
        have H4 := hid (HM.out.of h4 t4 (by omega)); have T4 := hid (HTT.out.trans t4)
        clear h4 t4 p23
        go_wp2_with fail
        go_roundw
        case rel => exact ⟨j + 1, by omega, by go_num, by rw [HS.out]; exact H4.out, T4.out⟩
        case measure => simp [intOf]; omega
      · have d0 : decide ((j : Int) < (n : Int)) = false := decide_eq_false (by omega)
        have HM := hid hm'; have HTT := hid ht
        clear hm' ht
        go_wp2_with fail
        go_end0
        have e := HM.out
        rw [List.take_of_length_le (by have := HNL.out; omega)] at e
        exact ⟨rfl, e, HTT.out⟩
end Go.Proofs.Ytanediaaidfcaaa
/- The coder: an answer to a question, put. (genWirQ.py) -/
namespace Go.Proofs.Ytanediaaidfcaaa
open Go.RowKit
set_option linter.unusedSimpArgs false
set_option linter.unusedVariables false

def rheadP (m : WM) (P : PkM) : WM := numP 2 ([P.I 28, P.I 29].foldl (numP 1) (numP 2 ([P.I 24, P.I 25].foldl (numP 1) (numP 4 (numP 8 (numP 1 (numP 1 (numP 1 (m) (P.I 4)) (P.I 19)) (P.I 18)) (P.I 27)) (P.I 5))) (P.I 26))) (P.I 30)
def rtoldP (m : WM) (P : PkM) : WM := namesP (([31, 32, 33, 34].map P.I).foldl (numP 1) (rheadP m P)) P.N
theorem WrP.nums {w : World} {g B pk : Nat} {P : PkM} {na : Option Addr} {nn nc : Nat} {m : WM} (h : WrP w g B pk P na nn nc m) (hP : smallP P) (k : Nat) (hk : k ≤ 8) (os : List Nat) (ho : ∀ o ∈ os, isNum o = true) (hfew : os.length ≤ 10) (hl : m.b.length ≤ 90000) (m' : WM) (hm' : (os.map P.I).foldl (numP k) m = m') :
    Calls Try.prog 31 #[.pointer (some ⟨g, 0, none⟩), .int .i64 k, .slice (some ⟨w.heap.size, 0, none⟩) os.length os.length] (w.alloc (.cells ((os.map fun o => (.pointer (some ⟨pk, o, none⟩) : Value))).toArray 71))
      fun e w' => e = .returned (.tuple #[]) ∧ WrP w' g B pk P na nn nc m' ∧ Turns (fun x => x = g ∨ x = pk ∨ B ≤ x) w w' := by
  refine (numsP_any h.1 h.2.1 h.2.2.1 hP k hk os ho hfew (by omega)).mono ?_
  rintro e w' ⟨rfl, h1, t1⟩
  rw [hm'] at h1
  refine ⟨rfl, h.of h1 (t1.mono (fun _ q => .inl q)) ?_, t1.mono (fun _ q => .inl q)⟩
  have := foldP_len k (os.map P.I) m
  rw [hm', List.length_map] at this
  have h8 : k * os.length ≤ 80 := Nat.mul_le_mul hk hfew
  omega

set_option maxRecDepth 100000 in
set_option maxHeartbeats 1000000 in
theorem rpcToldP_any {w : World} {g B pk : Nat} {P : PkM} {na : Option Addr} {nc : Nat} {m : WM} (h : WrP w g B pk P na P.N.length nc m) (hP : smallP P) (hS : shortP P) (hN : ∀ s ∈ P.N, s.length ≤ 200) (hn9 : P.N.length ≤ 100) (hr : Row w 1 na P.N.length nc (P.N.map strV)) (hrb : 0 < P.N.length → ∀ b, (∃ off, na = some ⟨b, off, none⟩) → b ≠ g ∧ b ≠ pk ∧ b < B) (hm : m.b.length ≤ 1000) :
    Calls Try.prog 50 #[.pointer (some ⟨g, 0, none⟩), .pointer (some ⟨pk, 0, none⟩)] w fun e w' => e = .returned (.tuple #[]) ∧ WrP w' g B pk P na P.N.length nc (rtoldP m P) ∧ Turns (fun x => x = g ∨ x = pk ∨ B ≤ x) w w' := by
  unfold rtoldP rheadP
  obtain ⟨m1, hm1⟩ : ∃ m1, m1 = numP 1 m (P.I 4) := ⟨_, rfl⟩
  have l1 : m1.b.length ≤ 1008 := by rw [hm1]; have := numP_len (k := 1) (by decide) m (P.I 4); omega
  obtain ⟨m2, hm2⟩ : ∃ m2, m2 = numP 1 m1 (P.I 19) := ⟨_, rfl⟩
  have l2 : m2.b.length ≤ 1016 := by rw [hm2]; have := numP_len (k := 1) (by decide) m1 (P.I 19); omega
  obtain ⟨m3, hm3⟩ : ∃ m3, m3 = numP 1 m2 (P.I 18) := ⟨_, rfl⟩
  have l3 : m3.b.length ≤ 1024 := by rw [hm3]; have := numP_len (k := 1) (by decide) m2 (P.I 18); omega
  obtain ⟨m4, hm4⟩ : ∃ m4, m4 = numP 8 m3 (P.I 27) := ⟨_, rfl⟩
  have l4 : m4.b.length ≤ 1032 := by rw [hm4]; have := numP_len (k := 8) (by decide) m3 (P.I 27); omega
  obtain ⟨m5, hm5⟩ : ∃ m5, m5 = numP 4 m4 (P.I 5) := ⟨_, rfl⟩
  have l5 : m5.b.length ≤ 1040 := by rw [hm5]; have := numP_len (k := 4) (by decide) m4 (P.I 5); omega
  obtain ⟨m6, hm6⟩ : ∃ m6, m6 = [P.I 24, P.I 25].foldl (numP 1) m5 := ⟨_, rfl⟩
  have l6 : m6.b.length ≤ 1056 := by rw [hm6]; have := foldP_len 1 [P.I 24, P.I 25] m5; simp at this; simp; omega
  obtain ⟨m7, hm7⟩ : ∃ m7, m7 = numP 2 m6 (P.I 26) := ⟨_, rfl⟩
  have l7 : m7.b.length ≤ 1064 := by rw [hm7]; have := numP_len (k := 2) (by decide) m6 (P.I 26); omega
  obtain ⟨m8, hm8⟩ : ∃ m8, m8 = [P.I 28, P.I 29].foldl (numP 1) m7 := ⟨_, rfl⟩
  have l8 : m8.b.length ≤ 1080 := by rw [hm8]; have := foldP_len 1 [P.I 28, P.I 29] m7; simp at this; simp; omega
  obtain ⟨m9, hm9⟩ : ∃ m9, m9 = numP 2 m8 (P.I 30) := ⟨_, rfl⟩
  have l9 : m9.b.length ≤ 1088 := by rw [hm9]; have := numP_len (k := 2) (by decide) m8 (P.I 30); omega
  rw [← hm1, ← hm2, ← hm3, ← hm4, ← hm5, ← hm6, ← hm7, ← hm8, ← hm9]
  have HM1 := hid hm1; have HM2 := hid hm2; have HM3 := hid hm3; have HM4 := hid hm4; have HM5 := hid hm5; have HM6 := hid hm6; have HM7 := hid hm7; have HM8 := hid hm8; have HM9 := hid hm9
  have H0 := hid h; have HR := hid hr; have HRB := hid hrb
  have T0 := hid (Turns.refl (fun x => x = g ∨ x = pk ∨ B ≤ x) w)
  clear h hr hrb hm1 hm2 hm3 hm4 hm5 hm6 hm7 hm8 hm9
  go_enter Try.func50, Try.ntmps50
  go_wp2_with fail
  refine (H0.out.nums hP 1 (by decide) [4] (by decide) (by decide) (by omega) m1 HM1.out.symm).mono ?_
  rintro e w1 ⟨rfl, h1, t1⟩
  have H1 := hid h1; have T1 := hid (T0.out.trans t1); clear h1 t1
  go_wp2_with fail
  refine (errnoP_any H1.out hP (by omega)).mono ?_
  rintro e w2 ⟨rfl, h2, t2⟩
  rw [← HM2.out] at h2
  have H2 := hid h2; have T2 := hid (T1.out.trans t2); clear h2 t2
  go_wp2_with fail
  refine (H2.out.nums hP 1 (by decide) [18] (by decide) (by decide) (by omega) m3 HM3.out.symm).mono ?_
  rintro e w3 ⟨rfl, h3, t3⟩
  have H3 := hid h3; have T3 := hid (T2.out.trans t3); clear h3 t3
  go_wp2_with fail
  refine (H3.out.nums hP 8 (by decide) [27] (by decide) (by decide) (by omega) m4 HM4.out.symm).mono ?_
  rintro e w4 ⟨rfl, h4, t4⟩
  have H4 := hid h4; have T4 := hid (T3.out.trans t4); clear h4 t4
  go_wp2_with fail
  refine (H4.out.nums hP 4 (by decide) [5] (by decide) (by decide) (by omega) m5 HM5.out.symm).mono ?_
  rintro e w5 ⟨rfl, h5, t5⟩
  have H5 := hid h5; have T5 := hid (T4.out.trans t5); clear h5 t5
  go_wp2_with fail
  go_region
  all_goals
    go_wp2_with fail
  go_region_with (go_at_call 31; refine ((H5.out.drewN 2).nums hP 1 (by decide) [24, 25] (by decide) (by decide) (by omega) m6 HM6.out.symm).mono ?_; rintro e w6 ⟨rfl, h6, t6⟩; have H6 := hid h6; have T6 := hid ((T5.out.trans (Turns.of_below (bel_drewN (Below.refl _ _) 2))).trans t6); clear h6 t6)
  go_wp2_with fail
  refine (H6.out.nums hP 2 (by decide) [26] (by decide) (by decide) (by omega) m7 HM7.out.symm).mono ?_
  rintro e w7 ⟨rfl, h7, t7⟩
  have H7 := hid h7; have T7 := hid (T6.out.trans t7); clear h7 t7
  go_wp2_with fail
  go_region_with (go_at_call 31; refine ((H7.out.drewN 1).nums hP 1 (by decide) [28, 29] (by decide) (by decide) (by omega) m8 HM8.out.symm).mono ?_; rintro e w8 ⟨rfl, h8, t8⟩; have H8 := hid h8; have T8 := hid ((T7.out.trans (Turns.of_below (bel_drewN (Below.refl _ _) 1))).trans t8); clear h8 t8)
  go_wp2_with fail
  refine (H8.out.nums hP 2 (by decide) [30] (by decide) (by decide) (by omega) m9 HM9.out.symm).mono ?_
  rintro e w9 ⟨rfl, h9, t9⟩
  have H9 := hid h9; have T9 := hid (T8.out.trans t9); clear h9 t9
  go_wp2_with fail
  go_loopw [73, 6] (fun i _ wr => ∃ j : Nat, j ≤ 4 ∧ i = .int .i64 j ∧ WrP wr g B pk P na P.N.length nc ((([31, 32, 33, 34].take j).map P.I).foldl (numP 1) m9) ∧ (([31, 32, 33, 34].take j).map P.I).length ≤ 4 ∧ Turns (fun x => x = g ∨ x = pk ∨ B ≤ x) w wr) (fun i _ _ => 4 - (intOf i).toNat)
  case atStart => exact ⟨0, Nat.zero_le _, rfl, H9.out, by simp, T9.out⟩
  case round =>
    obtain ⟨j, hj, rfl, hm', hl4, ht⟩ := hrel
    by_cases hlt : j < 4
    · have d0 : decide ((j : Int) < 4) = true := decide_eq_true (by omega)
      have hlen := foldP_len 1 (([31, 32, 33, 34].take j).map P.I) m9
      have hnum : isNum (31 + j) = true := by rcases (by omega : j = 0 ∨ j = 1 ∨ j = 2 ∨ j = 3) with e | e | e | e <;> subst e <;> rfl
      have hstep : numP 1 ((([31, 32, 33, 34].take j).map P.I).foldl (numP 1) m9) (P.I (31 + j)) = (([31, 32, 33, 34].take (j + 1)).map P.I).foldl (numP 1) m9 := by rcases (by omega : j = 0 ∨ j = 1 ∨ j = 2 ∨ j = 3) with e | e | e | e <;> subst e <;> rfl
      have hl5 : (([31, 32, 33, 34].take (j + 1)).map P.I).length ≤ 4 := by simp; omega
      have HZ := hid (hm'.nums hP 1 (by decide) [31 + j] (by intro o ho; rw [List.mem_singleton] at ho; rw [ho]; exact hnum) (by simp) (by omega) _ hstep)
      have HT := hid ht; have HL5 := hid hl5
      clear hm' ht hlen hnum hstep hl4 hl5
      go_wp2_with fail
      refine HZ.out.mono ?_
      rintro e w10 ⟨rfl, h10, t10⟩
      have H10 := hid h10; have T10 := hid (HT.out.trans t10)
      clear h10 t10
      go_wp2_with fail
      go_roundw
      case rel => exact ⟨j + 1, by omega, by go_num, H10.out, HL5.out, T10.out⟩
      case measure => simp [intOf]; omega
    · obtain rfl : j = 4 := by omega
      have hlen := foldP_len 1 (([31, 32, 33, 34].take 4).map P.I) m9
      have HM := hid hm'; have HT := hid ht
      have hr9 : Row wr 1 na P.N.length nc (P.N.map strV) := ht.row HR.out (fun hn b hb q => by have := HRB.out hn b hb; omega)
      have HRR := hid hr9
      have hm10 : ((([31, 32, 33, 34].take 4).map P.I).foldl (numP 1) m9).b.length ≤ 2000 := by omega
      clear hm' ht hr9 hlen
      have hE : (([31, 32, 33, 34].map P.I).foldl (numP 1) m9) = ((([31, 32, 33, 34].take 4).map P.I).foldl (numP 1) m9) := rfl
      have HEE := hid hE
      clear hE
      go_wp2_with fail
      refine (namesP_any HM.out hN hn9 HRR.out (fun hn b hb => by have := HRB.out hn b hb; exact ⟨this.1, this.2.2⟩) hm10).mono ?_
      rintro e w11 ⟨rfl, h11, t11⟩
      have H11 := hid h11; have T11 := hid (HT.out.trans (t11.mono (fun _ q => q.elim .inl (fun e => .inr (.inr e)))))
      clear h11 t11
      go_wp2_with fail
      go_end0
      exact ⟨rfl, H11.out, T11.out⟩
end Go.Proofs.Ytanediaaidfcaaa
/- The coder: what goes through the fields behind the head. -/
namespace Go.Proofs.Ytanediaaidfcaaa
open Go.RowKit
set_option linter.unusedSimpArgs false
set_option linter.unusedVariables false

def restF (k : Int) : Option FuncId := if k = 1 then some 47 else if k = 2 then some 48 else if k = 3 then some 49 else if k = 4 then some 50 else if k = 5 then some 51 else none
def restV (g : Nat) (k : Int) : Value := match restF k with
  | some f => .func (.func f) #[.pointer (some ⟨g, 0, none⟩)] #[]
  | none => .nilFunc
set_option maxHeartbeats 400000 in
theorem rest_any (g : Nat) (k : Int) (w : World) : Calls Try.prog 33 #[.pointer (some ⟨g, 0, none⟩), .int .i64 k] w fun e w' => e = .returned (restV g k) ∧ w = w' := by
  have hmf : ∀ (fn : Fn) (first cap : Array Value) (w : World), (Instr.makeFunc fn first cap).run Try.prog w = .ok (.func fn first cap) w := fun _ _ _ _ => rfl
  rcases (by omega : k = 1 ∨ k = 2 ∨ k = 3 ∨ k = 4 ∨ k = 5 ∨ (k ≠ 1 ∧ k ≠ 2 ∧ k ≠ 3 ∧ k ≠ 4 ∧ k ≠ 5)) with rfl | rfl | rfl | rfl | rfl | ⟨n1, n2, n3, n4, n5⟩
  case inr.inr.inr.inr.inr =>
    have e : restV g k = .nilFunc := by unfold restV restF; simp [n1, n2, n3, n4, n5]
    rw [e]
    have p1 : (k == 1) = false := by simpa using n1
    have p2 : (k == 2) = false := by simpa using n2
    have p3 : (k == 3) = false := by simpa using n3
    have p4 : (k == 4) = false := by simpa using n4
    have p5 : (k == 5) = false := by simpa using n5
    clear n1 n2 n3 n4 n5 e
    go_enter Try.func33, Try.ntmps33
    go_wp2_with fail
    go_ret
    exact ⟨rfl, rfl⟩
  all_goals
    go_enter Try.func33, Try.ntmps33
    go_wp2_with fail
    go_ret
    exact ⟨rfl, rfl⟩
end Go.Proofs.Ytanediaaidfcaaa
/- The coder: a whole packet is put. (genWirS.py) -/
namespace Go.Proofs.Ytanediaaidfcaaa
open Go.RowKit
set_option linter.unusedSimpArgs false
set_option linter.unusedVariables false

def okCl (v : Int) : Bool := decide (1 ≤ v) && decide (v ≤ 8)
def headP (m : WM) (P : PkM) : WM := chkP (numP 8 (numP 4 ([P.I 0, P.I 1].foldl (numP 1) m) (P.I 2)) (P.I 3)) (okCl (P.I 1))
def bodyP (m : WM) (P : PkM) : WM := if P.I 0 = 1 then askP m P else if P.I 0 = 2 then vtoldP m P else if P.I 0 = 3 then raskP m P else if P.I 0 = 4 then rtoldP m P else if P.I 0 = 5 then numP 1 m (P.I 18) else ⟨m.b, true⟩
theorem askP_len (m : WM) (P : PkM) (hS : shortP P) : (askP m P).b.length ≤ m.b.length + 300 := by
  unfold askP
  have h1 := numP_len (k := 1) (by decide) m (P.I 4)
  rw [← chkP_len (numP 1 m (P.I 4)) (okOp (P.I 4))] at h1
  generalize chkP (numP 1 m (P.I 4)) (okOp (P.I 4)) = m1 at *
  have h2 := numP_len (k := 4) (by decide) m1 (P.I 5)
  generalize numP 4 m1 (P.I 5) = m2 at *
  have h3 := numP_len (k := 2) (by decide) m2 (P.I 6)
  generalize numP 2 m2 (P.I 6) = m3 at *
  have h4 := textP_len (k := 2) (most := 128) (by decide) m3 (P.S 7) (hS 7 (by decide))
  generalize textP 2 128 m3 (P.S 7) = m4 at *
  have h5 := foldP_len 8 [P.I 8, P.I 9] m4
  simp only [List.length_cons, List.length_nil] at h5
  omega
theorem WrP.chk {w : World} {g B pk : Nat} {P : PkM} {na : Option Addr} {nn nc : Nat} {m : WM} (h : WrP w g B pk P na nn nc m) (ok : Bool) : Calls Try.prog 32 #[.pointer (some ⟨g, 0, none⟩), .bool ok] w fun e w' => e = .returned (.tuple #[]) ∧ WrP w' g B pk P na nn nc (chkP m ok) ∧ Turns (fun x => x = g ∨ x = pk ∨ B ≤ x) w w' := by
  refine (CoP.chk h.1 ok).mono ?_
  rintro e w' ⟨rfl, h1, t1⟩
  exact ⟨rfl, h.of h1 (t1.mono (fun _ q => .inl q)) h.2.2.2.2, t1.mono (fun _ q => .inl q)⟩

/-- what the rest needs -/
structure PutOk (w : World) (g B pk : Nat) (P : PkM) (na : Option Addr) (nc : Nat) : Prop where
  hP : smallP P
  hS : shortP P
  hN : ∀ s ∈ P.N, s.length ≤ 200
  hn9 : P.N.length ≤ 100
  hr : Row w 1 na P.N.length nc (P.N.map strV)
  hrb : 0 < P.N.length → ∀ b, (∃ off, na = some ⟨b, off, none⟩) → b ≠ g ∧ b ≠ pk ∧ b < B
theorem PutOk.turns {w w' : World} {g B pk : Nat} {P : PkM} {na : Option Addr} {nc : Nat} (h : PutOk w g B pk P na nc) (t : Turns (fun x => x = g ∨ x = pk ∨ B ≤ x) w w') : PutOk w' g B pk P na nc :=
  ⟨h.hP, h.hS, h.hN, h.hn9, t.row h.hr (fun hn b hb q => by have := h.hrb hn b hb; omega), h.hrb⟩
def packetP (m : WM) (P : PkM) : WM := bodyP (headP m P) P
/-- the rest, whichever it is -/
theorem body_any {w : World} {g B pk : Nat} {P : PkM} {na : Option Addr} {nc : Nat} {m : WM} (h : WrP w g B pk P na P.N.length nc m) (o : PutOk w g B pk P na nc) (hm : m.b.length ≤ 1000) (f : FuncId) (hf : restF (P.I 0) = some f) :
    Calls Try.prog f #[.pointer (some ⟨g, 0, none⟩), .pointer (some ⟨pk, 0, none⟩)] w fun e w' => e = .returned (.tuple #[]) ∧ WrP w' g B pk P na P.N.length nc (bodyP m P) ∧ Turns (fun x => x = g ∨ x = pk ∨ B ≤ x) w w' := by
  unfold restF at hf
  unfold bodyP
  by_cases k1 : P.I 0 = 1
  · rw [if_pos k1] at hf ⊢
    cases hf
    refine (verbAskP_any h o.hP o.hS hm).mono ?_
    rintro e w' ⟨rfl, h1, t1⟩
    exact ⟨rfl, h.of h1 t1 (by have := askP_len m P o.hS; omega), t1.mono (fun _ q => q.elim .inl (fun e => .inr (.inr e)))⟩
  rw [if_neg k1] at hf ⊢
  by_cases k2 : P.I 0 = 2
  · rw [if_pos k2] at hf ⊢
    cases hf
    exact verbToldP_any h o.hP o.hS hm
  rw [if_neg k2] at hf ⊢
  by_cases k3 : P.I 0 = 3
  · rw [if_pos k3] at hf ⊢
    cases hf
    exact rpcAskP_any h o.hP o.hS hm
  rw [if_neg k3] at hf ⊢
  by_cases k4 : P.I 0 = 4
  · rw [if_pos k4] at hf ⊢
    cases hf
    exact rpcToldP_any h o.hP o.hS o.hN o.hn9 o.hr o.hrb hm
  rw [if_neg k4] at hf ⊢
  by_cases k5 : P.I 0 = 5
  · rw [if_pos k5] at hf ⊢
    cases hf
    refine (recallP_any h.1 h.2.1 h.2.2.1 o.hP (by omega)).mono ?_
    rintro e w' ⟨rfl, h1, t1⟩
    exact ⟨rfl, h.of h1 (t1.mono (fun _ q => .inl q)) (by have := numP_len (k := 1) (by decide) m (P.I 18); omega), t1.mono (fun _ q => .inl q)⟩
  · rw [if_neg k5] at hf; cases hf
end Go.Proofs.Ytanediaaidfcaaa
