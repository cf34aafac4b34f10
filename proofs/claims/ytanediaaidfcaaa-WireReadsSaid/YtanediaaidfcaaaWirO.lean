/- The coder: a verb's answer, a question; put and read. -/
import Derived.Test.YtanediaaidfcaaaWirMb
namespace Go.Proofs.Ytanediaaidfcaaa
open Go.RowKit
set_option linter.unusedSimpArgs false
set_option linter.unusedVariables false

def vtoldP (m : WM) (P : PkM) : WM := numP 8 (textP 2 128 (numP 1 (chkP (numP 1 m (P.I 4)) (okOp (P.I 4))) (P.I 19)) (P.S 7)) (P.I 8)
def rVtold (xs : List UInt8) (s : RM) : RM := rNum xs 8 (rText xs 2 128 (rNum xs 1 (rVerb xs s) 19) 7) 8
def raskP (m : WM) (P : PkM) : WM := numP 4 (numP 1 (textP 1 100 (textP 1 100 ([P.I 4, P.I 18].foldl (numP 1) m) (P.S 11)) (P.S 12)) (P.I 13)) (P.I 16)
def rRask (xs : List UInt8) (s : RM) : RM := rNum xs 4 (rNum xs 1 (rText xs 1 100 (rText xs 1 100 ([4, 18].foldl (rNum xs 1) s) 11) 12) 13) 16
theorem WrP.drewN {w : World} {g B pk : Nat} {P : PkM} {na : Option Addr} {nn nc : Nat} {m : WM} (h : WrP w g B pk P na nn nc m) (n : Nat) : WrP (w.drewN n) g B pk P na nn nc m := by
  have b : Below w.heap.size w (w.drewN n) := bel_drewN (Below.refl _ _) n
  obtain ⟨a, c, q1, q2⟩ := h.1
  exact h.of (⟨a, c, q1.mono b, q2.mono b⟩ : CoP (w.drewN n) g B m) (Turns.of_below b) h.2.2.2.2

set_option maxHeartbeats 600000 in
theorem verbToldP_any {w : World} {g B pk : Nat} {P : PkM} {na : Option Addr} {nn nc : Nat} {m : WM} (h : WrP w g B pk P na nn nc m) (hP : smallP P) (hS : shortP P) (hm : m.b.length ≤ 1000) :
    Calls Try.prog 48 #[.pointer (some ⟨g, 0, none⟩), .pointer (some ⟨pk, 0, none⟩)] w fun e w' => e = .returned (.tuple #[]) ∧ WrP w' g B pk P na nn nc (vtoldP m P) ∧ Turns (fun x => x = g ∨ x = pk ∨ B ≤ x) w w' := by
  unfold vtoldP okOp
  have l1 : (chkP (numP 1 m (P.I 4)) (decide (1 ≤ P.I 4) && decide (P.I 4 ≤ 4))).b.length ≤ 1008 := by
    have := numP_len (k := 1) (by decide) m (P.I 4); rw [chkP_len]; omega
  have HV := hid (verbP_any h.1 h.2.1 h.2.2.1 hP (by omega))
  have H := hid h
  generalize chkP (numP 1 m (P.I 4)) (decide (1 ≤ P.I 4) && decide (P.I 4 ≤ 4)) = m1 at *
  obtain ⟨m2, hm2⟩ : ∃ m2, m2 = numP 1 m1 (P.I 19) := ⟨_, rfl⟩
  have l2 : m2.b.length ≤ 1016 := by have := numP_len (k := 1) (by decide) m1 (P.I 19); rw [hm2]; omega
  obtain ⟨m3, hm3⟩ : ∃ m3, m3 = textP 2 128 m2 (P.S 7) := ⟨_, rfl⟩
  have l3 : m3.b.length ≤ 1232 := by have := textP_len (k := 2) (most := 128) (by decide) m2 (P.S 7) (hS 7 (by decide)); rw [hm3]; omega
  obtain ⟨m4, hm4⟩ : ∃ m4, m4 = numP 8 m3 (P.I 8) := ⟨_, rfl⟩
  have l4 : m4.b.length ≤ 1240 := by have := numP_len (k := 8) (by decide) m3 (P.I 8); rw [hm4]; omega
  rw [← hm2, ← hm3, ← hm4]
  have HM2 := hid hm2; have HM3 := hid hm3; have HM4 := hid hm4
  clear h hm2 hm3 hm4
  go_enter Try.func48, Try.ntmps48
  go_wp2_with fail
  refine HV.out.mono ?_
  rintro e w1 ⟨rfl, h1, t1⟩
  have T1 := hid (t1.mono (Y := fun x => x = g ∨ x = pk ∨ B ≤ x) (fun _ q => .inl q)); have H1 := hid (H.out.of h1 (t1.mono (fun _ q => .inl q)) (by omega))
  clear h1 t1
  go_wp2_with fail
  refine (errnoP_any H1.out hP (by omega)).mono ?_
  rintro e w2 ⟨rfl, h2, t2⟩
  have h2 : WrP w2 g B pk P na nn nc m2 := by rw [HM2.out]; exact h2
  have T2 := hid (T1.out.trans t2); have H2 := hid h2
  clear h2 t2
  go_wp2_with fail
  refine (H2.out.text hS 2 128 7 (by decide) (by decide) rfl).mono ?_
  rintro e w3 ⟨rfl, h3, t3⟩
  have h3 : CoP w3 g B m3 := by rw [HM3.out]; exact h3
  have T3 := hid (T2.out.trans (t3.mono (fun _ q => q.elim .inl (fun e => .inr (.inr e))))); have H3 := hid (H2.out.of h3 t3 (by omega))
  clear h3 t3
  go_wp2_with fail
  refine (numsP_any H3.out.1 H3.out.2.1 H3.out.2.2.1 hP 8 (by decide) [8] (by decide) (by decide) (by omega)).mono ?_
  rintro e w4 ⟨rfl, h4, t4⟩
  have h4 : CoP w4 g B m4 := by rw [HM4.out]; exact h4
  have T4 := hid (T3.out.trans (t4.mono (fun _ q => .inl q))); have H4 := hid (H3.out.of h4 (t4.mono (fun _ q => .inl q)) (by omega))
  clear h4 t4
  go_wp2_with fail
  go_end0
  exact ⟨rfl, H4.out, T4.out⟩

set_option maxHeartbeats 600000 in
theorem verbToldG_any {W0 w : World} {g pk : Nat} {a : Option Addr} {c : Nat} {xs : List UInt8} {na : Option Addr} {nn nc : Nat} {s : RM} (h : RdP W0 w g pk a c xs na nn nc s) (r0 : RowB W0 a c xs) (hg : W0.heap.size ≤ g) (hpk : W0.heap.size ≤ pk) (hl : xs.length ≤ 1000000) (hs : (s.P.S 7).length ≤ 10000) :
    Calls Try.prog 48 #[.pointer (some ⟨g, 0, none⟩), .pointer (some ⟨pk, 0, none⟩)] w fun e w' => e = .returned (.tuple #[]) ∧ RdP W0 w' g pk a c xs na nn nc (rVtold xs s) ∧ Turns (fun x => x = g ∨ x = pk) w w' := by
  unfold rVtold
  have hV := verbG_any h r0 hg hpk hl
  have hs1 : ((rVerb xs s).P.S 7).length ≤ 10000 := by
    have : (rVerb xs s).P.S = s.P.S := rNum_S xs 1 s 4
    rw [this]; exact hs
  have HV := hid (show Calls Try.prog 58 #[.pointer (some ⟨g, 0, none⟩), .pointer (some ⟨pk, 0, none⟩)] w fun e w' => e = .returned (.tuple #[]) ∧ RdP W0 w' g pk a c xs na nn nc (rVerb xs s) ∧ Turns (fun x => x = g ∨ x = pk) w w' from hV)
  have R0 := hid r0
  clear hV h r0
  generalize rVerb xs s = s1 at *
  obtain ⟨s2, hs2⟩ : ∃ s2, s2 = rNum xs 1 s1 19 := ⟨_, rfl⟩
  obtain ⟨s3, hs3⟩ : ∃ s3, s3 = rText xs 2 128 s2 7 := ⟨_, rfl⟩
  obtain ⟨s4, hs4⟩ : ∃ s4, s4 = rNum xs 8 s3 8 := ⟨_, rfl⟩
  have hsz : (s2.P.S 7).length ≤ 10000 := by rw [hs2, rNum_S]; exact hs1
  rw [← hs2, ← hs3, ← hs4]
  have HS2 := hid hs2; have HS3 := hid hs3; have HS4 := hid hs4
  clear hs2 hs3 hs4 hs1
  go_enter Try.func48, Try.ntmps48
  go_wp2_with fail
  refine HV.out.mono ?_
  rintro e w1 ⟨rfl, h1, t1⟩
  have H1 := hid h1; have T1 := hid t1
  clear h1 t1
  go_wp2_with fail
  refine (errnoG_any H1.out R0.out hg hpk hl).mono ?_
  rintro e w2 ⟨rfl, h2, t2⟩
  have H2 := hid (show RdP W0 w2 g pk a c xs na nn nc s2 by rw [HS2.out]; exact h2); have T2 := hid (T1.out.trans t2)
  clear h2 t2
  go_wp2_with fail
  refine (H2.out.text R0.out hg hpk hl 2 128 7 (by decide) (by decide) rfl hsz).mono ?_
  rintro e w3 ⟨rfl, h3, t3⟩
  have H3 := hid (show RdP W0 w3 g pk a c xs na nn nc s3 by rw [HS3.out]; exact h3); have T3 := hid (T2.out.trans t3)
  clear h3 t3
  go_wp2_with fail
  refine (numsG_any H3.out R0.out hg hpk hl 8 (by decide) [8] (by decide) (by decide)).mono ?_
  rintro e w4 ⟨rfl, h4, t4⟩
  have H4 := hid (show RdP W0 w4 g pk a c xs na nn nc s4 by rw [HS4.out]; exact h4); have T4 := hid (T3.out.trans t4)
  clear h4 t4
  go_wp2_with fail
  go_end0
  exact ⟨rfl, H4.out, T4.out⟩

set_option maxHeartbeats 600000 in
theorem rpcAskP_any {w : World} {g B pk : Nat} {P : PkM} {na : Option Addr} {nn nc : Nat} {m : WM} (h : WrP w g B pk P na nn nc m) (hP : smallP P) (hS : shortP P) (hm : m.b.length ≤ 1000) :
    Calls Try.prog 49 #[.pointer (some ⟨g, 0, none⟩), .pointer (some ⟨pk, 0, none⟩)] w fun e w' => e = .returned (.tuple #[]) ∧ WrP w' g B pk P na nn nc (raskP m P) ∧ Turns (fun x => x = g ∨ x = pk ∨ B ≤ x) w w' := by
  unfold raskP
  obtain ⟨m1, hm1⟩ : ∃ m1, m1 = [P.I 4, P.I 18].foldl (numP 1) m := ⟨_, rfl⟩
  have l1 : m1.b.length ≤ 1016 := by have := foldP_len 1 [P.I 4, P.I 18] m; rw [hm1]; simp at this; simp; omega
  obtain ⟨m2, hm2⟩ : ∃ m2, m2 = textP 1 100 m1 (P.S 11) := ⟨_, rfl⟩
  have l2 : m2.b.length ≤ 1224 := by have := textP_len (k := 1) (most := 100) (by decide) m1 (P.S 11) (hS 11 (by decide)); rw [hm2]; omega
  obtain ⟨m3, hm3⟩ : ∃ m3, m3 = textP 1 100 m2 (P.S 12) := ⟨_, rfl⟩
  have l3 : m3.b.length ≤ 1432 := by have := textP_len (k := 1) (most := 100) (by decide) m2 (P.S 12) (hS 12 (by decide)); rw [hm3]; omega
  obtain ⟨m4, hm4⟩ : ∃ m4, m4 = numP 1 m3 (P.I 13) := ⟨_, rfl⟩
  have l4 : m4.b.length ≤ 1440 := by have := numP_len (k := 1) (by decide) m3 (P.I 13); rw [hm4]; omega
  obtain ⟨m5, hm5⟩ : ∃ m5, m5 = numP 4 m4 (P.I 16) := ⟨_, rfl⟩
  have l5 : m5.b.length ≤ 1448 := by have := numP_len (k := 4) (by decide) m4 (P.I 16); rw [hm5]; omega
  rw [← hm1, ← hm2, ← hm3, ← hm4, ← hm5]
  have HM1 := hid hm1; have HM2 := hid hm2; have HM3 := hid hm3; have HM4 := hid hm4; have HM5 := hid hm5
  have hz := numsP_any (h.drewN 1).1 (h.drewN 1).2.1 (h.drewN 1).2.2.1 hP 1 (by decide) [4, 18] (by decide) (by decide) (by omega)
  have HZ := hid (hz.mono fun e w1 z => (⟨z.1, (h.drewN 1).of (show CoP w1 g B m1 by rw [hm1]; exact z.2.1) (z.2.2.mono (fun _ q => .inl q)) (by omega), (Turns.of_below (X := fun x => x = g ∨ x = pk ∨ B ≤ x) (bel_drewN (Below.refl w.heap.size w) 1)).trans (z.2.2.mono (fun _ q => .inl q))⟩ : e = .returned (.tuple #[]) ∧ WrP w1 g B pk P na nn nc m1 ∧ Turns (fun x => x = g ∨ x = pk ∨ B ≤ x) w w1))
  have H := hid h
  clear h hz hm1 hm2 hm3 hm4 hm5
  go_enter Try.func49, Try.ntmps49
  go_wp2_with fail
  go_region_with (go_at_call 31; refine HZ.out.mono ?_; rintro e w1 ⟨rfl, h1, t1⟩; have H1 := hid h1; have T1 := hid t1; clear h1 t1)
  all_goals
    go_wp2_with fail
    refine (H1.out.text hS 1 100 11 (by decide) (by decide) rfl).mono ?_
    rintro e w2 ⟨rfl, h2, t2⟩
    have h2 : CoP w2 g B m2 := by rw [HM2.out]; exact h2
    have T2 := hid (T1.out.trans (t2.mono (fun _ q => q.elim .inl (fun e => .inr (.inr e))))); have H2 := hid (H1.out.of h2 t2 (by omega))
    clear h2 t2
    go_wp2_with fail
    refine (H2.out.text hS 1 100 12 (by decide) (by decide) rfl).mono ?_
    rintro e w3 ⟨rfl, h3, t3⟩
    have h3 : CoP w3 g B m3 := by rw [HM3.out]; exact h3
    have T3 := hid (T2.out.trans (t3.mono (fun _ q => q.elim .inl (fun e => .inr (.inr e))))); have H3 := hid (H2.out.of h3 t3 (by omega))
    clear h3 t3
    go_wp2_with fail
    refine (numsP_any H3.out.1 H3.out.2.1 H3.out.2.2.1 hP 1 (by decide) [13] (by decide) (by decide) (by omega)).mono ?_
    rintro e w4 ⟨rfl, h4, t4⟩
    have h4 : CoP w4 g B m4 := by rw [HM4.out]; exact h4
    have T4 := hid (T3.out.trans (t4.mono (fun _ q => .inl q))); have H4 := hid (H3.out.of h4 (t4.mono (fun _ q => .inl q)) (by omega))
    clear h4 t4
    go_wp2_with fail
    refine (numsP_any H4.out.1 H4.out.2.1 H4.out.2.2.1 hP 4 (by decide) [16] (by decide) (by decide) (by omega)).mono ?_
    rintro e w5 ⟨rfl, h5, t5⟩
    have h5 : CoP w5 g B m5 := by rw [HM5.out]; exact h5
    have T5 := hid (T4.out.trans (t5.mono (fun _ q => .inl q))); have H5 := hid (H4.out.of h5 (t5.mono (fun _ q => .inl q)) (by omega))
    clear h5 t5
    go_wp2_with fail
    go_end0
    exact ⟨rfl, H5.out, T5.out⟩

set_option maxHeartbeats 600000 in
theorem rpcAskG_any {W0 w : World} {g pk : Nat} {a : Option Addr} {c : Nat} {xs : List UInt8} {na : Option Addr} {nn nc : Nat} {s : RM} (h : RdP W0 w g pk a c xs na nn nc s) (r0 : RowB W0 a c xs) (hg : W0.heap.size ≤ g) (hpk : W0.heap.size ≤ pk) (hl : xs.length ≤ 1000000) (hs : (s.P.S 11).length ≤ 10000 ∧ (s.P.S 12).length ≤ 10000) :
    Calls Try.prog 49 #[.pointer (some ⟨g, 0, none⟩), .pointer (some ⟨pk, 0, none⟩)] w fun e w' => e = .returned (.tuple #[]) ∧ RdP W0 w' g pk a c xs na nn nc (rRask xs s) ∧ Turns (fun x => x = g ∨ x = pk) w w' := by
  unfold rRask
  have R0 := hid r0; have H := hid h
  obtain ⟨s1, hs1⟩ : ∃ s1, s1 = [4, 18].foldl (rNum xs 1) s := ⟨_, rfl⟩
  have e1 : s1.P.S = s.P.S := by rw [hs1]; show (rNum xs 1 (rNum xs 1 s 4) 18).P.S = _; rw [rNum_S, rNum_S]
  obtain ⟨s2, hs2⟩ : ∃ s2, s2 = rText xs 1 100 s1 11 := ⟨_, rfl⟩
  have e2 : s2.P.S 12 = s.P.S 12 := by rw [hs2, ← e1]; rfl
  obtain ⟨s3, hs3⟩ : ∃ s3, s3 = rText xs 1 100 s2 12 := ⟨_, rfl⟩
  obtain ⟨s4, hs4⟩ : ∃ s4, s4 = rNum xs 1 s3 13 := ⟨_, rfl⟩
  obtain ⟨s5, hs5⟩ : ∃ s5, s5 = rNum xs 4 s4 16 := ⟨_, rfl⟩
  have z1 : (s1.P.S 11).length ≤ 10000 := by rw [e1]; exact hs.1
  have z2 : (s2.P.S 12).length ≤ 10000 := by rw [e2]; exact hs.2
  rw [← hs1, ← hs2, ← hs3, ← hs4, ← hs5]
  have HS1 := hid hs1; have HS2 := hid hs2; have HS3 := hid hs3; have HS4 := hid hs4; have HS5 := hid hs5
  clear h r0 hs1 hs2 hs3 hs4 hs5 e1 e2 hs
  go_enter Try.func49, Try.ntmps49
  go_wp2_with fail
  go_region_with (go_at_call 31; refine (numsG_any (H.out.drewN 1) R0.out hg hpk hl 1 (by decide) [4, 18] (by decide) (by decide)).mono ?_; rintro e w1 ⟨rfl, h1, t1⟩; have H1 := hid (show RdP W0 w1 g pk a c xs na nn nc s1 by rw [HS1.out]; exact h1); have T1 := hid ((Turns.of_below (X := fun x => x = g ∨ x = pk) (bel_drewN (Below.refl w.heap.size w) 1)).trans t1); clear h1 t1)
  all_goals
    go_wp2_with fail
    refine (H1.out.text R0.out hg hpk hl 1 100 11 (by decide) (by decide) rfl z1).mono ?_
    rintro e w2 ⟨rfl, h2, t2⟩
    have H2 := hid (show RdP W0 w2 g pk a c xs na nn nc s2 by rw [HS2.out]; exact h2); have T2 := hid (T1.out.trans t2)
    clear h2 t2
    go_wp2_with fail
    refine (H2.out.text R0.out hg hpk hl 1 100 12 (by decide) (by decide) rfl z2).mono ?_
    rintro e w3 ⟨rfl, h3, t3⟩
    have H3 := hid (show RdP W0 w3 g pk a c xs na nn nc s3 by rw [HS3.out]; exact h3); have T3 := hid (T2.out.trans t3)
    clear h3 t3
    go_wp2_with fail
    refine (numsG_any H3.out R0.out hg hpk hl 1 (by decide) [13] (by decide) (by decide)).mono ?_
    rintro e w4 ⟨rfl, h4, t4⟩
    have H4 := hid (show RdP W0 w4 g pk a c xs na nn nc s4 by rw [HS4.out]; exact h4); have T4 := hid (T3.out.trans t4)
    clear h4 t4
    go_wp2_with fail
    refine (numsG_any H4.out R0.out hg hpk hl 4 (by decide) [16] (by decide) (by decide)).mono ?_
    rintro e w5 ⟨rfl, h5, t5⟩
    have H5 := hid (show RdP W0 w5 g pk a c xs na nn nc s5 by rw [HS5.out]; exact h5); have T5 := hid (T4.out.trans t5)
    clear h5 t5
    go_wp2_with fail
    go_end0
    exact ⟨rfl, H5.out, T5.out⟩
end Go.Proofs.Ytanediaaidfcaaa
