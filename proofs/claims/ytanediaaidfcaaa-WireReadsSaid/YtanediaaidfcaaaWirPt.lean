/- The coder: a packet of no kind is put; any packet. -/
import Derived.Test.YtanediaaidfcaaaWirT
namespace Go.Proofs.Ytanediaaidfcaaa
open Go.RowKit
set_option linter.unusedSimpArgs false
set_option linter.unusedVariables false

set_option maxRecDepth 100000 in
set_option maxHeartbeats 3000000 in
theorem packetP_none {w : World} {g B pk : Nat} {P : PkM} {na : Option Addr} {nc : Nat} {m : WM} (h : WrP w g B pk P na P.N.length nc m) (o : PutOk w g B pk P na nc) (hm : m.b.length ≤ 900) (hne : restF (P.I 0) = none) :
    Calls Try.prog 18 #[.pointer (some ⟨g, 0, none⟩), .pointer (some ⟨pk, 0, none⟩)] w fun e w' => e = .returned (.tuple #[]) ∧ WrP w' g B pk P na P.N.length nc (packetP m P) ∧ Turns (fun x => x = g ∨ x = pk ∨ B ≤ x) w w' := by
  unfold packetP headP okCl
  have hP := o.hP
  obtain ⟨m1, hm1⟩ : ∃ m1, m1 = [P.I 0, P.I 1].foldl (numP 1) m := ⟨_, rfl⟩
  have l1 : m1.b.length ≤ 916 := by rw [hm1]; have := foldP_len 1 [P.I 0, P.I 1] m; simp at this; simp; omega
  obtain ⟨m2, hm2⟩ : ∃ m2, m2 = numP 4 m1 (P.I 2) := ⟨_, rfl⟩
  have l2 : m2.b.length ≤ 924 := by rw [hm2]; have := numP_len (k := 4) (by decide) m1 (P.I 2); omega
  obtain ⟨m3, hm3⟩ : ∃ m3, m3 = numP 8 m2 (P.I 3) := ⟨_, rfl⟩
  have l3 : m3.b.length ≤ 932 := by rw [hm3]; have := numP_len (k := 8) (by decide) m2 (P.I 3); omega
  rw [← hm1, ← hm2, ← hm3]
  obtain ⟨v, hv⟩ : ∃ v, v = P.I 1 := ⟨_, rfl⟩
  obtain ⟨k, hk⟩ : ∃ k, k = P.I 0 := ⟨_, rfl⟩
  rw [← hv]
  rw [← hk] at hne
  have hrb : ∀ t, bodyP t P = ⟨t.b, true⟩ := by
    intro t
    unfold bodyP
    unfold restF at hne
    rw [← hk]
    repeat' split at hne
    all_goals first | cases hne | skip
    rw [if_neg (by assumption), if_neg (by assumption), if_neg (by assumption), if_neg (by assumption), if_neg (by assumption)]
  rw [hrb]
  have hrv : restV g k = .nilFunc := by unfold restV; rw [hne]
  obtain ⟨b1, hb1⟩ : ∃ b1, decide (1 ≤ v) = b1 := ⟨_, rfl⟩
  obtain ⟨b2, hb2⟩ : ∃ b2, decide (v ≤ 8) = b2 := ⟨_, rfl⟩
  rw [hb1, hb2]
  have HM1 := hid hm1; have HM2 := hid hm2; have HM3 := hid hm3; have HV := hid hv; have HK := hid hk; have HRV := hid hrv
  have H0 := hid h; have O0 := hid o
  have HZ := hid ((h.drewN 1).nums hP 1 (by decide) [0, 1] (by decide) (by decide) (by omega) m1 hm1.symm)
  have hq : ∀ W : World, (binOp BinOp.eql 53 Value.nilFunc Value.nilFunc).run Try.prog W = .ok (.bool true) W := fun W => rfl
  clear h o hm1 hm2 hm3 hv hk hne hrb hrv
  cases b1 <;> cases b2
  all_goals
    go_enter Try.func18, Try.ntmps18
    go_wp2_with fail
    go_region_with (go_at_call 31; refine HZ.out.mono ?_; rintro e w1 ⟨rfl, h1, t1⟩; have H1 := hid h1; have T1 := hid ((Turns.of_below (X := fun x => x = g ∨ x = pk ∨ B ≤ x) (bel_drewN (Below.refl w.heap.size w) 1)).trans t1); clear h1 t1)
    all_goals
      go_wp2_with fail
      refine (H1.out.nums hP 4 (by decide) [2] (by decide) (by decide) (by omega) m2 HM2.out.symm).mono ?_
      rintro e w2 ⟨rfl, h2, t2⟩
      have H2 := hid h2; have T2 := hid (T1.out.trans t2); clear h2 t2
      go_wp2_with fail
      refine (H2.out.nums hP 8 (by decide) [3] (by decide) (by decide) (by omega) m3 HM3.out.symm).mono ?_
      rintro e w3 ⟨rfl, h3, t3⟩
      have c1 := pk_cell h3.2.2.1 (o := 1) rfl
      rw [← HV.out] at c1
      have H3 := hid h3; have T3 := hid (T2.out.trans t3); clear h3 t3
      go_wp2_with fail
      refine (H3.out.chk _).mono ?_
      rintro e w4 ⟨rfl, h4, t4⟩
      have c0 := pk_cell h4.2.2.1 (o := 0) rfl
      rw [← HK.out] at c0
      have H4 := hid h4; have T4 := hid (T3.out.trans t4); clear h4 t4 c1
      go_wp2_with fail
      refine (rest_any g _ w4).mono ?_
      rintro e w5 ⟨rfl, rfl⟩
      rw [HRV.out]
      obtain ⟨ca, cc, hcb, hco⟩ := H4.out.1
      have x3 := hcb.cell (i := 3) (by simp)
      have f3 := hcb.frozen 3
      simp only [List.getElem_cons_zero, List.getElem_cons_succ] at x3
      have HCB := hid hcb; have HCO := hid hco
      clear hcb hco
      go_wp2_with fail
      refine bodyPost_ret (results_none rfl _ _ _) rfl ?_
      have ts : Turns (fun x => x = g) w4 (w4.setCell ⟨g, 3, none⟩ (.bool true)) := turns_setG g 3 _
      refine ⟨rfl, H4.out.of ⟨ca, cc, Blk.set HCB.out 3 _, own_setW HCO.out HCB.out (by decide) 3 _⟩ (ts.mono (fun _ q => .inl q)) (H4.out.2.2.2.2), T4.out.trans (ts.mono (fun _ q => .inl q))⟩
theorem packetP_any {w : World} {g B pk : Nat} {P : PkM} {na : Option Addr} {nc : Nat} {m : WM} (h : WrP w g B pk P na P.N.length nc m) (o : PutOk w g B pk P na nc) (hm : m.b.length ≤ 900) :
    Calls Try.prog 18 #[.pointer (some ⟨g, 0, none⟩), .pointer (some ⟨pk, 0, none⟩)] w fun e w' => e = .returned (.tuple #[]) ∧ WrP w' g B pk P na P.N.length nc (packetP m P) ∧ Turns (fun x => x = g ∨ x = pk ∨ B ≤ x) w w' := by
  by_cases hne : restF (P.I 0) = none
  · exact packetP_none h o hm hne
  · exact packetP_some h o hm hne
end Go.Proofs.Ytanediaaidfcaaa
