/- Merged: WirWa WirWb WirWc. -/
import Derived.Test.YtanediaaidfcaaaWirMe
/- The coder: a whole packet is read, by kinds. (genWirW.py) -/
namespace Go.Proofs.Ytanediaaidfcaaa
open Go.RowKit
set_option linter.unusedSimpArgs false
set_option linter.unusedVariables false

set_option maxRecDepth 100000 in
set_option maxHeartbeats 3000000 in
theorem packetG_1 {W0 w : World} {g pk : Nat} {a : Option Addr} {c : Nat} {xs : List UInt8} {s : RM} (h : RdP W0 w g pk a c xs none 0 0 s) (hE : emptyR s) (r0 : RowB W0 a c xs) (hg : W0.heap.size ≤ g) (hpk : W0.heap.size ≤ pk) (hl : xs.length ≤ 1000000) (hk : (rHead xs s).P.I 0 = 1) :
    Calls Try.prog 18 #[.pointer (some ⟨g, 0, none⟩), .pointer (some ⟨pk, 0, none⟩)] w fun e w' => e = .returned (.tuple #[]) ∧ NmP W0 w' g pk a c xs (rPacket xs s) ∧ Turns (fun x => x = g ∨ x = pk) w w' := by
  unfold rPacket rHead okCl
  obtain ⟨s1, hs1⟩ : ∃ s1, s1 = [0, 1].foldl (rNum xs 1) s := ⟨_, rfl⟩
  obtain ⟨s2, hs2⟩ : ∃ s2, s2 = rNum xs 4 s1 2 := ⟨_, rfl⟩
  obtain ⟨s3, hs3⟩ : ∃ s3, s3 = rNum xs 8 s2 3 := ⟨_, rfl⟩
  rw [← hs1, ← hs2, ← hs3]
  have hk3 : s3.P.I 0 = (rHead xs s).P.I 0 := by rw [hs3, hs2, hs1]; rfl
  have hE3 : emptyR s3 := by
    rw [hs3, hs2, hs1]; unfold emptyR; rw [rNum_N, rNum_N, foldR_N, rNum_S, rNum_S, foldR_S]; exact hE
  obtain ⟨v, hv⟩ : ∃ v, v = s3.P.I 1 := ⟨_, rfl⟩
  rw [← hv]
  obtain ⟨b1, hb1⟩ : ∃ b1, decide (1 ≤ v) = b1 := ⟨_, rfl⟩
  obtain ⟨b2, hb2⟩ : ∃ b2, decide (v ≤ 8) = b2 := ⟨_, rfl⟩
  rw [hb1, hb2]
  have hkk : ∀ ok, (chkR s3 ok).P.I 0 = s3.P.I 0 := fun _ => rfl
  rw [hkk]
  rw [← hk3] at hk
  rw [hk]
  have hrv : restV g 1 = .func (.func 47) #[.pointer (some ⟨g, 0, none⟩)] #[] := rfl
  have hq : ∀ W : World, (binOp BinOp.eql 53 (Value.func (Fn.func 47) #[Value.pointer (some { block := g, off := 0 })] #[]) Value.nilFunc).run Try.prog W = .ok (.bool false) W := fun W => rfl
  have HS1 := hid hs1; have HS2 := hid hs2; have HS3 := hid hs3; have HV := hid hv; have HK := hid hk; have HRV := hid hrv
  have H0 := hid h; have HE3 := hid hE3; have R0 := hid r0
  clear h hE r0 hE3 hs1 hs2 hs3 hv hk hrv hk3 hkk
  cases b1 <;> cases b2
  all_goals
    go_enter Try.func18, Try.ntmps18
    go_wp2_with fail
    go_region_with (go_at_call 31; refine ((H0.out.drewN 1).nums R0.out hg hpk hl 1 (by decide) [0, 1] (by decide) (by decide) s1 HS1.out.symm).mono ?_; rintro e w1 ⟨rfl, h1, t1⟩; have H1 := hid h1; have T1 := hid ((Turns.of_below (X := fun x => x = g ∨ x = pk) (bel_drewN (Below.refl w.heap.size w) 1)).trans t1); clear h1 t1)
    all_goals
      go_wp2_with fail
      refine (H1.out.nums R0.out hg hpk hl 4 (by decide) [2] (by decide) (by decide) s2 HS2.out.symm).mono ?_
      rintro e w2 ⟨rfl, h2, t2⟩
      have H2 := hid h2; have T2 := hid (T1.out.trans t2); clear h2 t2
      go_wp2_with fail
      refine (H2.out.nums R0.out hg hpk hl 8 (by decide) [3] (by decide) (by decide) s3 HS3.out.symm).mono ?_
      rintro e w3 ⟨rfl, h3, t3⟩
      have c1 := pk_cell h3.2.2.1 (o := 1) rfl
      rw [← HV.out] at c1
      have H3 := hid h3; have T3 := hid (T2.out.trans t3); clear h3 t3
      go_wp2_with fail
      refine (H3.out.chk' hg _).mono ?_
      rintro e w4 ⟨rfl, h4, t4⟩
      have c0 := pk_cell h4.2.2.1 (o := 0) rfl
      rw [show ∀ ok, (chkR s3 ok).P.I 0 = s3.P.I 0 from fun _ => rfl, HK.out] at c0
      have H4 := hid h4; have T4 := hid (T3.out.trans t4); clear h4 t4 c1
      go_wp2_with fail
      refine (rest_any g _ w4).mono ?_
      rintro e w5 ⟨rfl, rfl⟩
      rw [HRV.out]
      go_wp2_with (go_at_call 47; refine (bodyG_any H4.out HE3.out R0.out hg hpk hl 1 _ rfl).mono ?_; rintro e w6 ⟨rfl, h6, t6⟩; have H6 := hid h6; have T6 := hid (T4.out.trans t6); clear h6 t6)
      go_end0
      exact ⟨rfl, H6.out, T6.out⟩

set_option maxRecDepth 100000 in
set_option maxHeartbeats 3000000 in
theorem packetG_2 {W0 w : World} {g pk : Nat} {a : Option Addr} {c : Nat} {xs : List UInt8} {s : RM} (h : RdP W0 w g pk a c xs none 0 0 s) (hE : emptyR s) (r0 : RowB W0 a c xs) (hg : W0.heap.size ≤ g) (hpk : W0.heap.size ≤ pk) (hl : xs.length ≤ 1000000) (hk : (rHead xs s).P.I 0 = 2) :
    Calls Try.prog 18 #[.pointer (some ⟨g, 0, none⟩), .pointer (some ⟨pk, 0, none⟩)] w fun e w' => e = .returned (.tuple #[]) ∧ NmP W0 w' g pk a c xs (rPacket xs s) ∧ Turns (fun x => x = g ∨ x = pk) w w' := by
  unfold rPacket rHead okCl
  obtain ⟨s1, hs1⟩ : ∃ s1, s1 = [0, 1].foldl (rNum xs 1) s := ⟨_, rfl⟩
  obtain ⟨s2, hs2⟩ : ∃ s2, s2 = rNum xs 4 s1 2 := ⟨_, rfl⟩
  obtain ⟨s3, hs3⟩ : ∃ s3, s3 = rNum xs 8 s2 3 := ⟨_, rfl⟩
  rw [← hs1, ← hs2, ← hs3]
  have hk3 : s3.P.I 0 = (rHead xs s).P.I 0 := by rw [hs3, hs2, hs1]; rfl
  have hE3 : emptyR s3 := by
    rw [hs3, hs2, hs1]; unfold emptyR; rw [rNum_N, rNum_N, foldR_N, rNum_S, rNum_S, foldR_S]; exact hE
  obtain ⟨v, hv⟩ : ∃ v, v = s3.P.I 1 := ⟨_, rfl⟩
  rw [← hv]
  obtain ⟨b1, hb1⟩ : ∃ b1, decide (1 ≤ v) = b1 := ⟨_, rfl⟩
  obtain ⟨b2, hb2⟩ : ∃ b2, decide (v ≤ 8) = b2 := ⟨_, rfl⟩
  rw [hb1, hb2]
  have hkk : ∀ ok, (chkR s3 ok).P.I 0 = s3.P.I 0 := fun _ => rfl
  rw [hkk]
  rw [← hk3] at hk
  rw [hk]
  have hrv : restV g 2 = .func (.func 48) #[.pointer (some ⟨g, 0, none⟩)] #[] := rfl
  have hq : ∀ W : World, (binOp BinOp.eql 53 (Value.func (Fn.func 48) #[Value.pointer (some { block := g, off := 0 })] #[]) Value.nilFunc).run Try.prog W = .ok (.bool false) W := fun W => rfl
  have HS1 := hid hs1; have HS2 := hid hs2; have HS3 := hid hs3; have HV := hid hv; have HK := hid hk; have HRV := hid hrv
  have H0 := hid h; have HE3 := hid hE3; have R0 := hid r0
  clear h hE r0 hE3 hs1 hs2 hs3 hv hk hrv hk3 hkk
  cases b1 <;> cases b2
  all_goals
    go_enter Try.func18, Try.ntmps18
    go_wp2_with fail
    go_region_with (go_at_call 31; refine ((H0.out.drewN 1).nums R0.out hg hpk hl 1 (by decide) [0, 1] (by decide) (by decide) s1 HS1.out.symm).mono ?_; rintro e w1 ⟨rfl, h1, t1⟩; have H1 := hid h1; have T1 := hid ((Turns.of_below (X := fun x => x = g ∨ x = pk) (bel_drewN (Below.refl w.heap.size w) 1)).trans t1); clear h1 t1)
    all_goals
      go_wp2_with fail
      refine (H1.out.nums R0.out hg hpk hl 4 (by decide) [2] (by decide) (by decide) s2 HS2.out.symm).mono ?_
      rintro e w2 ⟨rfl, h2, t2⟩
      have H2 := hid h2; have T2 := hid (T1.out.trans t2); clear h2 t2
      go_wp2_with fail
      refine (H2.out.nums R0.out hg hpk hl 8 (by decide) [3] (by decide) (by decide) s3 HS3.out.symm).mono ?_
      rintro e w3 ⟨rfl, h3, t3⟩
      have c1 := pk_cell h3.2.2.1 (o := 1) rfl
      rw [← HV.out] at c1
      have H3 := hid h3; have T3 := hid (T2.out.trans t3); clear h3 t3
      go_wp2_with fail
      refine (H3.out.chk' hg _).mono ?_
      rintro e w4 ⟨rfl, h4, t4⟩
      have c0 := pk_cell h4.2.2.1 (o := 0) rfl
      rw [show ∀ ok, (chkR s3 ok).P.I 0 = s3.P.I 0 from fun _ => rfl, HK.out] at c0
      have H4 := hid h4; have T4 := hid (T3.out.trans t4); clear h4 t4 c1
      go_wp2_with fail
      refine (rest_any g _ w4).mono ?_
      rintro e w5 ⟨rfl, rfl⟩
      rw [HRV.out]
      go_wp2_with (go_at_call 48; refine (bodyG_any H4.out HE3.out R0.out hg hpk hl 2 _ rfl).mono ?_; rintro e w6 ⟨rfl, h6, t6⟩; have H6 := hid h6; have T6 := hid (T4.out.trans t6); clear h6 t6)
      go_end0
      exact ⟨rfl, H6.out, T6.out⟩
end Go.Proofs.Ytanediaaidfcaaa
/- The coder: a whole packet is read, by kinds. (genWirW.py) -/
namespace Go.Proofs.Ytanediaaidfcaaa
open Go.RowKit
set_option linter.unusedSimpArgs false
set_option linter.unusedVariables false

set_option maxRecDepth 100000 in
set_option maxHeartbeats 3000000 in
theorem packetG_3 {W0 w : World} {g pk : Nat} {a : Option Addr} {c : Nat} {xs : List UInt8} {s : RM} (h : RdP W0 w g pk a c xs none 0 0 s) (hE : emptyR s) (r0 : RowB W0 a c xs) (hg : W0.heap.size ≤ g) (hpk : W0.heap.size ≤ pk) (hl : xs.length ≤ 1000000) (hk : (rHead xs s).P.I 0 = 3) :
    Calls Try.prog 18 #[.pointer (some ⟨g, 0, none⟩), .pointer (some ⟨pk, 0, none⟩)] w fun e w' => e = .returned (.tuple #[]) ∧ NmP W0 w' g pk a c xs (rPacket xs s) ∧ Turns (fun x => x = g ∨ x = pk) w w' := by
  unfold rPacket rHead okCl
  obtain ⟨s1, hs1⟩ : ∃ s1, s1 = [0, 1].foldl (rNum xs 1) s := ⟨_, rfl⟩
  obtain ⟨s2, hs2⟩ : ∃ s2, s2 = rNum xs 4 s1 2 := ⟨_, rfl⟩
  obtain ⟨s3, hs3⟩ : ∃ s3, s3 = rNum xs 8 s2 3 := ⟨_, rfl⟩
  rw [← hs1, ← hs2, ← hs3]
  have hk3 : s3.P.I 0 = (rHead xs s).P.I 0 := by rw [hs3, hs2, hs1]; rfl
  have hE3 : emptyR s3 := by
    rw [hs3, hs2, hs1]; unfold emptyR; rw [rNum_N, rNum_N, foldR_N, rNum_S, rNum_S, foldR_S]; exact hE
  obtain ⟨v, hv⟩ : ∃ v, v = s3.P.I 1 := ⟨_, rfl⟩
  rw [← hv]
  obtain ⟨b1, hb1⟩ : ∃ b1, decide (1 ≤ v) = b1 := ⟨_, rfl⟩
  obtain ⟨b2, hb2⟩ : ∃ b2, decide (v ≤ 8) = b2 := ⟨_, rfl⟩
  rw [hb1, hb2]
  have hkk : ∀ ok, (chkR s3 ok).P.I 0 = s3.P.I 0 := fun _ => rfl
  rw [hkk]
  rw [← hk3] at hk
  rw [hk]
  have hrv : restV g 3 = .func (.func 49) #[.pointer (some ⟨g, 0, none⟩)] #[] := rfl
  have hq : ∀ W : World, (binOp BinOp.eql 53 (Value.func (Fn.func 49) #[Value.pointer (some { block := g, off := 0 })] #[]) Value.nilFunc).run Try.prog W = .ok (.bool false) W := fun W => rfl
  have HS1 := hid hs1; have HS2 := hid hs2; have HS3 := hid hs3; have HV := hid hv; have HK := hid hk; have HRV := hid hrv
  have H0 := hid h; have HE3 := hid hE3; have R0 := hid r0
  clear h hE r0 hE3 hs1 hs2 hs3 hv hk hrv hk3 hkk
  cases b1 <;> cases b2
  all_goals
    go_enter Try.func18, Try.ntmps18
    go_wp2_with fail
    go_region_with (go_at_call 31; refine ((H0.out.drewN 1).nums R0.out hg hpk hl 1 (by decide) [0, 1] (by decide) (by decide) s1 HS1.out.symm).mono ?_; rintro e w1 ⟨rfl, h1, t1⟩; have H1 := hid h1; have T1 := hid ((Turns.of_below (X := fun x => x = g ∨ x = pk) (bel_drewN (Below.refl w.heap.size w) 1)).trans t1); clear h1 t1)
    all_goals
      go_wp2_with fail
      refine (H1.out.nums R0.out hg hpk hl 4 (by decide) [2] (by decide) (by decide) s2 HS2.out.symm).mono ?_
      rintro e w2 ⟨rfl, h2, t2⟩
      have H2 := hid h2; have T2 := hid (T1.out.trans t2); clear h2 t2
      go_wp2_with fail
      refine (H2.out.nums R0.out hg hpk hl 8 (by decide) [3] (by decide) (by decide) s3 HS3.out.symm).mono ?_
      rintro e w3 ⟨rfl, h3, t3⟩
      have c1 := pk_cell h3.2.2.1 (o := 1) rfl
      rw [← HV.out] at c1
      have H3 := hid h3; have T3 := hid (T2.out.trans t3); clear h3 t3
      go_wp2_with fail
      refine (H3.out.chk' hg _).mono ?_
      rintro e w4 ⟨rfl, h4, t4⟩
      have c0 := pk_cell h4.2.2.1 (o := 0) rfl
      rw [show ∀ ok, (chkR s3 ok).P.I 0 = s3.P.I 0 from fun _ => rfl, HK.out] at c0
      have H4 := hid h4; have T4 := hid (T3.out.trans t4); clear h4 t4 c1
      go_wp2_with fail
      refine (rest_any g _ w4).mono ?_
      rintro e w5 ⟨rfl, rfl⟩
      rw [HRV.out]
      go_wp2_with (go_at_call 49; refine (bodyG_any H4.out HE3.out R0.out hg hpk hl 3 _ rfl).mono ?_; rintro e w6 ⟨rfl, h6, t6⟩; have H6 := hid h6; have T6 := hid (T4.out.trans t6); clear h6 t6)
      go_end0
      exact ⟨rfl, H6.out, T6.out⟩

set_option maxRecDepth 100000 in
set_option maxHeartbeats 3000000 in
theorem packetG_4 {W0 w : World} {g pk : Nat} {a : Option Addr} {c : Nat} {xs : List UInt8} {s : RM} (h : RdP W0 w g pk a c xs none 0 0 s) (hE : emptyR s) (r0 : RowB W0 a c xs) (hg : W0.heap.size ≤ g) (hpk : W0.heap.size ≤ pk) (hl : xs.length ≤ 1000000) (hk : (rHead xs s).P.I 0 = 4) :
    Calls Try.prog 18 #[.pointer (some ⟨g, 0, none⟩), .pointer (some ⟨pk, 0, none⟩)] w fun e w' => e = .returned (.tuple #[]) ∧ NmP W0 w' g pk a c xs (rPacket xs s) ∧ Turns (fun x => x = g ∨ x = pk) w w' := by
  unfold rPacket rHead okCl
  obtain ⟨s1, hs1⟩ : ∃ s1, s1 = [0, 1].foldl (rNum xs 1) s := ⟨_, rfl⟩
  obtain ⟨s2, hs2⟩ : ∃ s2, s2 = rNum xs 4 s1 2 := ⟨_, rfl⟩
  obtain ⟨s3, hs3⟩ : ∃ s3, s3 = rNum xs 8 s2 3 := ⟨_, rfl⟩
  rw [← hs1, ← hs2, ← hs3]
  have hk3 : s3.P.I 0 = (rHead xs s).P.I 0 := by rw [hs3, hs2, hs1]; rfl
  have hE3 : emptyR s3 := by
    rw [hs3, hs2, hs1]; unfold emptyR; rw [rNum_N, rNum_N, foldR_N, rNum_S, rNum_S, foldR_S]; exact hE
  obtain ⟨v, hv⟩ : ∃ v, v = s3.P.I 1 := ⟨_, rfl⟩
  rw [← hv]
  obtain ⟨b1, hb1⟩ : ∃ b1, decide (1 ≤ v) = b1 := ⟨_, rfl⟩
  obtain ⟨b2, hb2⟩ : ∃ b2, decide (v ≤ 8) = b2 := ⟨_, rfl⟩
  rw [hb1, hb2]
  have hkk : ∀ ok, (chkR s3 ok).P.I 0 = s3.P.I 0 := fun _ => rfl
  rw [hkk]
  rw [← hk3] at hk
  rw [hk]
  have hrv : restV g 4 = .func (.func 50) #[.pointer (some ⟨g, 0, none⟩)] #[] := rfl
  have hq : ∀ W : World, (binOp BinOp.eql 53 (Value.func (Fn.func 50) #[Value.pointer (some { block := g, off := 0 })] #[]) Value.nilFunc).run Try.prog W = .ok (.bool false) W := fun W => rfl
  have HS1 := hid hs1; have HS2 := hid hs2; have HS3 := hid hs3; have HV := hid hv; have HK := hid hk; have HRV := hid hrv
  have H0 := hid h; have HE3 := hid hE3; have R0 := hid r0
  clear h hE r0 hE3 hs1 hs2 hs3 hv hk hrv hk3 hkk
  cases b1 <;> cases b2
  all_goals
    go_enter Try.func18, Try.ntmps18
    go_wp2_with fail
    go_region_with (go_at_call 31; refine ((H0.out.drewN 1).nums R0.out hg hpk hl 1 (by decide) [0, 1] (by decide) (by decide) s1 HS1.out.symm).mono ?_; rintro e w1 ⟨rfl, h1, t1⟩; have H1 := hid h1; have T1 := hid ((Turns.of_below (X := fun x => x = g ∨ x = pk) (bel_drewN (Below.refl w.heap.size w) 1)).trans t1); clear h1 t1)
    all_goals
      go_wp2_with fail
      refine (H1.out.nums R0.out hg hpk hl 4 (by decide) [2] (by decide) (by decide) s2 HS2.out.symm).mono ?_
      rintro e w2 ⟨rfl, h2, t2⟩
      have H2 := hid h2; have T2 := hid (T1.out.trans t2); clear h2 t2
      go_wp2_with fail
      refine (H2.out.nums R0.out hg hpk hl 8 (by decide) [3] (by decide) (by decide) s3 HS3.out.symm).mono ?_
      rintro e w3 ⟨rfl, h3, t3⟩
      have c1 := pk_cell h3.2.2.1 (o := 1) rfl
      rw [← HV.out] at c1
      have H3 := hid h3; have T3 := hid (T2.out.trans t3); clear h3 t3
      go_wp2_with fail
      refine (H3.out.chk' hg _).mono ?_
      rintro e w4 ⟨rfl, h4, t4⟩
      have c0 := pk_cell h4.2.2.1 (o := 0) rfl
      rw [show ∀ ok, (chkR s3 ok).P.I 0 = s3.P.I 0 from fun _ => rfl, HK.out] at c0
      have H4 := hid h4; have T4 := hid (T3.out.trans t4); clear h4 t4 c1
      go_wp2_with fail
      refine (rest_any g _ w4).mono ?_
      rintro e w5 ⟨rfl, rfl⟩
      rw [HRV.out]
      go_wp2_with (go_at_call 50; refine (bodyG_any H4.out HE3.out R0.out hg hpk hl 4 _ rfl).mono ?_; rintro e w6 ⟨rfl, h6, t6⟩; have H6 := hid h6; have T6 := hid (T4.out.trans t6); clear h6 t6)
      go_end0
      exact ⟨rfl, H6.out, T6.out⟩
end Go.Proofs.Ytanediaaidfcaaa
/- The coder: a whole packet is read, by kinds. (genWirW.py) -/
namespace Go.Proofs.Ytanediaaidfcaaa
open Go.RowKit
set_option linter.unusedSimpArgs false
set_option linter.unusedVariables false

set_option maxRecDepth 100000 in
set_option maxHeartbeats 3000000 in
theorem packetG_5 {W0 w : World} {g pk : Nat} {a : Option Addr} {c : Nat} {xs : List UInt8} {s : RM} (h : RdP W0 w g pk a c xs none 0 0 s) (hE : emptyR s) (r0 : RowB W0 a c xs) (hg : W0.heap.size ≤ g) (hpk : W0.heap.size ≤ pk) (hl : xs.length ≤ 1000000) (hk : (rHead xs s).P.I 0 = 5) :
    Calls Try.prog 18 #[.pointer (some ⟨g, 0, none⟩), .pointer (some ⟨pk, 0, none⟩)] w fun e w' => e = .returned (.tuple #[]) ∧ NmP W0 w' g pk a c xs (rPacket xs s) ∧ Turns (fun x => x = g ∨ x = pk) w w' := by
  unfold rPacket rHead okCl
  obtain ⟨s1, hs1⟩ : ∃ s1, s1 = [0, 1].foldl (rNum xs 1) s := ⟨_, rfl⟩
  obtain ⟨s2, hs2⟩ : ∃ s2, s2 = rNum xs 4 s1 2 := ⟨_, rfl⟩
  obtain ⟨s3, hs3⟩ : ∃ s3, s3 = rNum xs 8 s2 3 := ⟨_, rfl⟩
  rw [← hs1, ← hs2, ← hs3]
  have hk3 : s3.P.I 0 = (rHead xs s).P.I 0 := by rw [hs3, hs2, hs1]; rfl
  have hE3 : emptyR s3 := by
    rw [hs3, hs2, hs1]; unfold emptyR; rw [rNum_N, rNum_N, foldR_N, rNum_S, rNum_S, foldR_S]; exact hE
  obtain ⟨v, hv⟩ : ∃ v, v = s3.P.I 1 := ⟨_, rfl⟩
  rw [← hv]
  obtain ⟨b1, hb1⟩ : ∃ b1, decide (1 ≤ v) = b1 := ⟨_, rfl⟩
  obtain ⟨b2, hb2⟩ : ∃ b2, decide (v ≤ 8) = b2 := ⟨_, rfl⟩
  rw [hb1, hb2]
  have hkk : ∀ ok, (chkR s3 ok).P.I 0 = s3.P.I 0 := fun _ => rfl
  rw [hkk]
  rw [← hk3] at hk
  rw [hk]
  have hrv : restV g 5 = .func (.func 51) #[.pointer (some ⟨g, 0, none⟩)] #[] := rfl
  have hq : ∀ W : World, (binOp BinOp.eql 53 (Value.func (Fn.func 51) #[Value.pointer (some { block := g, off := 0 })] #[]) Value.nilFunc).run Try.prog W = .ok (.bool false) W := fun W => rfl
  have HS1 := hid hs1; have HS2 := hid hs2; have HS3 := hid hs3; have HV := hid hv; have HK := hid hk; have HRV := hid hrv
  have H0 := hid h; have HE3 := hid hE3; have R0 := hid r0
  clear h hE r0 hE3 hs1 hs2 hs3 hv hk hrv hk3 hkk
  cases b1 <;> cases b2
  all_goals
    go_enter Try.func18, Try.ntmps18
    go_wp2_with fail
    go_region_with (go_at_call 31; refine ((H0.out.drewN 1).nums R0.out hg hpk hl 1 (by decide) [0, 1] (by decide) (by decide) s1 HS1.out.symm).mono ?_; rintro e w1 ⟨rfl, h1, t1⟩; have H1 := hid h1; have T1 := hid ((Turns.of_below (X := fun x => x = g ∨ x = pk) (bel_drewN (Below.refl w.heap.size w) 1)).trans t1); clear h1 t1)
    all_goals
      go_wp2_with fail
      refine (H1.out.nums R0.out hg hpk hl 4 (by decide) [2] (by decide) (by decide) s2 HS2.out.symm).mono ?_
      rintro e w2 ⟨rfl, h2, t2⟩
      have H2 := hid h2; have T2 := hid (T1.out.trans t2); clear h2 t2
      go_wp2_with fail
      refine (H2.out.nums R0.out hg hpk hl 8 (by decide) [3] (by decide) (by decide) s3 HS3.out.symm).mono ?_
      rintro e w3 ⟨rfl, h3, t3⟩
      have c1 := pk_cell h3.2.2.1 (o := 1) rfl
      rw [← HV.out] at c1
      have H3 := hid h3; have T3 := hid (T2.out.trans t3); clear h3 t3
      go_wp2_with fail
      refine (H3.out.chk' hg _).mono ?_
      rintro e w4 ⟨rfl, h4, t4⟩
      have c0 := pk_cell h4.2.2.1 (o := 0) rfl
      rw [show ∀ ok, (chkR s3 ok).P.I 0 = s3.P.I 0 from fun _ => rfl, HK.out] at c0
      have H4 := hid h4; have T4 := hid (T3.out.trans t4); clear h4 t4 c1
      go_wp2_with fail
      refine (rest_any g _ w4).mono ?_
      rintro e w5 ⟨rfl, rfl⟩
      rw [HRV.out]
      go_wp2_with (go_at_call 51; refine (bodyG_any H4.out HE3.out R0.out hg hpk hl 5 _ rfl).mono ?_; rintro e w6 ⟨rfl, h6, t6⟩; have H6 := hid h6; have T6 := hid (T4.out.trans t6); clear h6 t6)
      go_end0
      exact ⟨rfl, H6.out, T6.out⟩

set_option maxRecDepth 100000 in
set_option maxHeartbeats 3000000 in
theorem packetG_none {W0 w : World} {g pk : Nat} {a : Option Addr} {c : Nat} {xs : List UInt8} {s : RM} (h : RdP W0 w g pk a c xs none 0 0 s) (hE : emptyR s) (r0 : RowB W0 a c xs) (hg : W0.heap.size ≤ g) (hpk : W0.heap.size ≤ pk) (hl : xs.length ≤ 1000000) (hk : restF ((rHead xs s).P.I 0) = none) :
    Calls Try.prog 18 #[.pointer (some ⟨g, 0, none⟩), .pointer (some ⟨pk, 0, none⟩)] w fun e w' => e = .returned (.tuple #[]) ∧ NmP W0 w' g pk a c xs (rPacket xs s) ∧ Turns (fun x => x = g ∨ x = pk) w w' := by
  unfold rPacket rHead okCl
  obtain ⟨s1, hs1⟩ : ∃ s1, s1 = [0, 1].foldl (rNum xs 1) s := ⟨_, rfl⟩
  obtain ⟨s2, hs2⟩ : ∃ s2, s2 = rNum xs 4 s1 2 := ⟨_, rfl⟩
  obtain ⟨s3, hs3⟩ : ∃ s3, s3 = rNum xs 8 s2 3 := ⟨_, rfl⟩
  rw [← hs1, ← hs2, ← hs3]
  have hk3 : s3.P.I 0 = (rHead xs s).P.I 0 := by rw [hs3, hs2, hs1]; rfl
  have hE3 : emptyR s3 := by
    rw [hs3, hs2, hs1]; unfold emptyR; rw [rNum_N, rNum_N, foldR_N, rNum_S, rNum_S, foldR_S]; exact hE
  obtain ⟨v, hv⟩ : ∃ v, v = s3.P.I 1 := ⟨_, rfl⟩
  rw [← hv]
  obtain ⟨b1, hb1⟩ : ∃ b1, decide (1 ≤ v) = b1 := ⟨_, rfl⟩
  obtain ⟨b2, hb2⟩ : ∃ b2, decide (v ≤ 8) = b2 := ⟨_, rfl⟩
  rw [hb1, hb2]
  have hkk : ∀ ok, (chkR s3 ok).P.I 0 = s3.P.I 0 := fun _ => rfl
  rw [hkk]
  rw [← hk3] at hk
  obtain ⟨k, hkv⟩ : ∃ k, k = s3.P.I 0 := ⟨_, rfl⟩
  rw [← hkv] at hk ⊢
  have hrv : restV g k = .nilFunc := by unfold restV; rw [hk]
  have hrb : ∀ t, rBody xs k t = ⟨t.at_, true, t.P⟩ := by
    intro t
    unfold rBody
    unfold restF at hk
    repeat' split at hk
    all_goals first | cases hk | skip
    rw [if_neg (by assumption), if_neg (by assumption), if_neg (by assumption), if_neg (by assumption), if_neg (by assumption)]
  have hq : ∀ W : World, (binOp BinOp.eql 53 Value.nilFunc Value.nilFunc).run Try.prog W = .ok (.bool true) W := fun W => rfl
  have HS1 := hid hs1; have HS2 := hid hs2; have HS3 := hid hs3; have HV := hid hv; have HK := hid hkv.symm; have HRV := hid hrv
  have H0 := hid h; have HE3 := hid hE3; have R0 := hid r0; have HRB := hid hrb
  clear h hE r0 hE3 hs1 hs2 hs3 hv hk hrv hk3 hkk hrb hkv
  cases b1 <;> cases b2
  all_goals
    go_enter Try.func18, Try.ntmps18
    go_wp2_with fail
    go_region_with (go_at_call 31; refine ((H0.out.drewN 1).nums R0.out hg hpk hl 1 (by decide) [0, 1] (by decide) (by decide) s1 HS1.out.symm).mono ?_; rintro e w1 ⟨rfl, h1, t1⟩; have H1 := hid h1; have T1 := hid ((Turns.of_below (X := fun x => x = g ∨ x = pk) (bel_drewN (Below.refl w.heap.size w) 1)).trans t1); clear h1 t1)
    all_goals
      go_wp2_with fail
      refine (H1.out.nums R0.out hg hpk hl 4 (by decide) [2] (by decide) (by decide) s2 HS2.out.symm).mono ?_
      rintro e w2 ⟨rfl, h2, t2⟩
      have H2 := hid h2; have T2 := hid (T1.out.trans t2); clear h2 t2
      go_wp2_with fail
      refine (H2.out.nums R0.out hg hpk hl 8 (by decide) [3] (by decide) (by decide) s3 HS3.out.symm).mono ?_
      rintro e w3 ⟨rfl, h3, t3⟩
      have c1 := pk_cell h3.2.2.1 (o := 1) rfl
      rw [← HV.out] at c1
      have H3 := hid h3; have T3 := hid (T2.out.trans t3); clear h3 t3
      go_wp2_with fail
      refine (H3.out.chk' hg _).mono ?_
      rintro e w4 ⟨rfl, h4, t4⟩
      have c0 := pk_cell h4.2.2.1 (o := 0) rfl
      rw [show ∀ ok, (chkR s3 ok).P.I 0 = s3.P.I 0 from fun _ => rfl, HK.out] at c0
      have H4 := hid h4; have T4 := hid (T3.out.trans t4); clear h4 t4 c1
      go_wp2_with fail
      refine (rest_any g _ w4).mono ?_
      rintro e w5 ⟨rfl, rfl⟩
      rw [HRV.out]
      obtain ⟨a1, c1, h41, h42⟩ : ∃ (at1 : Nat) (no1 : Bool), Hid (CoG w4 g a c xs at1 no1) ∧ at1 = at1 := ⟨_, _, hid H4.out.1, rfl⟩
      have x3 := (show Blk w4 g 52 _ from h41.out).cell (i := 3) (by simp)
      have f3 := (show Blk w4 g 52 _ from h41.out).frozen 3
      simp only [List.getElem_cons_zero, List.getElem_cons_succ] at x3
      go_wp2_with fail
      first
        | (refine bodyPost_ret (results_none rfl _ _ _) rfl ?_
           obtain ⟨q1, q2⟩ := H4.out.wrong hg
           refine ⟨rfl, ?_, T4.out.trans q2⟩
           rw [HRB.out]
           exact q1.nm HE3.out.1)
        | skip
end Go.Proofs.Ytanediaaidfcaaa
