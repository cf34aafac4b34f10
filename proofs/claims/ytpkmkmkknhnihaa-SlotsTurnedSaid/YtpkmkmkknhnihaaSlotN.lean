import Derived.Test.YtpkmkmkknhnihaaSlotM
namespace Go.Proofs.Ytpkmkmkknhnihaa
open Go.RowKit
set_option linter.unusedSimpArgs false
set_option linter.unusedVariables false

set_option maxHeartbeats 8000000 in
theorem SlotsRound_walk (w : World) (e h r er i wr : Int) (hw : (Lit.int .i64 e).wf = true ∧ (Lit.int .i64 h).wf = true ∧ (Lit.int .i64 r).wf = true ∧ (Lit.int .i64 er).wf = true ∧ (Lit.int .i64 i).wf = true ∧ (Lit.int .i64 wr).wf = true)
    (n : Int) (hn : (Lit.int .i64 n).wf = true) (a : Option Addr) (c : Nat) (xs : List UInt8) (ha : RowB w a c xs) :
    Calls Try.prog 6 #[slotV e h r er i wr, .int .i64 n, .slice a xs.length c] w fun e w' => e = .returned (.bool true) ∧ Below w.heap.size w w' := by
  clear hw
  have hl := rowB_len ha
  have hnb := (i64_bd hn).2
  clear hn
  have HS := hid (fun w1 r1 => sealed_any a c xs w1 r1)
  have hz64 : (sealF (xs.take 60)).length = 64 := sealF_length (by simp; omega)
  have pr : rsE (sealF (xs.take 60)) = 0 → _ := put_read hz64
  have rz := fun a' c' w1 r1 => readS_any a' c' (sealF (xs.take 60)) w1 r1
  have sm := fun a2 a' c2 c' w1 r2 r1 => same_any a2 a' c2 c' (sealF (xs.take 60)) (sealF (xs.take 60)) w1 r2 r1 (by omega) (by omega)
  simp only [decide_eq_true rfl] at sm
  have SM := hid sm; clear sm
  have rv := rsV_slot (sealF (xs.take 60))
  generalize sealF (xs.take 60) = zs at *
  have pt := fun w1 => putS_any e h r er i wr w1
  have rt := fun a' c' w1 r1 => readS_any a' c' (slotL e h r er i wr) w1 r1
  have rp := read_put (e := e) (h := h) (r := r) (er := er) (i := i) (wr := wr)
  have ht := fun w1 => putHead_any n w1 hnb
  have rh := fun a' c' w1 r1 => readHead_any a' c' (headL n) w1 r1
  have rhd := read_head (n := n)
  generalize slotL e h r er i wr = L at *
  generalize headL n = H at *
  by_cases hm : mayS e h r er i wr = true
  · skip
    obtain ⟨rp1, rp2⟩ := rp hm
    rw [rp1, rp2] at rt
    simp only [hm, if_true] at pt
    unfold slotV at *
    have PT := hid pt; have RT := hid rt
    clear hm rp rp1 rp2 pt rt
    by_cases hb : btw n 1152921504606846976 = true
    · skip
      obtain ⟨rh1, rh2⟩ := rhd hb
      rw [rh1, rh2] at rh
      simp only [hb, if_true] at ht
      have HT := hid ht; have RH := hid rh
      clear hb rhd rh1 rh2 ht rh
      by_cases hq : rsE zs = 0
      · skip
        obtain ⟨e2, h2, r2, er2, i2, wr2, v1, v2, v3⟩ := pr hq
        have pz := fun w1 => putS_any e2 h2 r2 er2 i2 wr2 w1
        rw [v1, hq] at rz
        simp only [v2, v3, if_true] at pz
        unfold slotV at pz
        have PZ := hid pz; have RZ := hid rz
        clear hq pr v1 v2 v3 pz rz rv hz64
        go_enter Try.func6, Try.ntmps6
        have K0 : Blk (w.alloc (.cells #[.int .i64 e, .int .i64 h, .int .i64 r, .int .i64 er, .int .i64 i, .int .i64 wr] 26)) w.heap.size 26 [.int .i64 e, .int .i64 h, .int .i64 r, .int .i64 er, .int .i64 i, .int .i64 wr] := heap_alloc_new w _
        have A0 := (Below.refl w.heap.size w).alloc (Nat.le_refl _) (.cells #[.int .i64 e, .int .i64 h, .int .i64 r, .int .i64 er, .int .i64 i, .int .i64 wr] 26)
        go_wp2_with fail
        generalize w.alloc _ = u0 at *
        refine (PT.out u0).mono ?_
        rintro en w1 ⟨a1, c1, rfl, o1, d1⟩
        have K1 := Blk.mono K0 d1
        have b1 := below_trans A0 d1 A0.size
        have z1 := o1.row
        clear K0 A0 d1 o1
        go_wp2_with fail
        refine (RT.out a1 c1 w1 z1).mono ?_
        rintro en w2 ⟨rfl, d2⟩
        have K2 := Blk.mono K1 d2
        have b2 := below_trans b1 d2 b1.size
        have J2 : Blk (w2.alloc (.cells #[.int .i64 e, .int .i64 h, .int .i64 r, .int .i64 er, .int .i64 i, .int .i64 wr] 26)) w2.heap.size 26 [.int .i64 e, .int .i64 h, .int .i64 r, .int .i64 er, .int .i64 i, .int .i64 wr] := heap_alloc_new w2 _
        have J1 := Blk.mono K2 ((Below.refl _ w2).alloc (Nat.le_refl _) (.cells #[.int .i64 e, .int .i64 h, .int .i64 r, .int .i64 er, .int .i64 i, .int .i64 wr] 26))
        have A2 := hid (b2.alloc b2.size (.cells #[.int .i64 e, .int .i64 h, .int .i64 r, .int .i64 er, .int .i64 i, .int .i64 wr] 26))
        have j0 : (w2.alloc (.cells #[.int .i64 e, .int .i64 h, .int .i64 r, .int .i64 er, .int .i64 i, .int .i64 wr] 26)).cell? ⟨w.heap.size, 0, none⟩ = some (.int .i64 e) := Blk.cell J1 (i := 0) (by simp)
        have k0 : (w2.alloc (.cells #[.int .i64 e, .int .i64 h, .int .i64 r, .int .i64 er, .int .i64 i, .int .i64 wr] 26)).cell? ⟨w2.heap.size, 0, none⟩ = some (.int .i64 e) := Blk.cell J2 (i := 0) (by simp)
        have j1 : (w2.alloc (.cells #[.int .i64 e, .int .i64 h, .int .i64 r, .int .i64 er, .int .i64 i, .int .i64 wr] 26)).cell? ⟨w.heap.size, 1, none⟩ = some (.int .i64 h) := Blk.cell J1 (i := 1) (by simp)
        have k1 : (w2.alloc (.cells #[.int .i64 e, .int .i64 h, .int .i64 r, .int .i64 er, .int .i64 i, .int .i64 wr] 26)).cell? ⟨w2.heap.size, 1, none⟩ = some (.int .i64 h) := Blk.cell J2 (i := 1) (by simp)
        have j2 : (w2.alloc (.cells #[.int .i64 e, .int .i64 h, .int .i64 r, .int .i64 er, .int .i64 i, .int .i64 wr] 26)).cell? ⟨w.heap.size, 2, none⟩ = some (.int .i64 r) := Blk.cell J1 (i := 2) (by simp)
        have k2 : (w2.alloc (.cells #[.int .i64 e, .int .i64 h, .int .i64 r, .int .i64 er, .int .i64 i, .int .i64 wr] 26)).cell? ⟨w2.heap.size, 2, none⟩ = some (.int .i64 r) := Blk.cell J2 (i := 2) (by simp)
        have j3 : (w2.alloc (.cells #[.int .i64 e, .int .i64 h, .int .i64 r, .int .i64 er, .int .i64 i, .int .i64 wr] 26)).cell? ⟨w.heap.size, 3, none⟩ = some (.int .i64 er) := Blk.cell J1 (i := 3) (by simp)
        have k3 : (w2.alloc (.cells #[.int .i64 e, .int .i64 h, .int .i64 r, .int .i64 er, .int .i64 i, .int .i64 wr] 26)).cell? ⟨w2.heap.size, 3, none⟩ = some (.int .i64 er) := Blk.cell J2 (i := 3) (by simp)
        have j4 : (w2.alloc (.cells #[.int .i64 e, .int .i64 h, .int .i64 r, .int .i64 er, .int .i64 i, .int .i64 wr] 26)).cell? ⟨w.heap.size, 4, none⟩ = some (.int .i64 i) := Blk.cell J1 (i := 4) (by simp)
        have k4 : (w2.alloc (.cells #[.int .i64 e, .int .i64 h, .int .i64 r, .int .i64 er, .int .i64 i, .int .i64 wr] 26)).cell? ⟨w2.heap.size, 4, none⟩ = some (.int .i64 i) := Blk.cell J2 (i := 4) (by simp)
        have j5 : (w2.alloc (.cells #[.int .i64 e, .int .i64 h, .int .i64 r, .int .i64 er, .int .i64 i, .int .i64 wr] 26)).cell? ⟨w.heap.size, 5, none⟩ = some (.int .i64 wr) := Blk.cell J1 (i := 5) (by simp)
        have k5 : (w2.alloc (.cells #[.int .i64 e, .int .i64 h, .int .i64 r, .int .i64 er, .int .i64 i, .int .i64 wr] 26)).cell? ⟨w2.heap.size, 5, none⟩ = some (.int .i64 wr) := Blk.cell J2 (i := 5) (by simp)
        clear J1 J2 K1 K2 b1 b2 d2 z1
        go_wp2_with fail
        have b3 := A2.out
        clear A2 j0 k0 j1 k1 j2 k2 j3 k3 j4 k4 j5 k5
        generalize w2.alloc _ = w3 at *
        refine (HT.out w3).mono ?_
        rintro en w4 ⟨a4, c4, rfl, o4, d4⟩
        have b4 := below_trans b3 d4 b3.size
        have z4 := o4.row
        clear d4 o4 b3
        go_wp2_with fail
        refine (RH.out a4 c4 w4 z4).mono ?_
        rintro en w5 ⟨rfl, d5⟩
        have b5 := below_trans b4 d5 b4.size
        clear d5 z4 b4
        go_wp2_with fail
        refine (HS.out w5 (ha.mono b5)).mono ?_
        rintro en w6 ⟨a6, c6, rfl, o6, d6⟩
        have b6 := below_trans b5 d6 b5.size
        have z6 := o6.row
        clear d6 o6 b5
        go_wp2_with fail
        refine (RZ.out a6 c6 w6 z6).mono ?_
        rintro en w7 ⟨rfl, d7⟩
        have b7 := below_trans b6 d7 b6.size
        have z7 := Row.mono z6 d7
        have J2 : Blk (w7.alloc (.cells #[.int .i64 e2, .int .i64 h2, .int .i64 r2, .int .i64 er2, .int .i64 i2, .int .i64 wr2] 26)) w7.heap.size 26 [.int .i64 e2, .int .i64 h2, .int .i64 r2, .int .i64 er2, .int .i64 i2, .int .i64 wr2] := heap_alloc_new w7 _
        have A7 := hid (b7.alloc b7.size (.cells #[.int .i64 e2, .int .i64 h2, .int .i64 r2, .int .i64 er2, .int .i64 i2, .int .i64 wr2] 26))
        have Z7 := hid (Row.alloc z7 (.cells #[.int .i64 e2, .int .i64 h2, .int .i64 r2, .int .i64 er2, .int .i64 i2, .int .i64 wr2] 26))
        have k0 : (w7.alloc (.cells #[.int .i64 e2, .int .i64 h2, .int .i64 r2, .int .i64 er2, .int .i64 i2, .int .i64 wr2] 26)).cell? ⟨w7.heap.size, 0, none⟩ = some (.int .i64 e2) := Blk.cell J2 (i := 0) (by simp)
        have k1 : (w7.alloc (.cells #[.int .i64 e2, .int .i64 h2, .int .i64 r2, .int .i64 er2, .int .i64 i2, .int .i64 wr2] 26)).cell? ⟨w7.heap.size, 1, none⟩ = some (.int .i64 h2) := Blk.cell J2 (i := 1) (by simp)
        have k2 : (w7.alloc (.cells #[.int .i64 e2, .int .i64 h2, .int .i64 r2, .int .i64 er2, .int .i64 i2, .int .i64 wr2] 26)).cell? ⟨w7.heap.size, 2, none⟩ = some (.int .i64 r2) := Blk.cell J2 (i := 2) (by simp)
        have k3 : (w7.alloc (.cells #[.int .i64 e2, .int .i64 h2, .int .i64 r2, .int .i64 er2, .int .i64 i2, .int .i64 wr2] 26)).cell? ⟨w7.heap.size, 3, none⟩ = some (.int .i64 er2) := Blk.cell J2 (i := 3) (by simp)
        have k4 : (w7.alloc (.cells #[.int .i64 e2, .int .i64 h2, .int .i64 r2, .int .i64 er2, .int .i64 i2, .int .i64 wr2] 26)).cell? ⟨w7.heap.size, 4, none⟩ = some (.int .i64 i2) := Blk.cell J2 (i := 4) (by simp)
        have k5 : (w7.alloc (.cells #[.int .i64 e2, .int .i64 h2, .int .i64 r2, .int .i64 er2, .int .i64 i2, .int .i64 wr2] 26)).cell? ⟨w7.heap.size, 5, none⟩ = some (.int .i64 wr2) := Blk.cell J2 (i := 5) (by simp)
        clear J2 b6 d7 z6 z7 b7
        go_wp2_with fail
        have b8 := A7.out
        have z8 := Z7.out
        clear A7 Z7 k0 k1 k2 k3 k4 k5
        generalize w7.alloc _ = w8 at *
        refine (PZ.out w8).mono ?_
        rintro en w9 ⟨a9, c9, rfl, o9, d9⟩
        have b9 := below_trans b8 d9 b8.size
        have z9 := Row.mono z8 d9
        have y9 := o9.row
        clear b8 z8 d9 o9
        go_wp2_with fail
        refine (SM.out a9 a6 c9 c6 w9 y9 z9).mono ?_
        rintro en w10 ⟨rfl, d10⟩
        have b10 := below_trans b9 d10 b9.size
        clear b9 y9 z9 d10
        go_wp2_with fail
        refine (lives13_any w10).mono ?_
        rintro en w11 ⟨rfl, d11⟩
        go_wp2_with fail
        go_ret
        exact ⟨rfl, below_trans b10 d11 b10.size⟩
      · skip
        obtain ⟨e2, h2, r2, er2, i2, wr2, v1⟩ := rv
        rw [v1] at rz

        have RZ := hid rz
        clear pr v1 rz hz64
        generalize rsE zs = q2 at *
        go_enter Try.func6, Try.ntmps6
        have K0 : Blk (w.alloc (.cells #[.int .i64 e, .int .i64 h, .int .i64 r, .int .i64 er, .int .i64 i, .int .i64 wr] 26)) w.heap.size 26 [.int .i64 e, .int .i64 h, .int .i64 r, .int .i64 er, .int .i64 i, .int .i64 wr] := heap_alloc_new w _
        have A0 := (Below.refl w.heap.size w).alloc (Nat.le_refl _) (.cells #[.int .i64 e, .int .i64 h, .int .i64 r, .int .i64 er, .int .i64 i, .int .i64 wr] 26)
        go_wp2_with fail
        generalize w.alloc _ = u0 at *
        refine (PT.out u0).mono ?_
        rintro en w1 ⟨a1, c1, rfl, o1, d1⟩
        have K1 := Blk.mono K0 d1
        have b1 := below_trans A0 d1 A0.size
        have z1 := o1.row
        clear K0 A0 d1 o1
        go_wp2_with fail
        refine (RT.out a1 c1 w1 z1).mono ?_
        rintro en w2 ⟨rfl, d2⟩
        have K2 := Blk.mono K1 d2
        have b2 := below_trans b1 d2 b1.size
        have J2 : Blk (w2.alloc (.cells #[.int .i64 e, .int .i64 h, .int .i64 r, .int .i64 er, .int .i64 i, .int .i64 wr] 26)) w2.heap.size 26 [.int .i64 e, .int .i64 h, .int .i64 r, .int .i64 er, .int .i64 i, .int .i64 wr] := heap_alloc_new w2 _
        have J1 := Blk.mono K2 ((Below.refl _ w2).alloc (Nat.le_refl _) (.cells #[.int .i64 e, .int .i64 h, .int .i64 r, .int .i64 er, .int .i64 i, .int .i64 wr] 26))
        have A2 := hid (b2.alloc b2.size (.cells #[.int .i64 e, .int .i64 h, .int .i64 r, .int .i64 er, .int .i64 i, .int .i64 wr] 26))
        have j0 : (w2.alloc (.cells #[.int .i64 e, .int .i64 h, .int .i64 r, .int .i64 er, .int .i64 i, .int .i64 wr] 26)).cell? ⟨w.heap.size, 0, none⟩ = some (.int .i64 e) := Blk.cell J1 (i := 0) (by simp)
        have k0 : (w2.alloc (.cells #[.int .i64 e, .int .i64 h, .int .i64 r, .int .i64 er, .int .i64 i, .int .i64 wr] 26)).cell? ⟨w2.heap.size, 0, none⟩ = some (.int .i64 e) := Blk.cell J2 (i := 0) (by simp)
        have j1 : (w2.alloc (.cells #[.int .i64 e, .int .i64 h, .int .i64 r, .int .i64 er, .int .i64 i, .int .i64 wr] 26)).cell? ⟨w.heap.size, 1, none⟩ = some (.int .i64 h) := Blk.cell J1 (i := 1) (by simp)
        have k1 : (w2.alloc (.cells #[.int .i64 e, .int .i64 h, .int .i64 r, .int .i64 er, .int .i64 i, .int .i64 wr] 26)).cell? ⟨w2.heap.size, 1, none⟩ = some (.int .i64 h) := Blk.cell J2 (i := 1) (by simp)
        have j2 : (w2.alloc (.cells #[.int .i64 e, .int .i64 h, .int .i64 r, .int .i64 er, .int .i64 i, .int .i64 wr] 26)).cell? ⟨w.heap.size, 2, none⟩ = some (.int .i64 r) := Blk.cell J1 (i := 2) (by simp)
        have k2 : (w2.alloc (.cells #[.int .i64 e, .int .i64 h, .int .i64 r, .int .i64 er, .int .i64 i, .int .i64 wr] 26)).cell? ⟨w2.heap.size, 2, none⟩ = some (.int .i64 r) := Blk.cell J2 (i := 2) (by simp)
        have j3 : (w2.alloc (.cells #[.int .i64 e, .int .i64 h, .int .i64 r, .int .i64 er, .int .i64 i, .int .i64 wr] 26)).cell? ⟨w.heap.size, 3, none⟩ = some (.int .i64 er) := Blk.cell J1 (i := 3) (by simp)
        have k3 : (w2.alloc (.cells #[.int .i64 e, .int .i64 h, .int .i64 r, .int .i64 er, .int .i64 i, .int .i64 wr] 26)).cell? ⟨w2.heap.size, 3, none⟩ = some (.int .i64 er) := Blk.cell J2 (i := 3) (by simp)
        have j4 : (w2.alloc (.cells #[.int .i64 e, .int .i64 h, .int .i64 r, .int .i64 er, .int .i64 i, .int .i64 wr] 26)).cell? ⟨w.heap.size, 4, none⟩ = some (.int .i64 i) := Blk.cell J1 (i := 4) (by simp)
        have k4 : (w2.alloc (.cells #[.int .i64 e, .int .i64 h, .int .i64 r, .int .i64 er, .int .i64 i, .int .i64 wr] 26)).cell? ⟨w2.heap.size, 4, none⟩ = some (.int .i64 i) := Blk.cell J2 (i := 4) (by simp)
        have j5 : (w2.alloc (.cells #[.int .i64 e, .int .i64 h, .int .i64 r, .int .i64 er, .int .i64 i, .int .i64 wr] 26)).cell? ⟨w.heap.size, 5, none⟩ = some (.int .i64 wr) := Blk.cell J1 (i := 5) (by simp)
        have k5 : (w2.alloc (.cells #[.int .i64 e, .int .i64 h, .int .i64 r, .int .i64 er, .int .i64 i, .int .i64 wr] 26)).cell? ⟨w2.heap.size, 5, none⟩ = some (.int .i64 wr) := Blk.cell J2 (i := 5) (by simp)
        clear J1 J2 K1 K2 b1 b2 d2 z1
        go_wp2_with fail
        have b3 := A2.out
        clear A2 j0 k0 j1 k1 j2 k2 j3 k3 j4 k4 j5 k5
        generalize w2.alloc _ = w3 at *
        refine (HT.out w3).mono ?_
        rintro en w4 ⟨a4, c4, rfl, o4, d4⟩
        have b4 := below_trans b3 d4 b3.size
        have z4 := o4.row
        clear d4 o4 b3
        go_wp2_with fail
        refine (RH.out a4 c4 w4 z4).mono ?_
        rintro en w5 ⟨rfl, d5⟩
        have b5 := below_trans b4 d5 b4.size
        clear d5 z4 b4
        go_wp2_with fail
        refine (HS.out w5 (ha.mono b5)).mono ?_
        rintro en w6 ⟨a6, c6, rfl, o6, d6⟩
        have b6 := below_trans b5 d6 b5.size
        have z6 := o6.row
        clear d6 o6 b5
        go_wp2_with fail
        refine (RZ.out a6 c6 w6 z6).mono ?_
        rintro en w7 ⟨rfl, d7⟩
        have b7 := below_trans b6 d7 b6.size
        have z7 := Row.mono z6 d7
        have J2 : Blk (w7.alloc (.cells #[.int .i64 e2, .int .i64 h2, .int .i64 r2, .int .i64 er2, .int .i64 i2, .int .i64 wr2] 26)) w7.heap.size 26 [.int .i64 e2, .int .i64 h2, .int .i64 r2, .int .i64 er2, .int .i64 i2, .int .i64 wr2] := heap_alloc_new w7 _
        have A7 := hid (b7.alloc b7.size (.cells #[.int .i64 e2, .int .i64 h2, .int .i64 r2, .int .i64 er2, .int .i64 i2, .int .i64 wr2] 26))
        have Z7 := hid (Row.alloc z7 (.cells #[.int .i64 e2, .int .i64 h2, .int .i64 r2, .int .i64 er2, .int .i64 i2, .int .i64 wr2] 26))
        have k0 : (w7.alloc (.cells #[.int .i64 e2, .int .i64 h2, .int .i64 r2, .int .i64 er2, .int .i64 i2, .int .i64 wr2] 26)).cell? ⟨w7.heap.size, 0, none⟩ = some (.int .i64 e2) := Blk.cell J2 (i := 0) (by simp)
        have k1 : (w7.alloc (.cells #[.int .i64 e2, .int .i64 h2, .int .i64 r2, .int .i64 er2, .int .i64 i2, .int .i64 wr2] 26)).cell? ⟨w7.heap.size, 1, none⟩ = some (.int .i64 h2) := Blk.cell J2 (i := 1) (by simp)
        have k2 : (w7.alloc (.cells #[.int .i64 e2, .int .i64 h2, .int .i64 r2, .int .i64 er2, .int .i64 i2, .int .i64 wr2] 26)).cell? ⟨w7.heap.size, 2, none⟩ = some (.int .i64 r2) := Blk.cell J2 (i := 2) (by simp)
        have k3 : (w7.alloc (.cells #[.int .i64 e2, .int .i64 h2, .int .i64 r2, .int .i64 er2, .int .i64 i2, .int .i64 wr2] 26)).cell? ⟨w7.heap.size, 3, none⟩ = some (.int .i64 er2) := Blk.cell J2 (i := 3) (by simp)
        have k4 : (w7.alloc (.cells #[.int .i64 e2, .int .i64 h2, .int .i64 r2, .int .i64 er2, .int .i64 i2, .int .i64 wr2] 26)).cell? ⟨w7.heap.size, 4, none⟩ = some (.int .i64 i2) := Blk.cell J2 (i := 4) (by simp)
        have k5 : (w7.alloc (.cells #[.int .i64 e2, .int .i64 h2, .int .i64 r2, .int .i64 er2, .int .i64 i2, .int .i64 wr2] 26)).cell? ⟨w7.heap.size, 5, none⟩ = some (.int .i64 wr2) := Blk.cell J2 (i := 5) (by simp)
        clear J2 b6 d7 z6 z7 b7
        go_wp2_with fail
        have b8 := A7.out
        have z8 := Z7.out
        clear A7 Z7 k0 k1 k2 k3 k4 k5
        generalize w7.alloc _ = w8 at *
        refine (lives13_any w8).mono ?_
        rintro en w11 ⟨rfl, d11⟩
        go_wp2_with fail
        go_ret
        exact ⟨rfl, below_trans b8 d11 b8.size⟩
    · skip
      simp only [hb, if_false] at ht
      have HT := hid ht
      clear hb rhd ht rh
      by_cases hq : rsE zs = 0
      · skip
        obtain ⟨e2, h2, r2, er2, i2, wr2, v1, v2, v3⟩ := pr hq
        have pz := fun w1 => putS_any e2 h2 r2 er2 i2 wr2 w1
        rw [v1, hq] at rz
        simp only [v2, v3, if_true] at pz
        unfold slotV at pz
        have PZ := hid pz; have RZ := hid rz
        clear hq pr v1 v2 v3 pz rz rv hz64
        go_enter Try.func6, Try.ntmps6
        have K0 : Blk (w.alloc (.cells #[.int .i64 e, .int .i64 h, .int .i64 r, .int .i64 er, .int .i64 i, .int .i64 wr] 26)) w.heap.size 26 [.int .i64 e, .int .i64 h, .int .i64 r, .int .i64 er, .int .i64 i, .int .i64 wr] := heap_alloc_new w _
        have A0 := (Below.refl w.heap.size w).alloc (Nat.le_refl _) (.cells #[.int .i64 e, .int .i64 h, .int .i64 r, .int .i64 er, .int .i64 i, .int .i64 wr] 26)
        go_wp2_with fail
        generalize w.alloc _ = u0 at *
        refine (PT.out u0).mono ?_
        rintro en w1 ⟨a1, c1, rfl, o1, d1⟩
        have K1 := Blk.mono K0 d1
        have b1 := below_trans A0 d1 A0.size
        have z1 := o1.row
        clear K0 A0 d1 o1
        go_wp2_with fail
        refine (RT.out a1 c1 w1 z1).mono ?_
        rintro en w2 ⟨rfl, d2⟩
        have K2 := Blk.mono K1 d2
        have b2 := below_trans b1 d2 b1.size
        have J2 : Blk (w2.alloc (.cells #[.int .i64 e, .int .i64 h, .int .i64 r, .int .i64 er, .int .i64 i, .int .i64 wr] 26)) w2.heap.size 26 [.int .i64 e, .int .i64 h, .int .i64 r, .int .i64 er, .int .i64 i, .int .i64 wr] := heap_alloc_new w2 _
        have J1 := Blk.mono K2 ((Below.refl _ w2).alloc (Nat.le_refl _) (.cells #[.int .i64 e, .int .i64 h, .int .i64 r, .int .i64 er, .int .i64 i, .int .i64 wr] 26))
        have A2 := hid (b2.alloc b2.size (.cells #[.int .i64 e, .int .i64 h, .int .i64 r, .int .i64 er, .int .i64 i, .int .i64 wr] 26))
        have j0 : (w2.alloc (.cells #[.int .i64 e, .int .i64 h, .int .i64 r, .int .i64 er, .int .i64 i, .int .i64 wr] 26)).cell? ⟨w.heap.size, 0, none⟩ = some (.int .i64 e) := Blk.cell J1 (i := 0) (by simp)
        have k0 : (w2.alloc (.cells #[.int .i64 e, .int .i64 h, .int .i64 r, .int .i64 er, .int .i64 i, .int .i64 wr] 26)).cell? ⟨w2.heap.size, 0, none⟩ = some (.int .i64 e) := Blk.cell J2 (i := 0) (by simp)
        have j1 : (w2.alloc (.cells #[.int .i64 e, .int .i64 h, .int .i64 r, .int .i64 er, .int .i64 i, .int .i64 wr] 26)).cell? ⟨w.heap.size, 1, none⟩ = some (.int .i64 h) := Blk.cell J1 (i := 1) (by simp)
        have k1 : (w2.alloc (.cells #[.int .i64 e, .int .i64 h, .int .i64 r, .int .i64 er, .int .i64 i, .int .i64 wr] 26)).cell? ⟨w2.heap.size, 1, none⟩ = some (.int .i64 h) := Blk.cell J2 (i := 1) (by simp)
        have j2 : (w2.alloc (.cells #[.int .i64 e, .int .i64 h, .int .i64 r, .int .i64 er, .int .i64 i, .int .i64 wr] 26)).cell? ⟨w.heap.size, 2, none⟩ = some (.int .i64 r) := Blk.cell J1 (i := 2) (by simp)
        have k2 : (w2.alloc (.cells #[.int .i64 e, .int .i64 h, .int .i64 r, .int .i64 er, .int .i64 i, .int .i64 wr] 26)).cell? ⟨w2.heap.size, 2, none⟩ = some (.int .i64 r) := Blk.cell J2 (i := 2) (by simp)
        have j3 : (w2.alloc (.cells #[.int .i64 e, .int .i64 h, .int .i64 r, .int .i64 er, .int .i64 i, .int .i64 wr] 26)).cell? ⟨w.heap.size, 3, none⟩ = some (.int .i64 er) := Blk.cell J1 (i := 3) (by simp)
        have k3 : (w2.alloc (.cells #[.int .i64 e, .int .i64 h, .int .i64 r, .int .i64 er, .int .i64 i, .int .i64 wr] 26)).cell? ⟨w2.heap.size, 3, none⟩ = some (.int .i64 er) := Blk.cell J2 (i := 3) (by simp)
        have j4 : (w2.alloc (.cells #[.int .i64 e, .int .i64 h, .int .i64 r, .int .i64 er, .int .i64 i, .int .i64 wr] 26)).cell? ⟨w.heap.size, 4, none⟩ = some (.int .i64 i) := Blk.cell J1 (i := 4) (by simp)
        have k4 : (w2.alloc (.cells #[.int .i64 e, .int .i64 h, .int .i64 r, .int .i64 er, .int .i64 i, .int .i64 wr] 26)).cell? ⟨w2.heap.size, 4, none⟩ = some (.int .i64 i) := Blk.cell J2 (i := 4) (by simp)
        have j5 : (w2.alloc (.cells #[.int .i64 e, .int .i64 h, .int .i64 r, .int .i64 er, .int .i64 i, .int .i64 wr] 26)).cell? ⟨w.heap.size, 5, none⟩ = some (.int .i64 wr) := Blk.cell J1 (i := 5) (by simp)
        have k5 : (w2.alloc (.cells #[.int .i64 e, .int .i64 h, .int .i64 r, .int .i64 er, .int .i64 i, .int .i64 wr] 26)).cell? ⟨w2.heap.size, 5, none⟩ = some (.int .i64 wr) := Blk.cell J2 (i := 5) (by simp)
        clear J1 J2 K1 K2 b1 b2 d2 z1
        go_wp2_with fail
        have b3 := A2.out
        clear A2 j0 k0 j1 k1 j2 k2 j3 k3 j4 k4 j5 k5
        generalize w2.alloc _ = w3 at *
        refine (HT.out w3).mono ?_
        rintro en w4 ⟨a4, c4, rfl, o4, d4⟩
        have b4 := below_trans b3 d4 b3.size
        have z4 := o4.row
        clear d4 o4 b3
        go_wp2_with fail
        refine (HS.out w4 (ha.mono b4)).mono ?_
        rintro en w6 ⟨a6, c6, rfl, o6, d6⟩
        have b6 := below_trans b4 d6 b4.size
        have z6 := o6.row
        clear d6 o6 b4
        go_wp2_with fail
        refine (RZ.out a6 c6 w6 z6).mono ?_
        rintro en w7 ⟨rfl, d7⟩
        have b7 := below_trans b6 d7 b6.size
        have z7 := Row.mono z6 d7
        have J2 : Blk (w7.alloc (.cells #[.int .i64 e2, .int .i64 h2, .int .i64 r2, .int .i64 er2, .int .i64 i2, .int .i64 wr2] 26)) w7.heap.size 26 [.int .i64 e2, .int .i64 h2, .int .i64 r2, .int .i64 er2, .int .i64 i2, .int .i64 wr2] := heap_alloc_new w7 _
        have A7 := hid (b7.alloc b7.size (.cells #[.int .i64 e2, .int .i64 h2, .int .i64 r2, .int .i64 er2, .int .i64 i2, .int .i64 wr2] 26))
        have Z7 := hid (Row.alloc z7 (.cells #[.int .i64 e2, .int .i64 h2, .int .i64 r2, .int .i64 er2, .int .i64 i2, .int .i64 wr2] 26))
        have k0 : (w7.alloc (.cells #[.int .i64 e2, .int .i64 h2, .int .i64 r2, .int .i64 er2, .int .i64 i2, .int .i64 wr2] 26)).cell? ⟨w7.heap.size, 0, none⟩ = some (.int .i64 e2) := Blk.cell J2 (i := 0) (by simp)
        have k1 : (w7.alloc (.cells #[.int .i64 e2, .int .i64 h2, .int .i64 r2, .int .i64 er2, .int .i64 i2, .int .i64 wr2] 26)).cell? ⟨w7.heap.size, 1, none⟩ = some (.int .i64 h2) := Blk.cell J2 (i := 1) (by simp)
        have k2 : (w7.alloc (.cells #[.int .i64 e2, .int .i64 h2, .int .i64 r2, .int .i64 er2, .int .i64 i2, .int .i64 wr2] 26)).cell? ⟨w7.heap.size, 2, none⟩ = some (.int .i64 r2) := Blk.cell J2 (i := 2) (by simp)
        have k3 : (w7.alloc (.cells #[.int .i64 e2, .int .i64 h2, .int .i64 r2, .int .i64 er2, .int .i64 i2, .int .i64 wr2] 26)).cell? ⟨w7.heap.size, 3, none⟩ = some (.int .i64 er2) := Blk.cell J2 (i := 3) (by simp)
        have k4 : (w7.alloc (.cells #[.int .i64 e2, .int .i64 h2, .int .i64 r2, .int .i64 er2, .int .i64 i2, .int .i64 wr2] 26)).cell? ⟨w7.heap.size, 4, none⟩ = some (.int .i64 i2) := Blk.cell J2 (i := 4) (by simp)
        have k5 : (w7.alloc (.cells #[.int .i64 e2, .int .i64 h2, .int .i64 r2, .int .i64 er2, .int .i64 i2, .int .i64 wr2] 26)).cell? ⟨w7.heap.size, 5, none⟩ = some (.int .i64 wr2) := Blk.cell J2 (i := 5) (by simp)
        clear J2 b6 d7 z6 z7 b7
        go_wp2_with fail
        have b8 := A7.out
        have z8 := Z7.out
        clear A7 Z7 k0 k1 k2 k3 k4 k5
        generalize w7.alloc _ = w8 at *
        refine (PZ.out w8).mono ?_
        rintro en w9 ⟨a9, c9, rfl, o9, d9⟩
        have b9 := below_trans b8 d9 b8.size
        have z9 := Row.mono z8 d9
        have y9 := o9.row
        clear b8 z8 d9 o9
        go_wp2_with fail
        refine (SM.out a9 a6 c9 c6 w9 y9 z9).mono ?_
        rintro en w10 ⟨rfl, d10⟩
        have b10 := below_trans b9 d10 b9.size
        clear b9 y9 z9 d10
        go_wp2_with fail
        refine (lives13_any w10).mono ?_
        rintro en w11 ⟨rfl, d11⟩
        go_wp2_with fail
        go_ret
        exact ⟨rfl, below_trans b10 d11 b10.size⟩
      · skip
        obtain ⟨e2, h2, r2, er2, i2, wr2, v1⟩ := rv
        rw [v1] at rz

        have RZ := hid rz
        clear pr v1 rz hz64
        generalize rsE zs = q2 at *
        go_enter Try.func6, Try.ntmps6
        have K0 : Blk (w.alloc (.cells #[.int .i64 e, .int .i64 h, .int .i64 r, .int .i64 er, .int .i64 i, .int .i64 wr] 26)) w.heap.size 26 [.int .i64 e, .int .i64 h, .int .i64 r, .int .i64 er, .int .i64 i, .int .i64 wr] := heap_alloc_new w _
        have A0 := (Below.refl w.heap.size w).alloc (Nat.le_refl _) (.cells #[.int .i64 e, .int .i64 h, .int .i64 r, .int .i64 er, .int .i64 i, .int .i64 wr] 26)
        go_wp2_with fail
        generalize w.alloc _ = u0 at *
        refine (PT.out u0).mono ?_
        rintro en w1 ⟨a1, c1, rfl, o1, d1⟩
        have K1 := Blk.mono K0 d1
        have b1 := below_trans A0 d1 A0.size
        have z1 := o1.row
        clear K0 A0 d1 o1
        go_wp2_with fail
        refine (RT.out a1 c1 w1 z1).mono ?_
        rintro en w2 ⟨rfl, d2⟩
        have K2 := Blk.mono K1 d2
        have b2 := below_trans b1 d2 b1.size
        have J2 : Blk (w2.alloc (.cells #[.int .i64 e, .int .i64 h, .int .i64 r, .int .i64 er, .int .i64 i, .int .i64 wr] 26)) w2.heap.size 26 [.int .i64 e, .int .i64 h, .int .i64 r, .int .i64 er, .int .i64 i, .int .i64 wr] := heap_alloc_new w2 _
        have J1 := Blk.mono K2 ((Below.refl _ w2).alloc (Nat.le_refl _) (.cells #[.int .i64 e, .int .i64 h, .int .i64 r, .int .i64 er, .int .i64 i, .int .i64 wr] 26))
        have A2 := hid (b2.alloc b2.size (.cells #[.int .i64 e, .int .i64 h, .int .i64 r, .int .i64 er, .int .i64 i, .int .i64 wr] 26))
        have j0 : (w2.alloc (.cells #[.int .i64 e, .int .i64 h, .int .i64 r, .int .i64 er, .int .i64 i, .int .i64 wr] 26)).cell? ⟨w.heap.size, 0, none⟩ = some (.int .i64 e) := Blk.cell J1 (i := 0) (by simp)
        have k0 : (w2.alloc (.cells #[.int .i64 e, .int .i64 h, .int .i64 r, .int .i64 er, .int .i64 i, .int .i64 wr] 26)).cell? ⟨w2.heap.size, 0, none⟩ = some (.int .i64 e) := Blk.cell J2 (i := 0) (by simp)
        have j1 : (w2.alloc (.cells #[.int .i64 e, .int .i64 h, .int .i64 r, .int .i64 er, .int .i64 i, .int .i64 wr] 26)).cell? ⟨w.heap.size, 1, none⟩ = some (.int .i64 h) := Blk.cell J1 (i := 1) (by simp)
        have k1 : (w2.alloc (.cells #[.int .i64 e, .int .i64 h, .int .i64 r, .int .i64 er, .int .i64 i, .int .i64 wr] 26)).cell? ⟨w2.heap.size, 1, none⟩ = some (.int .i64 h) := Blk.cell J2 (i := 1) (by simp)
        have j2 : (w2.alloc (.cells #[.int .i64 e, .int .i64 h, .int .i64 r, .int .i64 er, .int .i64 i, .int .i64 wr] 26)).cell? ⟨w.heap.size, 2, none⟩ = some (.int .i64 r) := Blk.cell J1 (i := 2) (by simp)
        have k2 : (w2.alloc (.cells #[.int .i64 e, .int .i64 h, .int .i64 r, .int .i64 er, .int .i64 i, .int .i64 wr] 26)).cell? ⟨w2.heap.size, 2, none⟩ = some (.int .i64 r) := Blk.cell J2 (i := 2) (by simp)
        have j3 : (w2.alloc (.cells #[.int .i64 e, .int .i64 h, .int .i64 r, .int .i64 er, .int .i64 i, .int .i64 wr] 26)).cell? ⟨w.heap.size, 3, none⟩ = some (.int .i64 er) := Blk.cell J1 (i := 3) (by simp)
        have k3 : (w2.alloc (.cells #[.int .i64 e, .int .i64 h, .int .i64 r, .int .i64 er, .int .i64 i, .int .i64 wr] 26)).cell? ⟨w2.heap.size, 3, none⟩ = some (.int .i64 er) := Blk.cell J2 (i := 3) (by simp)
        have j4 : (w2.alloc (.cells #[.int .i64 e, .int .i64 h, .int .i64 r, .int .i64 er, .int .i64 i, .int .i64 wr] 26)).cell? ⟨w.heap.size, 4, none⟩ = some (.int .i64 i) := Blk.cell J1 (i := 4) (by simp)
        have k4 : (w2.alloc (.cells #[.int .i64 e, .int .i64 h, .int .i64 r, .int .i64 er, .int .i64 i, .int .i64 wr] 26)).cell? ⟨w2.heap.size, 4, none⟩ = some (.int .i64 i) := Blk.cell J2 (i := 4) (by simp)
        have j5 : (w2.alloc (.cells #[.int .i64 e, .int .i64 h, .int .i64 r, .int .i64 er, .int .i64 i, .int .i64 wr] 26)).cell? ⟨w.heap.size, 5, none⟩ = some (.int .i64 wr) := Blk.cell J1 (i := 5) (by simp)
        have k5 : (w2.alloc (.cells #[.int .i64 e, .int .i64 h, .int .i64 r, .int .i64 er, .int .i64 i, .int .i64 wr] 26)).cell? ⟨w2.heap.size, 5, none⟩ = some (.int .i64 wr) := Blk.cell J2 (i := 5) (by simp)
        clear J1 J2 K1 K2 b1 b2 d2 z1
        go_wp2_with fail
        have b3 := A2.out
        clear A2 j0 k0 j1 k1 j2 k2 j3 k3 j4 k4 j5 k5
        generalize w2.alloc _ = w3 at *
        refine (HT.out w3).mono ?_
        rintro en w4 ⟨a4, c4, rfl, o4, d4⟩
        have b4 := below_trans b3 d4 b3.size
        have z4 := o4.row
        clear d4 o4 b3
        go_wp2_with fail
        refine (HS.out w4 (ha.mono b4)).mono ?_
        rintro en w6 ⟨a6, c6, rfl, o6, d6⟩
        have b6 := below_trans b4 d6 b4.size
        have z6 := o6.row
        clear d6 o6 b4
        go_wp2_with fail
        refine (RZ.out a6 c6 w6 z6).mono ?_
        rintro en w7 ⟨rfl, d7⟩
        have b7 := below_trans b6 d7 b6.size
        have z7 := Row.mono z6 d7
        have J2 : Blk (w7.alloc (.cells #[.int .i64 e2, .int .i64 h2, .int .i64 r2, .int .i64 er2, .int .i64 i2, .int .i64 wr2] 26)) w7.heap.size 26 [.int .i64 e2, .int .i64 h2, .int .i64 r2, .int .i64 er2, .int .i64 i2, .int .i64 wr2] := heap_alloc_new w7 _
        have A7 := hid (b7.alloc b7.size (.cells #[.int .i64 e2, .int .i64 h2, .int .i64 r2, .int .i64 er2, .int .i64 i2, .int .i64 wr2] 26))
        have Z7 := hid (Row.alloc z7 (.cells #[.int .i64 e2, .int .i64 h2, .int .i64 r2, .int .i64 er2, .int .i64 i2, .int .i64 wr2] 26))
        have k0 : (w7.alloc (.cells #[.int .i64 e2, .int .i64 h2, .int .i64 r2, .int .i64 er2, .int .i64 i2, .int .i64 wr2] 26)).cell? ⟨w7.heap.size, 0, none⟩ = some (.int .i64 e2) := Blk.cell J2 (i := 0) (by simp)
        have k1 : (w7.alloc (.cells #[.int .i64 e2, .int .i64 h2, .int .i64 r2, .int .i64 er2, .int .i64 i2, .int .i64 wr2] 26)).cell? ⟨w7.heap.size, 1, none⟩ = some (.int .i64 h2) := Blk.cell J2 (i := 1) (by simp)
        have k2 : (w7.alloc (.cells #[.int .i64 e2, .int .i64 h2, .int .i64 r2, .int .i64 er2, .int .i64 i2, .int .i64 wr2] 26)).cell? ⟨w7.heap.size, 2, none⟩ = some (.int .i64 r2) := Blk.cell J2 (i := 2) (by simp)
        have k3 : (w7.alloc (.cells #[.int .i64 e2, .int .i64 h2, .int .i64 r2, .int .i64 er2, .int .i64 i2, .int .i64 wr2] 26)).cell? ⟨w7.heap.size, 3, none⟩ = some (.int .i64 er2) := Blk.cell J2 (i := 3) (by simp)
        have k4 : (w7.alloc (.cells #[.int .i64 e2, .int .i64 h2, .int .i64 r2, .int .i64 er2, .int .i64 i2, .int .i64 wr2] 26)).cell? ⟨w7.heap.size, 4, none⟩ = some (.int .i64 i2) := Blk.cell J2 (i := 4) (by simp)
        have k5 : (w7.alloc (.cells #[.int .i64 e2, .int .i64 h2, .int .i64 r2, .int .i64 er2, .int .i64 i2, .int .i64 wr2] 26)).cell? ⟨w7.heap.size, 5, none⟩ = some (.int .i64 wr2) := Blk.cell J2 (i := 5) (by simp)
        clear J2 b6 d7 z6 z7 b7
        go_wp2_with fail
        have b8 := A7.out
        have z8 := Z7.out
        clear A7 Z7 k0 k1 k2 k3 k4 k5
        generalize w7.alloc _ = w8 at *
        refine (lives13_any w8).mono ?_
        rintro en w11 ⟨rfl, d11⟩
        go_wp2_with fail
        go_ret
        exact ⟨rfl, below_trans b8 d11 b8.size⟩
  · skip
    simp only [hm, if_false] at pt
    unfold slotV at *
    have PT := hid pt
    clear hm rp pt rt
    by_cases hb : btw n 1152921504606846976 = true
    · skip
      obtain ⟨rh1, rh2⟩ := rhd hb
      rw [rh1, rh2] at rh
      simp only [hb, if_true] at ht
      have HT := hid ht; have RH := hid rh
      clear hb rhd rh1 rh2 ht rh
      by_cases hq : rsE zs = 0
      · skip
        obtain ⟨e2, h2, r2, er2, i2, wr2, v1, v2, v3⟩ := pr hq
        have pz := fun w1 => putS_any e2 h2 r2 er2 i2 wr2 w1
        rw [v1, hq] at rz
        simp only [v2, v3, if_true] at pz
        unfold slotV at pz
        have PZ := hid pz; have RZ := hid rz
        clear hq pr v1 v2 v3 pz rz rv hz64
        go_enter Try.func6, Try.ntmps6
        have K0 : Blk (w.alloc (.cells #[.int .i64 e, .int .i64 h, .int .i64 r, .int .i64 er, .int .i64 i, .int .i64 wr] 26)) w.heap.size 26 [.int .i64 e, .int .i64 h, .int .i64 r, .int .i64 er, .int .i64 i, .int .i64 wr] := heap_alloc_new w _
        have A0 := (Below.refl w.heap.size w).alloc (Nat.le_refl _) (.cells #[.int .i64 e, .int .i64 h, .int .i64 r, .int .i64 er, .int .i64 i, .int .i64 wr] 26)
        go_wp2_with fail
        generalize w.alloc _ = u0 at *
        refine (PT.out u0).mono ?_
        rintro en w1 ⟨a1, c1, rfl, o1, d1⟩
        have K1 := Blk.mono K0 d1
        have b1 := below_trans A0 d1 A0.size
        have z1 := o1.row
        clear K0 A0 d1 o1
        clear K1 z1
        go_wp2_with fail
        refine (HT.out w1).mono ?_
        rintro en w4 ⟨a4, c4, rfl, o4, d4⟩
        have b4 := below_trans b1 d4 b1.size
        have z4 := o4.row
        clear d4 o4 b1
        go_wp2_with fail
        refine (RH.out a4 c4 w4 z4).mono ?_
        rintro en w5 ⟨rfl, d5⟩
        have b5 := below_trans b4 d5 b4.size
        clear d5 z4 b4
        go_wp2_with fail
        refine (HS.out w5 (ha.mono b5)).mono ?_
        rintro en w6 ⟨a6, c6, rfl, o6, d6⟩
        have b6 := below_trans b5 d6 b5.size
        have z6 := o6.row
        clear d6 o6 b5
        go_wp2_with fail
        refine (RZ.out a6 c6 w6 z6).mono ?_
        rintro en w7 ⟨rfl, d7⟩
        have b7 := below_trans b6 d7 b6.size
        have z7 := Row.mono z6 d7
        have J2 : Blk (w7.alloc (.cells #[.int .i64 e2, .int .i64 h2, .int .i64 r2, .int .i64 er2, .int .i64 i2, .int .i64 wr2] 26)) w7.heap.size 26 [.int .i64 e2, .int .i64 h2, .int .i64 r2, .int .i64 er2, .int .i64 i2, .int .i64 wr2] := heap_alloc_new w7 _
        have A7 := hid (b7.alloc b7.size (.cells #[.int .i64 e2, .int .i64 h2, .int .i64 r2, .int .i64 er2, .int .i64 i2, .int .i64 wr2] 26))
        have Z7 := hid (Row.alloc z7 (.cells #[.int .i64 e2, .int .i64 h2, .int .i64 r2, .int .i64 er2, .int .i64 i2, .int .i64 wr2] 26))
        have k0 : (w7.alloc (.cells #[.int .i64 e2, .int .i64 h2, .int .i64 r2, .int .i64 er2, .int .i64 i2, .int .i64 wr2] 26)).cell? ⟨w7.heap.size, 0, none⟩ = some (.int .i64 e2) := Blk.cell J2 (i := 0) (by simp)
        have k1 : (w7.alloc (.cells #[.int .i64 e2, .int .i64 h2, .int .i64 r2, .int .i64 er2, .int .i64 i2, .int .i64 wr2] 26)).cell? ⟨w7.heap.size, 1, none⟩ = some (.int .i64 h2) := Blk.cell J2 (i := 1) (by simp)
        have k2 : (w7.alloc (.cells #[.int .i64 e2, .int .i64 h2, .int .i64 r2, .int .i64 er2, .int .i64 i2, .int .i64 wr2] 26)).cell? ⟨w7.heap.size, 2, none⟩ = some (.int .i64 r2) := Blk.cell J2 (i := 2) (by simp)
        have k3 : (w7.alloc (.cells #[.int .i64 e2, .int .i64 h2, .int .i64 r2, .int .i64 er2, .int .i64 i2, .int .i64 wr2] 26)).cell? ⟨w7.heap.size, 3, none⟩ = some (.int .i64 er2) := Blk.cell J2 (i := 3) (by simp)
        have k4 : (w7.alloc (.cells #[.int .i64 e2, .int .i64 h2, .int .i64 r2, .int .i64 er2, .int .i64 i2, .int .i64 wr2] 26)).cell? ⟨w7.heap.size, 4, none⟩ = some (.int .i64 i2) := Blk.cell J2 (i := 4) (by simp)
        have k5 : (w7.alloc (.cells #[.int .i64 e2, .int .i64 h2, .int .i64 r2, .int .i64 er2, .int .i64 i2, .int .i64 wr2] 26)).cell? ⟨w7.heap.size, 5, none⟩ = some (.int .i64 wr2) := Blk.cell J2 (i := 5) (by simp)
        clear J2 b6 d7 z6 z7 b7
        go_wp2_with fail
        have b8 := A7.out
        have z8 := Z7.out
        clear A7 Z7 k0 k1 k2 k3 k4 k5
        generalize w7.alloc _ = w8 at *
        refine (PZ.out w8).mono ?_
        rintro en w9 ⟨a9, c9, rfl, o9, d9⟩
        have b9 := below_trans b8 d9 b8.size
        have z9 := Row.mono z8 d9
        have y9 := o9.row
        clear b8 z8 d9 o9
        go_wp2_with fail
        refine (SM.out a9 a6 c9 c6 w9 y9 z9).mono ?_
        rintro en w10 ⟨rfl, d10⟩
        have b10 := below_trans b9 d10 b9.size
        clear b9 y9 z9 d10
        go_wp2_with fail
        refine (lives13_any w10).mono ?_
        rintro en w11 ⟨rfl, d11⟩
        go_wp2_with fail
        go_ret
        exact ⟨rfl, below_trans b10 d11 b10.size⟩
      · skip
        obtain ⟨e2, h2, r2, er2, i2, wr2, v1⟩ := rv
        rw [v1] at rz

        have RZ := hid rz
        clear pr v1 rz hz64
        generalize rsE zs = q2 at *
        go_enter Try.func6, Try.ntmps6
        have K0 : Blk (w.alloc (.cells #[.int .i64 e, .int .i64 h, .int .i64 r, .int .i64 er, .int .i64 i, .int .i64 wr] 26)) w.heap.size 26 [.int .i64 e, .int .i64 h, .int .i64 r, .int .i64 er, .int .i64 i, .int .i64 wr] := heap_alloc_new w _
        have A0 := (Below.refl w.heap.size w).alloc (Nat.le_refl _) (.cells #[.int .i64 e, .int .i64 h, .int .i64 r, .int .i64 er, .int .i64 i, .int .i64 wr] 26)
        go_wp2_with fail
        generalize w.alloc _ = u0 at *
        refine (PT.out u0).mono ?_
        rintro en w1 ⟨a1, c1, rfl, o1, d1⟩
        have K1 := Blk.mono K0 d1
        have b1 := below_trans A0 d1 A0.size
        have z1 := o1.row
        clear K0 A0 d1 o1
        clear K1 z1
        go_wp2_with fail
        refine (HT.out w1).mono ?_
        rintro en w4 ⟨a4, c4, rfl, o4, d4⟩
        have b4 := below_trans b1 d4 b1.size
        have z4 := o4.row
        clear d4 o4 b1
        go_wp2_with fail
        refine (RH.out a4 c4 w4 z4).mono ?_
        rintro en w5 ⟨rfl, d5⟩
        have b5 := below_trans b4 d5 b4.size
        clear d5 z4 b4
        go_wp2_with fail
        refine (HS.out w5 (ha.mono b5)).mono ?_
        rintro en w6 ⟨a6, c6, rfl, o6, d6⟩
        have b6 := below_trans b5 d6 b5.size
        have z6 := o6.row
        clear d6 o6 b5
        go_wp2_with fail
        refine (RZ.out a6 c6 w6 z6).mono ?_
        rintro en w7 ⟨rfl, d7⟩
        have b7 := below_trans b6 d7 b6.size
        have z7 := Row.mono z6 d7
        have J2 : Blk (w7.alloc (.cells #[.int .i64 e2, .int .i64 h2, .int .i64 r2, .int .i64 er2, .int .i64 i2, .int .i64 wr2] 26)) w7.heap.size 26 [.int .i64 e2, .int .i64 h2, .int .i64 r2, .int .i64 er2, .int .i64 i2, .int .i64 wr2] := heap_alloc_new w7 _
        have A7 := hid (b7.alloc b7.size (.cells #[.int .i64 e2, .int .i64 h2, .int .i64 r2, .int .i64 er2, .int .i64 i2, .int .i64 wr2] 26))
        have Z7 := hid (Row.alloc z7 (.cells #[.int .i64 e2, .int .i64 h2, .int .i64 r2, .int .i64 er2, .int .i64 i2, .int .i64 wr2] 26))
        have k0 : (w7.alloc (.cells #[.int .i64 e2, .int .i64 h2, .int .i64 r2, .int .i64 er2, .int .i64 i2, .int .i64 wr2] 26)).cell? ⟨w7.heap.size, 0, none⟩ = some (.int .i64 e2) := Blk.cell J2 (i := 0) (by simp)
        have k1 : (w7.alloc (.cells #[.int .i64 e2, .int .i64 h2, .int .i64 r2, .int .i64 er2, .int .i64 i2, .int .i64 wr2] 26)).cell? ⟨w7.heap.size, 1, none⟩ = some (.int .i64 h2) := Blk.cell J2 (i := 1) (by simp)
        have k2 : (w7.alloc (.cells #[.int .i64 e2, .int .i64 h2, .int .i64 r2, .int .i64 er2, .int .i64 i2, .int .i64 wr2] 26)).cell? ⟨w7.heap.size, 2, none⟩ = some (.int .i64 r2) := Blk.cell J2 (i := 2) (by simp)
        have k3 : (w7.alloc (.cells #[.int .i64 e2, .int .i64 h2, .int .i64 r2, .int .i64 er2, .int .i64 i2, .int .i64 wr2] 26)).cell? ⟨w7.heap.size, 3, none⟩ = some (.int .i64 er2) := Blk.cell J2 (i := 3) (by simp)
        have k4 : (w7.alloc (.cells #[.int .i64 e2, .int .i64 h2, .int .i64 r2, .int .i64 er2, .int .i64 i2, .int .i64 wr2] 26)).cell? ⟨w7.heap.size, 4, none⟩ = some (.int .i64 i2) := Blk.cell J2 (i := 4) (by simp)
        have k5 : (w7.alloc (.cells #[.int .i64 e2, .int .i64 h2, .int .i64 r2, .int .i64 er2, .int .i64 i2, .int .i64 wr2] 26)).cell? ⟨w7.heap.size, 5, none⟩ = some (.int .i64 wr2) := Blk.cell J2 (i := 5) (by simp)
        clear J2 b6 d7 z6 z7 b7
        go_wp2_with fail
        have b8 := A7.out
        have z8 := Z7.out
        clear A7 Z7 k0 k1 k2 k3 k4 k5
        generalize w7.alloc _ = w8 at *
        refine (lives13_any w8).mono ?_
        rintro en w11 ⟨rfl, d11⟩
        go_wp2_with fail
        go_ret
        exact ⟨rfl, below_trans b8 d11 b8.size⟩
    · skip
      simp only [hb, if_false] at ht
      have HT := hid ht
      clear hb rhd ht rh
      by_cases hq : rsE zs = 0
      · skip
        obtain ⟨e2, h2, r2, er2, i2, wr2, v1, v2, v3⟩ := pr hq
        have pz := fun w1 => putS_any e2 h2 r2 er2 i2 wr2 w1
        rw [v1, hq] at rz
        simp only [v2, v3, if_true] at pz
        unfold slotV at pz
        have PZ := hid pz; have RZ := hid rz
        clear hq pr v1 v2 v3 pz rz rv hz64
        go_enter Try.func6, Try.ntmps6
        have K0 : Blk (w.alloc (.cells #[.int .i64 e, .int .i64 h, .int .i64 r, .int .i64 er, .int .i64 i, .int .i64 wr] 26)) w.heap.size 26 [.int .i64 e, .int .i64 h, .int .i64 r, .int .i64 er, .int .i64 i, .int .i64 wr] := heap_alloc_new w _
        have A0 := (Below.refl w.heap.size w).alloc (Nat.le_refl _) (.cells #[.int .i64 e, .int .i64 h, .int .i64 r, .int .i64 er, .int .i64 i, .int .i64 wr] 26)
        go_wp2_with fail
        generalize w.alloc _ = u0 at *
        refine (PT.out u0).mono ?_
        rintro en w1 ⟨a1, c1, rfl, o1, d1⟩
        have K1 := Blk.mono K0 d1
        have b1 := below_trans A0 d1 A0.size
        have z1 := o1.row
        clear K0 A0 d1 o1
        clear K1 z1
        go_wp2_with fail
        refine (HT.out w1).mono ?_
        rintro en w4 ⟨a4, c4, rfl, o4, d4⟩
        have b4 := below_trans b1 d4 b1.size
        have z4 := o4.row
        clear d4 o4 b1
        go_wp2_with fail
        refine (HS.out w4 (ha.mono b4)).mono ?_
        rintro en w6 ⟨a6, c6, rfl, o6, d6⟩
        have b6 := below_trans b4 d6 b4.size
        have z6 := o6.row
        clear d6 o6 b4
        go_wp2_with fail
        refine (RZ.out a6 c6 w6 z6).mono ?_
        rintro en w7 ⟨rfl, d7⟩
        have b7 := below_trans b6 d7 b6.size
        have z7 := Row.mono z6 d7
        have J2 : Blk (w7.alloc (.cells #[.int .i64 e2, .int .i64 h2, .int .i64 r2, .int .i64 er2, .int .i64 i2, .int .i64 wr2] 26)) w7.heap.size 26 [.int .i64 e2, .int .i64 h2, .int .i64 r2, .int .i64 er2, .int .i64 i2, .int .i64 wr2] := heap_alloc_new w7 _
        have A7 := hid (b7.alloc b7.size (.cells #[.int .i64 e2, .int .i64 h2, .int .i64 r2, .int .i64 er2, .int .i64 i2, .int .i64 wr2] 26))
        have Z7 := hid (Row.alloc z7 (.cells #[.int .i64 e2, .int .i64 h2, .int .i64 r2, .int .i64 er2, .int .i64 i2, .int .i64 wr2] 26))
        have k0 : (w7.alloc (.cells #[.int .i64 e2, .int .i64 h2, .int .i64 r2, .int .i64 er2, .int .i64 i2, .int .i64 wr2] 26)).cell? ⟨w7.heap.size, 0, none⟩ = some (.int .i64 e2) := Blk.cell J2 (i := 0) (by simp)
        have k1 : (w7.alloc (.cells #[.int .i64 e2, .int .i64 h2, .int .i64 r2, .int .i64 er2, .int .i64 i2, .int .i64 wr2] 26)).cell? ⟨w7.heap.size, 1, none⟩ = some (.int .i64 h2) := Blk.cell J2 (i := 1) (by simp)
        have k2 : (w7.alloc (.cells #[.int .i64 e2, .int .i64 h2, .int .i64 r2, .int .i64 er2, .int .i64 i2, .int .i64 wr2] 26)).cell? ⟨w7.heap.size, 2, none⟩ = some (.int .i64 r2) := Blk.cell J2 (i := 2) (by simp)
        have k3 : (w7.alloc (.cells #[.int .i64 e2, .int .i64 h2, .int .i64 r2, .int .i64 er2, .int .i64 i2, .int .i64 wr2] 26)).cell? ⟨w7.heap.size, 3, none⟩ = some (.int .i64 er2) := Blk.cell J2 (i := 3) (by simp)
        have k4 : (w7.alloc (.cells #[.int .i64 e2, .int .i64 h2, .int .i64 r2, .int .i64 er2, .int .i64 i2, .int .i64 wr2] 26)).cell? ⟨w7.heap.size, 4, none⟩ = some (.int .i64 i2) := Blk.cell J2 (i := 4) (by simp)
        have k5 : (w7.alloc (.cells #[.int .i64 e2, .int .i64 h2, .int .i64 r2, .int .i64 er2, .int .i64 i2, .int .i64 wr2] 26)).cell? ⟨w7.heap.size, 5, none⟩ = some (.int .i64 wr2) := Blk.cell J2 (i := 5) (by simp)
        clear J2 b6 d7 z6 z7 b7
        go_wp2_with fail
        have b8 := A7.out
        have z8 := Z7.out
        clear A7 Z7 k0 k1 k2 k3 k4 k5
        generalize w7.alloc _ = w8 at *
        refine (PZ.out w8).mono ?_
        rintro en w9 ⟨a9, c9, rfl, o9, d9⟩
        have b9 := below_trans b8 d9 b8.size
        have z9 := Row.mono z8 d9
        have y9 := o9.row
        clear b8 z8 d9 o9
        go_wp2_with fail
        refine (SM.out a9 a6 c9 c6 w9 y9 z9).mono ?_
        rintro en w10 ⟨rfl, d10⟩
        have b10 := below_trans b9 d10 b9.size
        clear b9 y9 z9 d10
        go_wp2_with fail
        refine (lives13_any w10).mono ?_
        rintro en w11 ⟨rfl, d11⟩
        go_wp2_with fail
        go_ret
        exact ⟨rfl, below_trans b10 d11 b10.size⟩
      · skip
        obtain ⟨e2, h2, r2, er2, i2, wr2, v1⟩ := rv
        rw [v1] at rz

        have RZ := hid rz
        clear pr v1 rz hz64
        generalize rsE zs = q2 at *
        go_enter Try.func6, Try.ntmps6
        have K0 : Blk (w.alloc (.cells #[.int .i64 e, .int .i64 h, .int .i64 r, .int .i64 er, .int .i64 i, .int .i64 wr] 26)) w.heap.size 26 [.int .i64 e, .int .i64 h, .int .i64 r, .int .i64 er, .int .i64 i, .int .i64 wr] := heap_alloc_new w _
        have A0 := (Below.refl w.heap.size w).alloc (Nat.le_refl _) (.cells #[.int .i64 e, .int .i64 h, .int .i64 r, .int .i64 er, .int .i64 i, .int .i64 wr] 26)
        go_wp2_with fail
        generalize w.alloc _ = u0 at *
        refine (PT.out u0).mono ?_
        rintro en w1 ⟨a1, c1, rfl, o1, d1⟩
        have K1 := Blk.mono K0 d1
        have b1 := below_trans A0 d1 A0.size
        have z1 := o1.row
        clear K0 A0 d1 o1
        clear K1 z1
        go_wp2_with fail
        refine (HT.out w1).mono ?_
        rintro en w4 ⟨a4, c4, rfl, o4, d4⟩
        have b4 := below_trans b1 d4 b1.size
        have z4 := o4.row
        clear d4 o4 b1
        go_wp2_with fail
        refine (HS.out w4 (ha.mono b4)).mono ?_
        rintro en w6 ⟨a6, c6, rfl, o6, d6⟩
        have b6 := below_trans b4 d6 b4.size
        have z6 := o6.row
        clear d6 o6 b4
        go_wp2_with fail
        refine (RZ.out a6 c6 w6 z6).mono ?_
        rintro en w7 ⟨rfl, d7⟩
        have b7 := below_trans b6 d7 b6.size
        have z7 := Row.mono z6 d7
        have J2 : Blk (w7.alloc (.cells #[.int .i64 e2, .int .i64 h2, .int .i64 r2, .int .i64 er2, .int .i64 i2, .int .i64 wr2] 26)) w7.heap.size 26 [.int .i64 e2, .int .i64 h2, .int .i64 r2, .int .i64 er2, .int .i64 i2, .int .i64 wr2] := heap_alloc_new w7 _
        have A7 := hid (b7.alloc b7.size (.cells #[.int .i64 e2, .int .i64 h2, .int .i64 r2, .int .i64 er2, .int .i64 i2, .int .i64 wr2] 26))
        have Z7 := hid (Row.alloc z7 (.cells #[.int .i64 e2, .int .i64 h2, .int .i64 r2, .int .i64 er2, .int .i64 i2, .int .i64 wr2] 26))
        have k0 : (w7.alloc (.cells #[.int .i64 e2, .int .i64 h2, .int .i64 r2, .int .i64 er2, .int .i64 i2, .int .i64 wr2] 26)).cell? ⟨w7.heap.size, 0, none⟩ = some (.int .i64 e2) := Blk.cell J2 (i := 0) (by simp)
        have k1 : (w7.alloc (.cells #[.int .i64 e2, .int .i64 h2, .int .i64 r2, .int .i64 er2, .int .i64 i2, .int .i64 wr2] 26)).cell? ⟨w7.heap.size, 1, none⟩ = some (.int .i64 h2) := Blk.cell J2 (i := 1) (by simp)
        have k2 : (w7.alloc (.cells #[.int .i64 e2, .int .i64 h2, .int .i64 r2, .int .i64 er2, .int .i64 i2, .int .i64 wr2] 26)).cell? ⟨w7.heap.size, 2, none⟩ = some (.int .i64 r2) := Blk.cell J2 (i := 2) (by simp)
        have k3 : (w7.alloc (.cells #[.int .i64 e2, .int .i64 h2, .int .i64 r2, .int .i64 er2, .int .i64 i2, .int .i64 wr2] 26)).cell? ⟨w7.heap.size, 3, none⟩ = some (.int .i64 er2) := Blk.cell J2 (i := 3) (by simp)
        have k4 : (w7.alloc (.cells #[.int .i64 e2, .int .i64 h2, .int .i64 r2, .int .i64 er2, .int .i64 i2, .int .i64 wr2] 26)).cell? ⟨w7.heap.size, 4, none⟩ = some (.int .i64 i2) := Blk.cell J2 (i := 4) (by simp)
        have k5 : (w7.alloc (.cells #[.int .i64 e2, .int .i64 h2, .int .i64 r2, .int .i64 er2, .int .i64 i2, .int .i64 wr2] 26)).cell? ⟨w7.heap.size, 5, none⟩ = some (.int .i64 wr2) := Blk.cell J2 (i := 5) (by simp)
        clear J2 b6 d7 z6 z7 b7
        go_wp2_with fail
        have b8 := A7.out
        have z8 := Z7.out
        clear A7 Z7 k0 k1 k2 k3 k4 k5
        generalize w7.alloc _ = w8 at *
        refine (lives13_any w8).mono ?_
        rintro en w11 ⟨rfl, d11⟩
        go_wp2_with fail
        go_ret
        exact ⟨rfl, below_trans b8 d11 b8.size⟩

end Go.Proofs.Ytpkmkmkknhnihaa
