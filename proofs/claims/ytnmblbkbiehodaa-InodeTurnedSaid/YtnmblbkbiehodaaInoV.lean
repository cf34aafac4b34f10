import Derived.Test.YtnmblbkbiehodaaInoU
namespace Go.Proofs.Ytnmblbkbiehodaa
open Go.RowKit Go.WideShapes
set_option linter.unusedSimpArgs false
set_option linter.unusedVariables false

/-- the first sixty bytes and their sum; the same, if there are fewer -/
def sealF11 (xs : List UInt8) : List UInt8 := if xs.length < 60 then xs else putF (xs.take 60) (crcF (xs.take 60) : Nat) 4
def RowA (w : World) (xs : List UInt8) (e : Ending) (w' : World) : Prop := ∃ a c, e = .returned (.slice a xs.length c) ∧ RowB w' a c xs ∧ Below w.heap.size w w'

set_option maxHeartbeats 2000000 in
theorem sealed11_any (a : Option Addr) (c : Nat) (xs : List UInt8) (w : World) (ha : RowB w a c xs) :
    Calls Try.prog 16 #[.slice a xs.length c] w (RowA w (sealF11 xs)) := by
  have hcap : xs.length ≤ c := ha.2.1
  have hl := rowB_len ha
  by_cases h : xs.length < 60
  · have e : sealF11 xs = xs := by unfold sealF11; rw [if_pos h]
    rw [e]
    have d1 : decide ((xs.length : Int) < 60) = true := decide_eq_true (by omega)
    clear e h
    go_enter Try.func16, Try.ntmps16
    go_wp2_with fail
    go_ret
    exact ⟨a, c, rfl, ha, Below.refl _ _⟩
  · have e : sealF11 xs = putF (xs.take 60) (crcF (xs.take 60) : Nat) 4 := by unfold sealF11; rw [if_neg h]
    rw [e]
    have d1 : decide ((xs.length : Int) < 60) = false := decide_eq_false (by omega)
    have r0 := rowB_take ha 60
    have hl60 : (xs.take 60).length = 60 := by simp; omega
    have hcl := crcF_lt (xs.take 60)
    have HSum := fun w1 r1 => sumRef_any a c (xs.take 60) w1 r1
    have HPut := fun w1 r1 => putRef_any a c (xs.take 60) (crcF (xs.take 60) : Nat) 4 w1 r1 (by omega) (by omega)
    rw [hl60] at HSum HPut
    have HR := hid (fun w1 (hb : Below w.heap.size w w1) => Row.mono r0 hb)
    have HSum := hid HSum; have HPut := hid HPut
    have hc60 : 60 ≤ c := by omega
    have hc60i : (60 : Int) ≤ (c : Int) := by omega
    have hS0 : Below w.heap.size w w.drew := (Below.refl _ _).drew
    clear e h ha r0 hl60
    go_enter Try.func16, Try.ntmps16
    go_wp2_with fail
    refine wp_region_held_drew (S := fun w' => Below w.heap.size w w') (by kernel_rfl) hS0 (fun hS_0 => ?_)
    refine takeR (i := 0) (v := .slice a xs.length c) rfl rfl (by kernel_rfl) (by kernel_rfl) (by kernel_rfl) (fun _ _ _ h => h) (Or.inl ⟨Eq.refl true, fun w1 hSw => ?_⟩) hS_0 ?_
    · first | rfl | (clear hSw; go_simp; done) | (clear hSw; go_simp; rfl)
    (try simp only [Act.put, List.setIfInBounds_toArray, List.set_cons_zero, List.set_cons_succ])
    refine takeR (i := 1) (v := .slice a 60 c) rfl rfl (by kernel_rfl) (by kernel_rfl) (by kernel_rfl) (fun _ _ _ h => h) (Or.inl ⟨Eq.refl true, fun w1 hSw => ?_⟩) hS_0 ?_
    · first | rfl | (clear hSw; go_simp; done) | (clear hSw; go_simp; rfl)
    (try simp only [Act.put, List.setIfInBounds_toArray, List.set_cons_zero, List.set_cons_succ])
    refine takeR (i := 2) (v := .slice a xs.length c) rfl rfl (by kernel_rfl) (by kernel_rfl) (by kernel_rfl) (fun _ _ _ h => h) (Or.inl ⟨Eq.refl true, fun w1 hSw => ?_⟩) hS_0 ?_
    · first | rfl | (clear hSw; go_simp; done) | (clear hSw; go_simp; rfl)
    (try simp only [Act.put, List.setIfInBounds_toArray, List.set_cons_zero, List.set_cons_succ])
    refine takeR (i := 3) (v := .slice a 60 c) rfl rfl (by kernel_rfl) (by kernel_rfl) (by kernel_rfl) (fun _ _ _ h => h) (Or.inl ⟨Eq.refl true, fun w1 hSw => ?_⟩) hS_0 ?_
    · first | rfl | (clear hSw; go_simp; done) | (clear hSw; go_simp; rfl)
    (try simp only [Act.put, List.setIfInBounds_toArray, List.set_cons_zero, List.set_cons_succ])
    refine wpAnyH_ready (rs := [4]) (by kernel_rfl) (by simp) (AllReadyH.cons rfl (fun K hK => ?_) AllReadyH.nil)
    go_simp
    go_wp2_with (go_at_call 24; refine (HSum.out _ (HR.out _ hS_0)).mono ?_; rintro e w5 ⟨rfl, rfl⟩)
    refine hK.out _ _ ?_ (fun hS_1 => ?_)
    · exact kept_trans hS_0 (Below.refl _ _)
    clear hK K
    refine wpAnyH_ready (rs := [5]) (by kernel_rfl) (by simp) (AllReadyH.cons rfl (fun K hK => ?_) AllReadyH.nil)
    go_simp
    go_wp2_with (go_at_call 23; refine (HPut.out _ (HR.out _ hS_1)).mono ?_; rintro e w6 ⟨a6, c6, rfl, o6, b6⟩; have R6 := hid o6.row)
    refine hK.out _ _ ?_ (fun hS_2 => ?_)
    · exact kept_trans hS_1 b6
    clear hK K
    refine takeR (i := 6) (v := .slice a6 (putF (xs.take 60) (crcF (xs.take 60) : Nat) 4).length c6) rfl rfl (by kernel_rfl) (by kernel_rfl) (by kernel_rfl) (fun _ _ _ h => h) (Or.inl ⟨Eq.refl true, fun w1 hSw => ?_⟩) hS_2 ?_
    · first | rfl | (clear hSw; go_simp; done) | (clear hSw; go_simp; rfl)
    (try simp only [Act.put, List.setIfInBounds_toArray, List.set_cons_zero, List.set_cons_succ])
    refine wpAnyH_done (by kernel_rfl) ?_ _
    go_wp2_with fail
    go_ret
    exact ⟨a6, c6, rfl, R6.out, hS_2⟩

theorem wpl_loadGI {w : World} {ops : Array Oper} {rest : List Oper} {o : Oper} {act : Act} {Q : Exit → Act → World → Prop} (hw : Region.wanted o (yielded ops act.tmps) = true) (x : Operand)
    (ho : o.op = .load 25 x) (g : Nat) (hx : act.eval x = .pointer (some ⟨g, 0, none⟩)) {e : TypeId} (i : InoT) (hb : Blk w g e (inoC i))
    (h : wpList Try.prog ops Q rest (act.put o.dst (.agg (inoC i).toArray)) w) : wpList Try.prog ops Q (o :: rest) act w :=
  wpList_step fun K hK => by
    rw [if_pos hw]
    exact wp_load_mid 25 x ho g 0 hx (inoC i) _ hb.range Try.underlying25 rfl (by rw [infoIno]; rfl) (hK _ _ h)
theorem eqInoV (i j : InoT) (w : World) : (Op.equalIn 10000 25 (.agg (inoC i).toArray) (.agg (inoC j).toArray)).run Try.prog w = .ok (decide (inoL i = inoL j)) w :=
  eqIno i.k i.l i.s i.b0 i.b1 i.b2 i.b3 i.o0 i.o1 i.o2 i.o3 i.o4 i.o5 i.o6 i.o7 j.k j.l j.s j.b0 j.b1 j.b2 j.b3 j.o0 j.o1 j.o2 j.o3 j.o4 j.o5 j.o6 j.o7 w
theorem eqInoR (i : InoT) (w : World) : (Op.equalIn 10000 25 (.agg (inoC i).toArray) (.agg (inoC i).toArray)).run Try.prog w = .ok true w := by
  have h := eqInoV i i w
  rwa [decide_eq_true rfl] at h

set_option maxHeartbeats 4000000 in
theorem readsB (w : World) (a : Option Addr) (c n : Nat) (ys : List UInt8) (ry : RowB w a c ys) :
    (∀ w1, Below w.heap.size w w1 → Calls Try.prog 14 #[.slice a ys.length c] w1 fun e w' => e = .returned (.tuple #[.agg (inoC (rdI ys)).toArray, .int .i64 (rdE ys)]) ∧ Below w1.heap.size w1 w') ∧
    (∀ w1, Below w.heap.size w w1 → Calls Try.prog 15 #[.slice a ys.length c] w1 fun e w' => e = .returned (.tuple #[.agg (inoC (rdI ys)).toArray, .int .i64 (rdE ys)]) ∧ Below w1.heap.size w1 w') :=
  ⟨fun w1 hb => readIno_any a c ys w1 (Row.mono ry hb), fun w1 hb => readInoRef_any a c ys w1 (Row.mono ry hb)⟩

set_option maxHeartbeats 4000000 in
set_option maxRecDepth 100000 in
theorem InodeReads_walk (w : World) (a : Option Addr) (c : Nat) (xs : List UInt8) (ha : RowB w a c xs) :
    Calls Try.prog 4 #[.slice a xs.length c] w fun e w' => e = .returned (.bool true) ∧ Below w.heap.size w w' := by
  have hl := rowB_len ha
  have hcap : xs.length ≤ c := ha.2.1
  have ry := rowB_take ha 100
  have go : ∀ (m : Nat) (big : Bool), m = (xs.take 100).length → ((100 : Int) < (xs.length : Int)) = big → (big = false → m = xs.length) → (big = true → m = 100 ∧ 100 ≤ c) →
      Calls Try.prog 4 #[.slice a xs.length c] w fun e w' => e = .returned (.bool true) ∧ Below w.heap.size w w' := by
    intro m big hm hbig hf ht
    clear ha
    generalize xs.take 100 = ys at *
    have q1 := readIno_any a c ys
    have HR1 := hid (fun w1 (hb : Below w.heap.size w w1) => readIno_any a c ys w1 (Row.mono ry hb))
    have HR2 := hid (fun w1 (hb : Below w.heap.size w w1) => readInoRef_any a c ys w1 (Row.mono ry hb))
    have HS := hid (fun w1 (hb : Below w.heap.size w w1) => sealed11_any a c ys w1 (Row.mono ry hb))
    have HQ1 := hid (fun a' c' w1 (r1 : RowB w1 a' c' (sealF11 ys)) => readIno_any a' c' (sealF11 ys) w1 r1)
    have HQ2 := hid (fun a' c' w1 (r1 : RowB w1 a' c' (sealF11 ys)) => readInoRef_any a' c' (sealF11 ys) w1 r1)
    clear q1
    unfold RowA inoV at *
    generalize sealF11 ys = zs at *
    rw [← hm] at HR1 HR2 HS
    generalize rdI ys = i1 at *
    generalize rdE ys = e1 at *
    generalize rdI zs = i2 at *
    generalize rdE zs = e2 at *
    clear ry hm
    have E1 := eqInoR i1
    have E2 := eqInoR i2
    have hB0 : Below w.heap.size w w := Below.refl _ _
    have HB := hid hB0
    clear hB0
    cases big
    · obtain rfl := hf rfl
      have d100 : decide ((100 : Int) < (xs.length : Int)) = false := by simpa using hbig
      clear hbig hf ht
      go_enter Try.func4, Try.ntmps4
      go_wp2_with fail
      refine (HR1.out _ HB.out).mono ?_
      rintro e w1 ⟨rfl, b1⟩
      have HBr1 := hid (kept_trans HB.out b1)
      clear b1
      go_wp2_with ((with_reducible refine wpl_storeI rfl _ _ rfl w1.heap.size rfl i1 rfl rfl (allocI w1) ?_); intro v1 k1 g1; have J1 := hid k1; have G1 := hid g1; clear k1 g1)
      have HBv1 := hid (below_grownS (HBr1.out.alloc HBr1.out.size (.cells #[.int .i64 0, .int .i64 0, .int .i64 0, .int .i64 0, .int .i64 0, .int .i64 0, .int .i64 0, .int .i64 0, .int .i64 0, .int .i64 0, .int .i64 0, .int .i64 0, .int .i64 0, .int .i64 0, .int .i64 0] 25)) G1.out HBr1.out.size (Nat.le_trans HBr1.out.size (belowA w1 (.cells #[.int .i64 0, .int .i64 0, .int .i64 0, .int .i64 0, .int .i64 0, .int .i64 0, .int .i64 0, .int .i64 0, .int .i64 0, .int .i64 0, .int .i64 0, .int .i64 0, .int .i64 0, .int .i64 0, .int .i64 0] 25)).size))
      have K1v1 := hid J1.out
      refine (HR2.out _ HBv1.out).mono ?_
      rintro e w2 ⟨rfl, b2⟩
      have HBr2 := hid (kept_trans HBv1.out b2)
      have K1r2 := hid (K1v1.out.mono b2)
      clear b2
      go_wp2_with ((with_reducible refine wpl_storeI rfl _ _ rfl w2.heap.size rfl i1 rfl rfl (allocI w2) ?_); intro v2 k2 g2; have J2 := hid k2; have G2 := hid g2; clear k2 g2)
      have HBv2 := hid (below_grownS (HBr2.out.alloc HBr2.out.size (.cells #[.int .i64 0, .int .i64 0, .int .i64 0, .int .i64 0, .int .i64 0, .int .i64 0, .int .i64 0, .int .i64 0, .int .i64 0, .int .i64 0, .int .i64 0, .int .i64 0, .int .i64 0, .int .i64 0, .int .i64 0] 25)) G2.out HBr2.out.size (Nat.le_trans HBr2.out.size (belowA w2 (.cells #[.int .i64 0, .int .i64 0, .int .i64 0, .int .i64 0, .int .i64 0, .int .i64 0, .int .i64 0, .int .i64 0, .int .i64 0, .int .i64 0, .int .i64 0, .int .i64 0, .int .i64 0, .int .i64 0, .int .i64 0] 25)).size))
      have K1v2 := hid ((K1r2.out.mono (belowA w2 (.cells #[.int .i64 0, .int .i64 0, .int .i64 0, .int .i64 0, .int .i64 0, .int .i64 0, .int .i64 0, .int .i64 0, .int .i64 0, .int .i64 0, .int .i64 0, .int .i64 0, .int .i64 0, .int .i64 0, .int .i64 0] 25))).grownS G2.out (Nat.ne_of_lt K1r2.out.lt))
      have K2v2 := hid J2.out
      refine (HS.out _ HBv2.out).mono ?_
      rintro e s3 ⟨p3, q3, rfl, R3, b3⟩
      have HBs3 := hid (kept_trans HBv2.out b3)
      have K1s3 := hid (K1v2.out.mono b3)
      have K2s3 := hid (K2v2.out.mono b3)
      have RR3 := hid R3
      clear b3 R3
      go_wp2_with fail
      refine (HQ1.out p3 q3 s3 RR3.out).mono ?_
      rintro e w3 ⟨rfl, b3⟩
      have HBr3 := hid (kept_trans HBs3.out b3)
      have K1r3 := hid (K1s3.out.mono b3)
      have K2r3 := hid (K2s3.out.mono b3)
      clear b3
      go_wp2_with ((with_reducible refine wpl_storeI rfl _ _ rfl w3.heap.size rfl i2 rfl rfl (allocI w3) ?_); intro v3 k3 g3; have J3 := hid k3; have G3 := hid g3; clear k3 g3)
      have HBv3 := hid (below_grownS (HBr3.out.alloc HBr3.out.size (.cells #[.int .i64 0, .int .i64 0, .int .i64 0, .int .i64 0, .int .i64 0, .int .i64 0, .int .i64 0, .int .i64 0, .int .i64 0, .int .i64 0, .int .i64 0, .int .i64 0, .int .i64 0, .int .i64 0, .int .i64 0] 25)) G3.out HBr3.out.size (Nat.le_trans HBr3.out.size (belowA w3 (.cells #[.int .i64 0, .int .i64 0, .int .i64 0, .int .i64 0, .int .i64 0, .int .i64 0, .int .i64 0, .int .i64 0, .int .i64 0, .int .i64 0, .int .i64 0, .int .i64 0, .int .i64 0, .int .i64 0, .int .i64 0] 25)).size))
      have K1v3 := hid ((K1r3.out.mono (belowA w3 (.cells #[.int .i64 0, .int .i64 0, .int .i64 0, .int .i64 0, .int .i64 0, .int .i64 0, .int .i64 0, .int .i64 0, .int .i64 0, .int .i64 0, .int .i64 0, .int .i64 0, .int .i64 0, .int .i64 0, .int .i64 0] 25))).grownS G3.out (Nat.ne_of_lt K1r3.out.lt))
      have K2v3 := hid ((K2r3.out.mono (belowA w3 (.cells #[.int .i64 0, .int .i64 0, .int .i64 0, .int .i64 0, .int .i64 0, .int .i64 0, .int .i64 0, .int .i64 0, .int .i64 0, .int .i64 0, .int .i64 0, .int .i64 0, .int .i64 0, .int .i64 0, .int .i64 0] 25))).grownS G3.out (Nat.ne_of_lt K2r3.out.lt))
      have K3v3 := hid J3.out
      refine (HS.out _ HBv3.out).mono ?_
      rintro e s4 ⟨p4, q4, rfl, R4, b4⟩
      have HBs4 := hid (kept_trans HBv3.out b4)
      have K1s4 := hid (K1v3.out.mono b4)
      have K2s4 := hid (K2v3.out.mono b4)
      have K3s4 := hid (K3v3.out.mono b4)
      have RR4 := hid R4
      clear b4 R4
      go_wp2_with fail
      refine (HQ2.out p4 q4 s4 RR4.out).mono ?_
      rintro e w4 ⟨rfl, b4⟩
      have HBr4 := hid (kept_trans HBs4.out b4)
      have K1r4 := hid (K1s4.out.mono b4)
      have K2r4 := hid (K2s4.out.mono b4)
      have K3r4 := hid (K3s4.out.mono b4)
      clear b4
      go_wp2_with (first
        | ((with_reducible refine wpl_storeI rfl _ _ rfl w4.heap.size rfl i2 rfl rfl (allocI w4) ?_); intro v4 k4 g4; have K4v4 := hid k4; have HBv4 := hid (below_grownS (HBr4.out.alloc HBr4.out.size (.cells #[.int .i64 0, .int .i64 0, .int .i64 0, .int .i64 0, .int .i64 0, .int .i64 0, .int .i64 0, .int .i64 0, .int .i64 0, .int .i64 0, .int .i64 0, .int .i64 0, .int .i64 0, .int .i64 0, .int .i64 0] 25)) g4 HBr4.out.size (Nat.le_trans HBr4.out.size (belowA w4 (.cells #[.int .i64 0, .int .i64 0, .int .i64 0, .int .i64 0, .int .i64 0, .int .i64 0, .int .i64 0, .int .i64 0, .int .i64 0, .int .i64 0, .int .i64 0, .int .i64 0, .int .i64 0, .int .i64 0, .int .i64 0] 25)).size)); have K1v4 := hid ((K1r4.out.mono (belowA w4 (.cells #[.int .i64 0, .int .i64 0, .int .i64 0, .int .i64 0, .int .i64 0, .int .i64 0, .int .i64 0, .int .i64 0, .int .i64 0, .int .i64 0, .int .i64 0, .int .i64 0, .int .i64 0, .int .i64 0, .int .i64 0] 25))).grownS g4 (Nat.ne_of_lt K1r4.out.lt)); have K2v4 := hid ((K2r4.out.mono (belowA w4 (.cells #[.int .i64 0, .int .i64 0, .int .i64 0, .int .i64 0, .int .i64 0, .int .i64 0, .int .i64 0, .int .i64 0, .int .i64 0, .int .i64 0, .int .i64 0, .int .i64 0, .int .i64 0, .int .i64 0, .int .i64 0] 25))).grownS g4 (Nat.ne_of_lt K2r4.out.lt)); have K3v4 := hid ((K3r4.out.mono (belowA w4 (.cells #[.int .i64 0, .int .i64 0, .int .i64 0, .int .i64 0, .int .i64 0, .int .i64 0, .int .i64 0, .int .i64 0, .int .i64 0, .int .i64 0, .int .i64 0, .int .i64 0, .int .i64 0, .int .i64 0, .int .i64 0] 25))).grownS g4 (Nat.ne_of_lt K3r4.out.lt)); clear k4 g4)
        | (with_reducible refine wpl_loadI rfl _ rfl w1.heap.size rfl i1 K1v4.out ?_)
        | (with_reducible refine wpl_loadI rfl _ rfl w2.heap.size rfl i1 K2v4.out ?_)
        | (with_reducible refine wpl_loadGI (by kernel_rfl) _ rfl w3.heap.size rfl i2 K3v4.out ?_)
        | (with_reducible refine wpl_loadGI (by kernel_rfl) _ rfl w4.heap.size rfl i2 K4v4.out ?_)
        | (go_at_call 13; refine (lives11_any _).mono ?_; rintro e w9 ⟨rfl, b9⟩; have HB9 := hid (kept_trans HBv4.out b9); clear b9))
      go_ret
      exact ⟨rfl, HB9.out⟩
    · obtain ⟨rfl, hc100⟩ := ht rfl
      have d100 : decide ((100 : Int) < (xs.length : Int)) = true := by simpa using hbig
      have i100 : (100 : Int) < (xs.length : Int) := by simpa using hbig
      have hc100i : (100 : Int) ≤ (c : Int) := by omega
      clear hbig hf ht
      go_enter Try.func4, Try.ntmps4
      go_wp2_with fail
      refine (HR1.out _ HB.out).mono ?_
      rintro e w1 ⟨rfl, b1⟩
      have HBr1 := hid (kept_trans HB.out b1)
      clear b1
      go_wp2_with ((with_reducible refine wpl_storeI rfl _ _ rfl w1.heap.size rfl i1 rfl rfl (allocI w1) ?_); intro v1 k1 g1; have J1 := hid k1; have G1 := hid g1; clear k1 g1)
      have HBv1 := hid (below_grownS (HBr1.out.alloc HBr1.out.size (.cells #[.int .i64 0, .int .i64 0, .int .i64 0, .int .i64 0, .int .i64 0, .int .i64 0, .int .i64 0, .int .i64 0, .int .i64 0, .int .i64 0, .int .i64 0, .int .i64 0, .int .i64 0, .int .i64 0, .int .i64 0] 25)) G1.out HBr1.out.size (Nat.le_trans HBr1.out.size (belowA w1 (.cells #[.int .i64 0, .int .i64 0, .int .i64 0, .int .i64 0, .int .i64 0, .int .i64 0, .int .i64 0, .int .i64 0, .int .i64 0, .int .i64 0, .int .i64 0, .int .i64 0, .int .i64 0, .int .i64 0, .int .i64 0] 25)).size))
      have K1v1 := hid J1.out
      refine (HR2.out _ HBv1.out).mono ?_
      rintro e w2 ⟨rfl, b2⟩
      have HBr2 := hid (kept_trans HBv1.out b2)
      have K1r2 := hid (K1v1.out.mono b2)
      clear b2
      go_wp2_with ((with_reducible refine wpl_storeI rfl _ _ rfl w2.heap.size rfl i1 rfl rfl (allocI w2) ?_); intro v2 k2 g2; have J2 := hid k2; have G2 := hid g2; clear k2 g2)
      have HBv2 := hid (below_grownS (HBr2.out.alloc HBr2.out.size (.cells #[.int .i64 0, .int .i64 0, .int .i64 0, .int .i64 0, .int .i64 0, .int .i64 0, .int .i64 0, .int .i64 0, .int .i64 0, .int .i64 0, .int .i64 0, .int .i64 0, .int .i64 0, .int .i64 0, .int .i64 0] 25)) G2.out HBr2.out.size (Nat.le_trans HBr2.out.size (belowA w2 (.cells #[.int .i64 0, .int .i64 0, .int .i64 0, .int .i64 0, .int .i64 0, .int .i64 0, .int .i64 0, .int .i64 0, .int .i64 0, .int .i64 0, .int .i64 0, .int .i64 0, .int .i64 0, .int .i64 0, .int .i64 0] 25)).size))
      have K1v2 := hid ((K1r2.out.mono (belowA w2 (.cells #[.int .i64 0, .int .i64 0, .int .i64 0, .int .i64 0, .int .i64 0, .int .i64 0, .int .i64 0, .int .i64 0, .int .i64 0, .int .i64 0, .int .i64 0, .int .i64 0, .int .i64 0, .int .i64 0, .int .i64 0] 25))).grownS G2.out (Nat.ne_of_lt K1r2.out.lt))
      have K2v2 := hid J2.out
      refine (HS.out _ HBv2.out).mono ?_
      rintro e s3 ⟨p3, q3, rfl, R3, b3⟩
      have HBs3 := hid (kept_trans HBv2.out b3)
      have K1s3 := hid (K1v2.out.mono b3)
      have K2s3 := hid (K2v2.out.mono b3)
      have RR3 := hid R3
      clear b3 R3
      go_wp2_with fail
      refine (HQ1.out p3 q3 s3 RR3.out).mono ?_
      rintro e w3 ⟨rfl, b3⟩
      have HBr3 := hid (kept_trans HBs3.out b3)
      have K1r3 := hid (K1s3.out.mono b3)
      have K2r3 := hid (K2s3.out.mono b3)
      clear b3
      go_wp2_with ((with_reducible refine wpl_storeI rfl _ _ rfl w3.heap.size rfl i2 rfl rfl (allocI w3) ?_); intro v3 k3 g3; have J3 := hid k3; have G3 := hid g3; clear k3 g3)
      have HBv3 := hid (below_grownS (HBr3.out.alloc HBr3.out.size (.cells #[.int .i64 0, .int .i64 0, .int .i64 0, .int .i64 0, .int .i64 0, .int .i64 0, .int .i64 0, .int .i64 0, .int .i64 0, .int .i64 0, .int .i64 0, .int .i64 0, .int .i64 0, .int .i64 0, .int .i64 0] 25)) G3.out HBr3.out.size (Nat.le_trans HBr3.out.size (belowA w3 (.cells #[.int .i64 0, .int .i64 0, .int .i64 0, .int .i64 0, .int .i64 0, .int .i64 0, .int .i64 0, .int .i64 0, .int .i64 0, .int .i64 0, .int .i64 0, .int .i64 0, .int .i64 0, .int .i64 0, .int .i64 0] 25)).size))
      have K1v3 := hid ((K1r3.out.mono (belowA w3 (.cells #[.int .i64 0, .int .i64 0, .int .i64 0, .int .i64 0, .int .i64 0, .int .i64 0, .int .i64 0, .int .i64 0, .int .i64 0, .int .i64 0, .int .i64 0, .int .i64 0, .int .i64 0, .int .i64 0, .int .i64 0] 25))).grownS G3.out (Nat.ne_of_lt K1r3.out.lt))
      have K2v3 := hid ((K2r3.out.mono (belowA w3 (.cells #[.int .i64 0, .int .i64 0, .int .i64 0, .int .i64 0, .int .i64 0, .int .i64 0, .int .i64 0, .int .i64 0, .int .i64 0, .int .i64 0, .int .i64 0, .int .i64 0, .int .i64 0, .int .i64 0, .int .i64 0] 25))).grownS G3.out (Nat.ne_of_lt K2r3.out.lt))
      have K3v3 := hid J3.out
      refine (HS.out _ HBv3.out).mono ?_
      rintro e s4 ⟨p4, q4, rfl, R4, b4⟩
      have HBs4 := hid (kept_trans HBv3.out b4)
      have K1s4 := hid (K1v3.out.mono b4)
      have K2s4 := hid (K2v3.out.mono b4)
      have K3s4 := hid (K3v3.out.mono b4)
      have RR4 := hid R4
      clear b4 R4
      go_wp2_with fail
      refine (HQ2.out p4 q4 s4 RR4.out).mono ?_
      rintro e w4 ⟨rfl, b4⟩
      have HBr4 := hid (kept_trans HBs4.out b4)
      have K1r4 := hid (K1s4.out.mono b4)
      have K2r4 := hid (K2s4.out.mono b4)
      have K3r4 := hid (K3s4.out.mono b4)
      clear b4
      go_wp2_with (first
        | ((with_reducible refine wpl_storeI rfl _ _ rfl w4.heap.size rfl i2 rfl rfl (allocI w4) ?_); intro v4 k4 g4; have K4v4 := hid k4; have HBv4 := hid (below_grownS (HBr4.out.alloc HBr4.out.size (.cells #[.int .i64 0, .int .i64 0, .int .i64 0, .int .i64 0, .int .i64 0, .int .i64 0, .int .i64 0, .int .i64 0, .int .i64 0, .int .i64 0, .int .i64 0, .int .i64 0, .int .i64 0, .int .i64 0, .int .i64 0] 25)) g4 HBr4.out.size (Nat.le_trans HBr4.out.size (belowA w4 (.cells #[.int .i64 0, .int .i64 0, .int .i64 0, .int .i64 0, .int .i64 0, .int .i64 0, .int .i64 0, .int .i64 0, .int .i64 0, .int .i64 0, .int .i64 0, .int .i64 0, .int .i64 0, .int .i64 0, .int .i64 0] 25)).size)); have K1v4 := hid ((K1r4.out.mono (belowA w4 (.cells #[.int .i64 0, .int .i64 0, .int .i64 0, .int .i64 0, .int .i64 0, .int .i64 0, .int .i64 0, .int .i64 0, .int .i64 0, .int .i64 0, .int .i64 0, .int .i64 0, .int .i64 0, .int .i64 0, .int .i64 0] 25))).grownS g4 (Nat.ne_of_lt K1r4.out.lt)); have K2v4 := hid ((K2r4.out.mono (belowA w4 (.cells #[.int .i64 0, .int .i64 0, .int .i64 0, .int .i64 0, .int .i64 0, .int .i64 0, .int .i64 0, .int .i64 0, .int .i64 0, .int .i64 0, .int .i64 0, .int .i64 0, .int .i64 0, .int .i64 0, .int .i64 0] 25))).grownS g4 (Nat.ne_of_lt K2r4.out.lt)); have K3v4 := hid ((K3r4.out.mono (belowA w4 (.cells #[.int .i64 0, .int .i64 0, .int .i64 0, .int .i64 0, .int .i64 0, .int .i64 0, .int .i64 0, .int .i64 0, .int .i64 0, .int .i64 0, .int .i64 0, .int .i64 0, .int .i64 0, .int .i64 0, .int .i64 0] 25))).grownS g4 (Nat.ne_of_lt K3r4.out.lt)); clear k4 g4)
        | (with_reducible refine wpl_loadI rfl _ rfl w1.heap.size rfl i1 K1v4.out ?_)
        | (with_reducible refine wpl_loadI rfl _ rfl w2.heap.size rfl i1 K2v4.out ?_)
        | (with_reducible refine wpl_loadGI (by kernel_rfl) _ rfl w3.heap.size rfl i2 K3v4.out ?_)
        | (with_reducible refine wpl_loadGI (by kernel_rfl) _ rfl w4.heap.size rfl i2 K4v4.out ?_)
        | (go_at_call 13; refine (lives11_any _).mono ?_; rintro e w9 ⟨rfl, b9⟩; have HB9 := hid (kept_trans HBv4.out b9); clear b9))
      go_ret
      exact ⟨rfl, HB9.out⟩
  by_cases h : 100 < xs.length
  · exact go 100 true (by simp; omega) (by simp; omega) (by simp) (fun _ => ⟨rfl, by omega⟩)
  · exact go xs.length false (by simp; omega) (by simp; omega) (fun _ => rfl) (by simp)

end Go.Proofs.Ytnmblbkbiehodaa
