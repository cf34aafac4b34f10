import Derived.Test.YtpkmkmkknhnihaaSlotJ
namespace Go.Proofs.Ytpkmkmkknhnihaa
open Go.RowKit
set_option linter.unusedSimpArgs false
set_option linter.unusedVariables false

structure RfInv (w0 : World) (S : Nat) (L : List Value) (w : World) : Prop where
  z : Blk w w0.heap.size 26 [.int .i64 0, .int .i64 0, .int .i64 0, .int .i64 0, .int .i64 0, .int .i64 0]
  s : Blk w S 26 L
  bel : Below w0.heap.size w0 w
  lt : w0.heap.size < S
theorem RfInv.set {w0 : World} {S : Nat} {L : List Value} {w : World} (h : RfInv w0 S L w) (i : Nat) (v : Value) : RfInv w0 S (L.set i v) (w.setCell ⟨S, i, none⟩ v) := by
  have := h.lt
  exact ⟨h.z.setOther (by omega) i v, h.s.set i v, h.bel.setCell (show w0.heap.size ≤ S by omega) _, h.lt⟩

set_option maxHeartbeats 4000000 in
theorem readSRef_any (a : Option Addr) (c : Nat) (xs : List UInt8) (w : World) (ha : RowB w a c xs) :
    Calls Try.prog 14 #[.slice a xs.length c] w fun e w' => e = .returned (.tuple #[rsV xs, .int .i64 (rsE xs)]) ∧ Below w.heap.size w w' := by
  have hl := rowB_len ha
  have hcap : xs.length ≤ c := ha.2.1
  have H0 : Blk (w.alloc (.cells #[.int .i64 0, .int .i64 0, .int .i64 0, .int .i64 0, .int .i64 0, .int .i64 0] 26)) w.heap.size 26 [.int .i64 0, .int .i64 0, .int .i64 0, .int .i64 0, .int .i64 0, .int .i64 0] := heap_alloc_new w _
  have B0 := (Below.refl w.heap.size w).alloc (Nat.le_refl _) (.cells #[.int .i64 0, .int .i64 0, .int .i64 0, .int .i64 0, .int .i64 0, .int .i64 0] 26)
  have r0 : RowB (w.alloc (.cells #[.int .i64 0, .int .i64 0, .int .i64 0, .int .i64 0, .int .i64 0, .int .i64 0] 26)) a c xs := Row.alloc ha _
  have hck := rightRef_any a c xs _ r0
  by_cases hc : chk xs = 0
  · have h64 := chk_len hc
    have hV : rsV xs = if rsGood xs then rsS xs else zero6 := by unfold rsV; rw [if_pos hc]
    have hE : rsE xs = if rsGood xs then 0 else 2 := by unfold rsE; rw [if_pos hc]
    rw [hc] at hck
    have HC := hid hck
    have HA := hid (good_of hc)
    have HBn := hid (of_good h64)
    have hg0 := fun (w1 : World) (r1 : RowB w1 a c xs) => getRef_any a c xs 0 4 w1 r1 hl (by omega)
    have hg4 := fun (w1 : World) (r1 : RowB w1 a c xs) => getRef_any a c xs 4 4 w1 r1 hl (by omega)
    have hg8 := fun (w1 : World) (r1 : RowB w1 a c xs) => getRef_any a c xs 8 8 w1 r1 hl (by omega)
    have hg18 := fun (w1 : World) (r1 : RowB w1 a c xs) => getRef_any a c xs 18 8 w1 r1 hl (by omega)
    have q0 : getV (getF xs 0 4) = .tuple #[.int .i64 (gN xs 0 4 : Nat), .bool (getF xs 0 4).isSome] := rfl
    have q4 : getV (getF xs 4 4) = .tuple #[.int .i64 (gN xs 4 4 : Nat), .bool (getF xs 4 4).isSome] := rfl
    have q8 : getV (getF xs 8 8) = .tuple #[.int .i64 (gN xs 8 8 : Nat), .bool (getF xs 8 8).isSome] := rfl
    have q18 : getV (getF xs 18 8) = .tuple #[.int .i64 (gN xs 18 8 : Nat), .bool (getF xs 18 8).isSome] := rfl
    rw [q0] at hg0; rw [q4] at hg4; rw [q8] at hg8; rw [q18] at hg18
    generalize (getF xs 0 4).isSome = o0 at *
    generalize (getF xs 4 4).isSome = o4 at *
    generalize (getF xs 8 8).isSome = o8 at *
    generalize (getF xs 18 8).isSome = o18 at *
    have g16 := gN1 (xs := xs) (a := 16) (by omega)
    have g17 := gN1 (xs := xs) (a := 17) (by omega)
    have hmay := fun w1 => mayRef_any (gN xs 0 4) (gN xs 4 4) (gN xs 8 8) (gN xs 16 1) (gN xs 17 1) (gN xs 18 8) w1
    have hmd : mayS (gN xs 0 4) (gN xs 4 4) (gN xs 8 8) (gN xs 16 1) (gN xs 17 1) (gN xs 18 8) = rsM xs := rfl
    rw [hmd] at hmay
    unfold slotV at hmay
    have HM := hid hmay
    have G0 := hid hg0; have G4 := hid hg4; have G8 := hid hg8; have G18 := hid hg18
    have h16 := bAt_lt xs 16
    have h17 := bAt_lt xs 17
    obtain ⟨b, off, rfl, hb, hcell⟩ := ha.bytes (by omega)
    rw [← g16] at h16
    rw [← g17] at h17
    have c16 := hcell 16 (by omega)
    have c17 := hcell 17 (by omega)
    rw [← g16] at c16
    rw [← g17] at c17
    clear hck hc q0 q4 q8 q18 hg0 hg4 hg8 hg18 hmay hmd r0 g16 g17
    have go : ∀ (G : Bool), rsGood xs = G → Calls Try.prog 14 #[.slice (some ⟨b, off, none⟩) xs.length c] w fun e w' => e = .returned (.tuple #[if G then rsS xs else zero6, .int .i64 (if G then 0 else 2)]) ∧ Below w.heap.size w w' := by
      intro G hG
      rw [hG] at HA HBn
      clear hG hV hE
      generalize rsM xs = M at *
      have hS : (w.alloc (.cells #[.int .i64 0, .int .i64 0, .int .i64 0, .int .i64 0, .int .i64 0, .int .i64 0] 26)).heap.size = w.heap.size + 1 := by simp
      have I0 : RfInv w (w.heap.size + 1) [.int .i64 0, .int .i64 0, .int .i64 0, .int .i64 0, .int .i64 0, .int .i64 0] ((w.alloc (.cells #[.int .i64 0, .int .i64 0, .int .i64 0, .int .i64 0, .int .i64 0, .int .i64 0] 26)).alloc (.cells #[.int .i64 0, .int .i64 0, .int .i64 0, .int .i64 0, .int .i64 0, .int .i64 0] 26)) := by
        have k := (Below.refl (w.alloc (.cells #[.int .i64 0, .int .i64 0, .int .i64 0, .int .i64 0, .int .i64 0, .int .i64 0] 26)).heap.size (w.alloc (.cells #[.int .i64 0, .int .i64 0, .int .i64 0, .int .i64 0, .int .i64 0, .int .i64 0] 26))).alloc (Nat.le_refl _) (.cells #[.int .i64 0, .int .i64 0, .int .i64 0, .int .i64 0, .int .i64 0, .int .i64 0] 26)
        refine ⟨H0.mono k, ?_, B0.alloc B0.size _, by omega⟩
        have := heap_alloc_new (w.alloc (.cells #[.int .i64 0, .int .i64 0, .int .i64 0, .int .i64 0, .int .i64 0, .int .i64 0] 26)) (.cells #[.int .i64 0, .int .i64 0, .int .i64 0, .int .i64 0, .int .i64 0, .int .i64 0] 26)
        rw [hS] at this
        exact this
      have HI0 := hid I0
      clear I0 H0 B0 hS
      go_enter Try.func14, Try.ntmps14
      go_wp2_with fail
      refine HC.out.mono ?_
      rintro e w1 ⟨rfl, rfl⟩
      clear HC
      go_wp2_with fail
      have I0 := HI0.out
      clear HI0
      generalize World.alloc (World.alloc _ _) _ = w2 at *
      generalize w.heap.size + 1 = S at *
      refine (G0.out _ (ha.mono I0.bel)).mono ?_
      rintro e _w ⟨rfl, rfl⟩
      have k0 : w2.cell? ⟨S, 0, none⟩ = some (.int .i64 0) := Blk.cell I0.s (i := 0) (by simp)
      have f0 : w2.frozen? ⟨S, 0, none⟩ = false := Blk.frozen I0.s 0
      have I1 : RfInv w S [.int .i64 (gN xs 0 4 : Nat), .int .i64 0, .int .i64 0, .int .i64 0, .int .i64 0, .int .i64 0] (w2.setCell ⟨S, 0, none⟩ (.int .i64 (gN xs 0 4 : Nat))) := (I0.set 0 (.int .i64 (gN xs 0 4 : Nat)))
      have HJ := hid I1; clear I1 I0
      go_wp2_with fail
      have I1 := HJ.out
      clear HJ k0 f0
      generalize World.setCell _ _ _ = w3 at *
      refine (G4.out _ (ha.mono I1.bel)).mono ?_
      rintro e _w ⟨rfl, rfl⟩
      have k1 : w3.cell? ⟨S, 1, none⟩ = some (.int .i64 0) := Blk.cell I1.s (i := 1) (by simp)
      have f1 : w3.frozen? ⟨S, 1, none⟩ = false := Blk.frozen I1.s 1
      have I2 : RfInv w S [.int .i64 (gN xs 0 4 : Nat), .int .i64 (gN xs 4 4 : Nat), .int .i64 0, .int .i64 0, .int .i64 0, .int .i64 0] (w3.setCell ⟨S, 1, none⟩ (.int .i64 (gN xs 4 4 : Nat))) := (I1.set 1 (.int .i64 (gN xs 4 4 : Nat)))
      have HJ := hid I2; clear I2 I1
      go_wp2_with fail
      have I2 := HJ.out
      clear HJ k1 f1
      generalize World.setCell _ _ _ = w4 at *
      refine (G8.out _ (ha.mono I2.bel)).mono ?_
      rintro e _w ⟨rfl, rfl⟩
      have k2 : w4.cell? ⟨S, 2, none⟩ = some (.int .i64 0) := Blk.cell I2.s (i := 2) (by simp)
      have f2 : w4.frozen? ⟨S, 2, none⟩ = false := Blk.frozen I2.s 2
      have k3 : w4.cell? ⟨S, 3, none⟩ = some (.int .i64 0) := Blk.cell I2.s (i := 3) (by simp)
      have f3 : w4.frozen? ⟨S, 3, none⟩ = false := Blk.frozen I2.s 3
      have k4 : w4.cell? ⟨S, 4, none⟩ = some (.int .i64 0) := Blk.cell I2.s (i := 4) (by simp)
      have f4 : w4.frozen? ⟨S, 4, none⟩ = false := Blk.frozen I2.s 4
      have d16 : w4.cell? ⟨b, off + 16, none⟩ = some (.int .u8 (gN xs 16 1 : Nat)) := (I2.bel.cell (p := ⟨b, off + 16, none⟩) hb).trans c16
      have d17 : w4.cell? ⟨b, off + 17, none⟩ = some (.int .u8 (gN xs 17 1 : Nat)) := (I2.bel.cell (p := ⟨b, off + 17, none⟩) hb).trans c17
      have I3 : RfInv w S [.int .i64 (gN xs 0 4 : Nat), .int .i64 (gN xs 4 4 : Nat), .int .i64 (gN xs 8 8 : Nat), .int .i64 (gN xs 16 1 : Nat), .int .i64 (gN xs 17 1 : Nat), .int .i64 0] (((w4.setCell ⟨S, 2, none⟩ (.int .i64 (gN xs 8 8 : Nat))).setCell ⟨S, 3, none⟩ (.int .i64 (gN xs 16 1 : Nat))).setCell ⟨S, 4, none⟩ (.int .i64 (gN xs 17 1 : Nat))) := (((I2.set 2 (.int .i64 (gN xs 8 8 : Nat))).set 3 (.int .i64 (gN xs 16 1 : Nat))).set 4 (.int .i64 (gN xs 17 1 : Nat)))
      have bS : b ≠ S := by have := I2.lt; omega
      have HJ := hid I3; clear I3 I2
      go_wp2_with fail
      have I3 := HJ.out
      clear HJ k2 f2 k3 f3 k4 f4 d16 d17
      generalize World.setCell _ _ _ = w5 at *
      refine (G18.out _ (ha.mono I3.bel)).mono ?_
      rintro e _w ⟨rfl, rfl⟩
      have k5 : w5.cell? ⟨S, 5, none⟩ = some (.int .i64 0) := Blk.cell I3.s (i := 5) (by simp)
      have f5 : w5.frozen? ⟨S, 5, none⟩ = false := Blk.frozen I3.s 5
      have I4 : RfInv w S [.int .i64 (gN xs 0 4 : Nat), .int .i64 (gN xs 4 4 : Nat), .int .i64 (gN xs 8 8 : Nat), .int .i64 (gN xs 16 1 : Nat), .int .i64 (gN xs 17 1 : Nat), .int .i64 (gN xs 18 8 : Nat)] (w5.setCell ⟨S, 5, none⟩ (.int .i64 (gN xs 18 8 : Nat))) := (I3.set 5 (.int .i64 (gN xs 18 8 : Nat)))
      have HJ := hid I4; clear I4 I3
      go_wp2_with fail
      have I6 := HJ.out
      clear HJ k5 f5
      generalize World.setCell _ _ _ = w6 at *
      have t1 : True := trivial
      have cellw : ∀ j, j < xs.length → w6.cell? ⟨b, off + j, none⟩ = some (.int .u8 (bAt xs j : Int)) := fun j hj => (I6.bel.cell (p := ⟨b, off + j, none⟩) hb).trans (hcell j hj)
      have HI6 := hid I6
      clear I6 G0 G4 G8 G18 c16 c17 hcell
      go_loop [8] (fun i => ∃ j : Nat, 26 ≤ j ∧ j ≤ 60 ∧ i = .int .i64 j ∧ ∀ k, 26 ≤ k → k < j → bAt xs k = 0) (fun i => 60 - (intOf i).toNat)
      case atStart => exact ⟨26, by omega, by omega, rfl, fun k h1 h2 => absurd h2 (by omega)⟩
      case round =>
        obtain ⟨j, hj1, hj2, rfl, hp⟩ := hrel
        have HP := hid hp; clear hp
        by_cases hlt : j < 60
        · have cj := cellw j (by omega)
          have hlt' : (j : Int) < 60 := by omega
          clear cellw
          by_cases hz : bAt xs j = 0
          · have HZ := hid hz
            rw [hz] at cj
            clear hz
            go_wp2_with fail
            go_round
            case rel => exact ⟨j + 1, by omega, by omega, by go_num, fun k h1 h2 => (by rcases Nat.lt_succ_iff_lt_or_eq.1 h2 with h | rfl; exact HP.out k h1 h; exact HZ.out)⟩
            case measure => simp [intOf]; omega
          · have hG : G = false := by
              cases hG : G with
              | false => rfl
              | true => exact absurd ((HBn.out hG).2.2.2 j hj1 hlt) hz
            subst hG
            have hz' : ((bAt xs j : Int) != 0) = true := by simp; omega
            have hz2 : ¬ ((bAt xs j : Int) = 0) := by omega
            have HZ := hid hz; clear hz HA HBn
            generalize bAt xs j = x at *
            have zk0 : w6.cell? ⟨w.heap.size, 0, none⟩ = some (.int .i64 0) := Blk.cell HI6.out.z (i := 0) (by simp)
            have zk1 : w6.cell? ⟨w.heap.size, 1, none⟩ = some (.int .i64 0) := Blk.cell HI6.out.z (i := 1) (by simp)
            have zk2 : w6.cell? ⟨w.heap.size, 2, none⟩ = some (.int .i64 0) := Blk.cell HI6.out.z (i := 2) (by simp)
            have zk3 : w6.cell? ⟨w.heap.size, 3, none⟩ = some (.int .i64 0) := Blk.cell HI6.out.z (i := 3) (by simp)
            have zk4 : w6.cell? ⟨w.heap.size, 4, none⟩ = some (.int .i64 0) := Blk.cell HI6.out.z (i := 4) (by simp)
            have zk5 : w6.cell? ⟨w.heap.size, 5, none⟩ = some (.int .i64 0) := Blk.cell HI6.out.z (i := 5) (by simp)
            have zf0 : w6.frozen? ⟨w.heap.size, 0, none⟩ = false := Blk.frozen HI6.out.z 0
            have zf1 : w6.frozen? ⟨w.heap.size, 1, none⟩ = false := Blk.frozen HI6.out.z 1
            have zf2 : w6.frozen? ⟨w.heap.size, 2, none⟩ = false := Blk.frozen HI6.out.z 2
            have zf3 : w6.frozen? ⟨w.heap.size, 3, none⟩ = false := Blk.frozen HI6.out.z 3
            have zf4 : w6.frozen? ⟨w.heap.size, 4, none⟩ = false := Blk.frozen HI6.out.z 4
            have zf5 : w6.frozen? ⟨w.heap.size, 5, none⟩ = false := Blk.frozen HI6.out.z 5
            go_wp2_with fail
            refine bodyPost_ret (results_slot rfl rfl (set6 HI6.out.z rfl _ _ _ _ _ _) rfl) rfl ⟨rfl, bel6 HI6.out.bel (Nat.le_refl _) _ _ _ _ _ _⟩
        · obtain rfl : j = 60 := by omega
          clear cellw
          have sk0 : w6.cell? ⟨S, 0, none⟩ = some (.int .i64 (gN xs 0 4 : Nat)) := Blk.cell HI6.out.s (i := 0) (by simp)
          have sk1 : w6.cell? ⟨S, 1, none⟩ = some (.int .i64 (gN xs 4 4 : Nat)) := Blk.cell HI6.out.s (i := 1) (by simp)
          have sk2 : w6.cell? ⟨S, 2, none⟩ = some (.int .i64 (gN xs 8 8 : Nat)) := Blk.cell HI6.out.s (i := 2) (by simp)
          have sk3 : w6.cell? ⟨S, 3, none⟩ = some (.int .i64 (gN xs 16 1 : Nat)) := Blk.cell HI6.out.s (i := 3) (by simp)
          have sk4 : w6.cell? ⟨S, 4, none⟩ = some (.int .i64 (gN xs 17 1 : Nat)) := Blk.cell HI6.out.s (i := 4) (by simp)
          have sk5 : w6.cell? ⟨S, 5, none⟩ = some (.int .i64 (gN xs 18 8 : Nat)) := Blk.cell HI6.out.s (i := 5) (by simp)
          go_wp2_with fail
          refine (HM.out w6).mono ?_
          rintro e w7 ⟨rfl, b7⟩
          have S7 := Blk.mono HI6.out.s b7
          have Z7 := Blk.mono HI6.out.z b7
          have B7 := below_trans HI6.out.bel b7 HI6.out.bel.size
          clear sk0 sk1 sk2 sk3 sk4 sk5
          have sk0 : w7.cell? ⟨S, 0, none⟩ = some (.int .i64 (gN xs 0 4 : Nat)) := Blk.cell S7 (i := 0) (by simp)
          have sk1 : w7.cell? ⟨S, 1, none⟩ = some (.int .i64 (gN xs 4 4 : Nat)) := Blk.cell S7 (i := 1) (by simp)
          have sk2 : w7.cell? ⟨S, 2, none⟩ = some (.int .i64 (gN xs 8 8 : Nat)) := Blk.cell S7 (i := 2) (by simp)
          have sk3 : w7.cell? ⟨S, 3, none⟩ = some (.int .i64 (gN xs 16 1 : Nat)) := Blk.cell S7 (i := 3) (by simp)
          have sk4 : w7.cell? ⟨S, 4, none⟩ = some (.int .i64 (gN xs 17 1 : Nat)) := Blk.cell S7 (i := 4) (by simp)
          have sk5 : w7.cell? ⟨S, 5, none⟩ = some (.int .i64 (gN xs 18 8 : Nat)) := Blk.cell S7 (i := 5) (by simp)
          have zk0 : w7.cell? ⟨w.heap.size, 0, none⟩ = some (.int .i64 0) := Blk.cell Z7 (i := 0) (by simp)
          have zk1 : w7.cell? ⟨w.heap.size, 1, none⟩ = some (.int .i64 0) := Blk.cell Z7 (i := 1) (by simp)
          have zk2 : w7.cell? ⟨w.heap.size, 2, none⟩ = some (.int .i64 0) := Blk.cell Z7 (i := 2) (by simp)
          have zk3 : w7.cell? ⟨w.heap.size, 3, none⟩ = some (.int .i64 0) := Blk.cell Z7 (i := 3) (by simp)
          have zk4 : w7.cell? ⟨w.heap.size, 4, none⟩ = some (.int .i64 0) := Blk.cell Z7 (i := 4) (by simp)
          have zk5 : w7.cell? ⟨w.heap.size, 5, none⟩ = some (.int .i64 0) := Blk.cell Z7 (i := 5) (by simp)
          have zf0 : w7.frozen? ⟨w.heap.size, 0, none⟩ = false := Blk.frozen Z7 0
          have zf1 : w7.frozen? ⟨w.heap.size, 1, none⟩ = false := Blk.frozen Z7 1
          have zf2 : w7.frozen? ⟨w.heap.size, 2, none⟩ = false := Blk.frozen Z7 2
          have zf3 : w7.frozen? ⟨w.heap.size, 3, none⟩ = false := Blk.frozen Z7 3
          have zf4 : w7.frozen? ⟨w.heap.size, 4, none⟩ = false := Blk.frozen Z7 4
          have zf5 : w7.frozen? ⟨w.heap.size, 5, none⟩ = false := Blk.frozen Z7 5
          have HZ := hid Z7; have HB := hid B7; have HSL := hid S7
          clear Z7 B7 S7 b7
          cases o8 with
          | false =>
            have hG : G = false := by
              cases hG : G with
              | false => rfl
              | true => exact absurd (HBn.out hG).1 (by simp)
            subst hG
            clear HA HBn
            go_wp2_with fail
            refine bodyPost_ret (results_slot rfl rfl (set6 HZ.out rfl _ _ _ _ _ _) rfl) rfl ⟨rfl, bel6 HB.out (Nat.le_refl _) _ _ _ _ _ _⟩
          | true =>
            cases o18 with
            | false =>
              have hG : G = false := by
                cases hG : G with
                | false => rfl
                | true => exact absurd (HBn.out hG).2.1 (by simp)
              subst hG
              clear HA HBn
              go_wp2_with fail
              refine bodyPost_ret (results_slot rfl rfl (set6 HZ.out rfl _ _ _ _ _ _) rfl) rfl ⟨rfl, bel6 HB.out (Nat.le_refl _) _ _ _ _ _ _⟩
            | true =>
              cases M with
              | false =>
                have hG : G = false := by
                  cases hG : G with
                  | false => rfl
                  | true => exact absurd (HBn.out hG).2.2.1 (by simp)
                subst hG
                clear HA HBn
                go_wp2_with fail
                refine bodyPost_ret (results_slot rfl rfl (set6 HZ.out rfl _ _ _ _ _ _) rfl) rfl ⟨rfl, bel6 HB.out (Nat.le_refl _) _ _ _ _ _ _⟩
              | true =>
                have hG : G = true := HA.out rfl rfl rfl HP.out
                subst hG
                clear HA HBn
                go_wp2_with fail
                refine bodyPost_ret (results_slot rfl rfl (set6 HZ.out rfl _ _ _ _ _ _) rfl) rfl ⟨rfl, bel6 HB.out (Nat.le_refl _) _ _ _ _ _ _⟩
    rw [hV, hE]; exact go _ rfl
  · have hV : rsV xs = zero6 := by unfold rsV; rw [if_neg hc]
    have hE : rsE xs = chk xs := by unfold rsE; rw [if_neg hc]
    rw [hV, hE]
    have HC := hid hck
    clear hV hE hck
    generalize chk xs = q at *
    have zk0 : (w.alloc (.cells #[.int .i64 0, .int .i64 0, .int .i64 0, .int .i64 0, .int .i64 0, .int .i64 0] 26)).cell? ⟨w.heap.size, 0, none⟩ = some (.int .i64 0) := Blk.cell H0 (i := 0) (by simp)
    have zk1 : (w.alloc (.cells #[.int .i64 0, .int .i64 0, .int .i64 0, .int .i64 0, .int .i64 0, .int .i64 0] 26)).cell? ⟨w.heap.size, 1, none⟩ = some (.int .i64 0) := Blk.cell H0 (i := 1) (by simp)
    have zk2 : (w.alloc (.cells #[.int .i64 0, .int .i64 0, .int .i64 0, .int .i64 0, .int .i64 0, .int .i64 0] 26)).cell? ⟨w.heap.size, 2, none⟩ = some (.int .i64 0) := Blk.cell H0 (i := 2) (by simp)
    have zk3 : (w.alloc (.cells #[.int .i64 0, .int .i64 0, .int .i64 0, .int .i64 0, .int .i64 0, .int .i64 0] 26)).cell? ⟨w.heap.size, 3, none⟩ = some (.int .i64 0) := Blk.cell H0 (i := 3) (by simp)
    have zk4 : (w.alloc (.cells #[.int .i64 0, .int .i64 0, .int .i64 0, .int .i64 0, .int .i64 0, .int .i64 0] 26)).cell? ⟨w.heap.size, 4, none⟩ = some (.int .i64 0) := Blk.cell H0 (i := 4) (by simp)
    have zk5 : (w.alloc (.cells #[.int .i64 0, .int .i64 0, .int .i64 0, .int .i64 0, .int .i64 0, .int .i64 0] 26)).cell? ⟨w.heap.size, 5, none⟩ = some (.int .i64 0) := Blk.cell H0 (i := 5) (by simp)
    have zf0 : (w.alloc (.cells #[.int .i64 0, .int .i64 0, .int .i64 0, .int .i64 0, .int .i64 0, .int .i64 0] 26)).frozen? ⟨w.heap.size, 0, none⟩ = false := Blk.frozen H0 0
    have zf1 : (w.alloc (.cells #[.int .i64 0, .int .i64 0, .int .i64 0, .int .i64 0, .int .i64 0, .int .i64 0] 26)).frozen? ⟨w.heap.size, 1, none⟩ = false := Blk.frozen H0 1
    have zf2 : (w.alloc (.cells #[.int .i64 0, .int .i64 0, .int .i64 0, .int .i64 0, .int .i64 0, .int .i64 0] 26)).frozen? ⟨w.heap.size, 2, none⟩ = false := Blk.frozen H0 2
    have zf3 : (w.alloc (.cells #[.int .i64 0, .int .i64 0, .int .i64 0, .int .i64 0, .int .i64 0, .int .i64 0] 26)).frozen? ⟨w.heap.size, 3, none⟩ = false := Blk.frozen H0 3
    have zf4 : (w.alloc (.cells #[.int .i64 0, .int .i64 0, .int .i64 0, .int .i64 0, .int .i64 0, .int .i64 0] 26)).frozen? ⟨w.heap.size, 4, none⟩ = false := Blk.frozen H0 4
    have zf5 : (w.alloc (.cells #[.int .i64 0, .int .i64 0, .int .i64 0, .int .i64 0, .int .i64 0, .int .i64 0] 26)).frozen? ⟨w.heap.size, 5, none⟩ = false := Blk.frozen H0 5
    have HH := hid H0; have HB := hid B0
    clear H0 B0 r0
    generalize hw1 : w.alloc (.cells #[.int .i64 0, .int .i64 0, .int .i64 0, .int .i64 0, .int .i64 0, .int .i64 0] 26) = w1 at *
    have HW := hid hw1; clear hw1
    go_enter Try.func14, Try.ntmps14
    go_wp2_with fail
    rw [HW.out]
    refine HC.out.mono ?_
    rintro e w2 ⟨rfl, rfl⟩
    go_wp2_with fail
    refine bodyPost_ret (results_slot rfl rfl (set6 HH.out rfl _ _ _ _ _ _) rfl) rfl ⟨rfl, bel6 HB.out (Nat.le_refl _) _ _ _ _ _ _⟩

end Go.Proofs.Ytpkmkmkknhnihaa
