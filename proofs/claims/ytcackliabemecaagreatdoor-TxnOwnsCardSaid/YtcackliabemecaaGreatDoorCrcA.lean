import Derived.Test.YtcackliabemecaaGreatDoorLib
import Derived.Test.YtcackliabemecaaGreatDoorCrcP
namespace Go.Proofs.YtcackliabemecaaGreatDoor
open Go.RowKit
set_option linter.unusedSimpArgs false
set_option linter.unusedVariables false

/-- a hasher's register -/
def Reg (w : World) (h r : Nat) : Prop := Blk w h 113 [.int .u32 (r : Int)]
theorem Reg.cell {w : World} {h r : Nat} (H : Reg w h r) : w.cell? ⟨h, 0, none⟩ = some (.int .u32 (r : Int)) := Blk.cell (L := [.int .u32 (r : Int)]) H (i := 0) (by simp)
theorem Reg.frozen {w : World} {h r : Nat} (H : Reg w h r) : w.frozen? ⟨h, 0, none⟩ = false := Blk.frozen H 0
theorem Reg.set {w : World} {h r : Nat} (H : Reg w h r) (q : Nat) : Reg (w.setCell ⟨h, 0, none⟩ (.int .u32 (q : Int))) h q := Blk.set H 0 _
theorem Reg.lt {w : World} {h r : Nat} (H : Reg w h r) : h < w.heap.size := Blk.lt H
theorem Reg.mono {w w' : World} {h r : Nat} (H : Reg w h r) (hb : Below w.heap.size w w') : Reg w' h r := Blk.mono H hb

theorem grown_set {w w' : World} {h : Nat} (g : w.grownBy w' (some h)) (i : Nat) (v : Value) : w.grownBy (w'.setCell ⟨h, i, none⟩ v) (some h) :=
  ⟨g.os, g.tape, g.output, by simp [World.setCell]; exact g.size, fun k hk hne => by
    rw [Below.heap_setCell _ _ _ _ (by rintro rfl; exact hne rfl)]; exact g.block k hk hne⟩
theorem grown_refl (w : World) (r : Option Nat) : w.grownBy w r := ⟨rfl, rfl, rfl, Nat.le_refl _, fun _ _ _ => rfl⟩
theorem grown_trans {w w1 w2 : World} {r : Option Nat} (a : w.grownBy w1 r) (b : w1.grownBy w2 r) : w.grownBy w2 r :=
  ⟨b.os.trans a.os, b.tape.trans a.tape, b.output.trans a.output, Nat.le_trans a.size b.size, fun k hk hne => (b.block k (Nat.lt_of_lt_of_le hk a.size) hne).trans (a.block k hk hne)⟩

set_option maxHeartbeats 400000 in
theorem begin_any (h r : Nat) (w : World) (H : Reg w h r) :
    Calls Tryz.prog 86 #[.pointer (some ⟨h, 0, none⟩)] w fun e w' => e = .returned (.tuple #[]) ∧ Reg w' h 4294967295 ∧ w.grownBy w' (some h) := by
  have hc := H.cell
  have hf := H.frozen
  have hs := H.set 4294967295
  have HS := hid hs; clear hs
  go_enter Tryz.func86, Tryz.ntmps86
  go_wp2
  go_end0
  exact ⟨rfl, HS.out, grown_set (grown_refl _ _) _ _⟩

theorem ones_xor {r : Nat} (h : r < 4294967296) : 4294967295 ^^^ r = 4294967295 - r := by
  have e := congrArg BitVec.toNat (BitVec.allOnes_xor (x := BitVec.ofNat 32 r))
  rw [BitVec.toNat_xor, BitVec.toNat_not, BitVec.toNat_allOnes, BitVec.toNat_ofNat, Nat.mod_eq_of_lt (by omega)] at e
  exact e

theorem inv_eq {r : Nat} (h : r < 4294967296) : bits BinOp.xor IntKind.u32 IntKind.u32.max (r : Int) = ((4294967295 - r : Nat) : Int) := by
  rw [← ones_xor h, ← u32_xor_nat 4294967295 r (by omega) h]; rfl

set_option maxHeartbeats 400000 in
theorem inverted_any (h r : Nat) (w : World) (H : Reg w h r) (hr : r < 4294967296) :
    Calls Tryz.prog 88 #[.pointer (some ⟨h, 0, none⟩)] w fun e w' => e = .returned (.int .u32 ((4294967295 - r : Nat) : Int)) ∧ w = w' := by
  have hc := H.cell
  go_enter Tryz.func88, Tryz.ntmps88
  go_wp2
  go_ret
  exact ⟨ret_int (inv_eq hr), rfl⟩

theorem and1 {q : Nat} (h : q < 4294967296) : bits .and .u32 (q : Int) 1 = ((q % 2 : Nat) : Int) := by
  have := u32_and_nat q 1 h (by omega)
  rw [nat_mask1] at this; exact this
theorem xorPoly {q : Nat} (h : q < 4294967296) : bits .xor .u32 ((q : Int) / 2) 3988292384 = ((q / 2 ^^^ 3988292384 : Nat) : Int) := by
  have := u32_xor_nat (q / 2) 3988292384 (by omega) (by omega)
  rw [← this]; rfl
theorem step_odd {q : Nat} (h : q % 2 = 1) : crcStep q = (q / 2) ^^^ 3988292384 := by unfold crcStep; rw [if_pos h]
theorem step_even {q : Nat} (h : ¬ q % 2 = 1) : crcStep q = q / 2 := by unfold crcStep; rw [if_neg h]
theorem half_cast (q : Nat) : ((q / 2 : Nat) : Int) = (q : Int) / 2 := by simp

set_option maxHeartbeats 2000000 in
theorem feed_any (h r : Nat) (x : UInt8) (w : World) (H : Reg w h r) (hr : r < 4294967296) :
    Calls Tryz.prog 87 #[.pointer (some ⟨h, 0, none⟩), .int .u8 (x.toNat : Int)] w fun e w' => e = .returned (.tuple #[]) ∧ Reg w' h (crcByte r x) ∧ w.grownBy w' (some h) := by
  have hx := x.toNat_lt
  have hc := H.cell
  have hf := H.frozen
  have hxor := u32_xor_nat r x.toNat hr (by omega)
  have hq0 := xor_lt32 hr (b := x.toNat) (by omega)
  go_enter Tryz.func87, Tryz.ntmps87
  go_wp2
  refine wp_scope_jumps 0 (fun a' w' => ∃ (m : Nat), 1 ≤ m ∧ m ≤ 8 ∧ (∃ (u5 u6 u7 u8 u9 u10 u11 u12 u13 u14 u15 u16 u17 u18 u19 u20 u21 u22 u23 u24 u25 u26 u27 u28 u29 u30 u31 u32 u33 u34 u35 u36 u37 u38 u39 : Value), a' = { tmps := #[.pointer (some ⟨h, 0, none⟩), .int .u8 (x.toNat : Int), undef, undef, .int .i64 m, u5, u6, u7, u8, u9, u10, u11, u12, u13, u14, u15, u16, u17, u18, u19, u20, u21, u22, u23, u24, u25, u26, u27, u28, u29, u30, u31, u32, u33, u34, u35, u36, u37, u38, u39], defers := [] }) ∧ Reg w' h (crcSteps (8 - m) (r ^^^ x.toNat)) ∧ w.grownBy w' (some h)) (fun a' _ => (intOf (a'.tmps.getD 4 undef)).toNat) rfl ?_ ?_
  · go_wp2
    have Hr := H.set (r ^^^ x.toNat)
    have hgr := grown_set (grown_refl w (some h)) 0 (.int .u32 ((r ^^^ x.toNat : Nat) : Int))
    have HE : Hid (crcSteps (8 - 7) (r ^^^ x.toNat) = crcStep (r ^^^ x.toNat)) := by
      show crcSteps (0 + 1) _ = _; rw [crcSteps_succ, crcSteps_0]
    clear hc hf hxor
    generalize w.setCell ⟨h, 0, none⟩ (.int .u32 ((r ^^^ x.toNat : Nat) : Int)) = wr at *
    generalize hqe : r ^^^ x.toNat = q at *
    have HQ := hid hqe; clear hqe
    have hq := hq0
    clear hq0
    go_step3
    have hc := Hr.cell
    have hf := Hr.frozen
    have hand := and1 hq
    have hxp := xorPoly hq
    by_cases hodd : q % 2 = 1
    · rw [hodd] at hand
      have hst := step_odd hodd
      have h1 := (Hr.set (q / 2)).set (q / 2 ^^^ 3988292384)
      have g1 := grown_set (grown_set hgr 0 (.int .u32 ((q / 2 : Nat) : Int))) 0 (.int .u32 ((q / 2 ^^^ 3988292384 : Nat) : Int))
      rw [half_cast] at h1 g1
      rw [← hst] at h1 g1 hxp
      have H1 := hid h1; have G1 := hid g1
      clear h1 g1 hodd hst
      go_wp2
      go_step3
      exact ⟨rfl, 7, by omega, by omega, ⟨_, _, _, _, _, _, _, _, _, _, _, _, _, _, _, _, _, _, _, _, _, _, _, _, _, _, _, _, _, _, _, _, _, _, _, rfl⟩, by rw [HQ.out, HE.out]; exact H1.out, G1.out⟩
    · have h0 : q % 2 = 0 := by omega
      rw [h0] at hand
      have hst := step_even hodd
      have h1 := Hr.set (q / 2)
      have g1 := grown_set hgr 0 (.int .u32 ((q / 2 : Nat) : Int))
      rw [half_cast] at g1
      have h1' : Reg (wr.setCell ⟨h, 0, none⟩ (.int .u32 ((q : Int) / 2))) h (crcStep q) := by rw [hst]; rw [half_cast] at h1; exact h1
      have H1 := hid h1'; have G1 := hid g1
      clear h1 h1' g1 hodd h0 hst hxp
      go_wp2
      go_step3
      exact ⟨rfl, 7, by omega, by omega, ⟨_, _, _, _, _, _, _, _, _, _, _, _, _, _, _, _, _, _, _, _, _, _, _, _, _, _, _, _, _, _, _, _, _, _, _, rfl⟩, by rw [HQ.out, HE.out]; exact H1.out, G1.out⟩
  · rintro a' wr ⟨m, hm1, hm8, ⟨u5, u6, u7, u8, u9, u10, u11, u12, u13, u14, u15, u16, u17, u18, u19, u20, u21, u22, u23, u24, u25, u26, u27, u28, u29, u30, u31, u32, u33, u34, u35, u36, u37, u38, u39, rfl⟩, Hr, hgr⟩
    have hq := crcSteps_lt hq0 (8 - m)
    have HE : Hid (2 ≤ m → crcSteps (8 - (m - 1)) (r ^^^ x.toNat) = crcStep (crcSteps (8 - m) (r ^^^ x.toNat))) := fun h2 => by
      rw [← crcSteps_succ]; congr 1; omega
    have HE8 : Hid (m = 1 → crcSteps 8 (r ^^^ x.toNat) = crcStep (crcSteps (8 - m) (r ^^^ x.toNat))) := fun h2 => by
      subst h2; rw [← crcSteps_succ]
    have HM : Hid (2 ≤ m → ((m - 1 : Nat) : Int) = (m : Int) - 1) := fun h2 => by omega
    generalize crcSteps (8 - m) (r ^^^ x.toNat) = q at *
    clear hc hf hxor hq0
    have hc := Hr.cell
    have hf := Hr.frozen
    have hand := and1 hq
    have hxp := xorPoly hq
    by_cases hodd : q % 2 = 1
    · rw [hodd] at hand
      have hst := step_odd hodd
      have h1 := (Hr.set (q / 2)).set (q / 2 ^^^ 3988292384)
      have g1 := grown_set (grown_set hgr 0 (.int .u32 ((q / 2 : Nat) : Int))) 0 (.int .u32 ((q / 2 ^^^ 3988292384 : Nat) : Int))
      rw [half_cast] at h1 g1
      rw [← hst] at h1 g1 hxp
      have H1 := hid h1; have G1 := hid g1
      clear h1 g1 hodd hst
      by_cases hm1 : m = 1
      · subst hm1
        go_wp2
        simp only [Exit.jump]
        go_end0
        exact ⟨rfl, by rw [crcByte_eq, show crcSteps 8 (r ^^^ x.toNat) = crcStep q from (by first | exact HE8.out trivial | exact HE8.out rfl)]; exact H1.out, G1.out⟩
      · have hm2 : (0 : Int) < (m : Int) - 1 := by omega
        go_wp2
        go_step3
        exact ⟨rfl, ⟨m - 1, by omega, by omega, ⟨_, _, _, _, _, _, _, _, _, _, _, _, _, _, _, _, _, _, _, _, _, _, _, _, _, _, _, _, _, _, _, _, _, _, _, by rw [HM.out (by omega)]⟩, by rw [HE.out (by omega)]; exact H1.out, G1.out⟩, by simp [intOf]; omega⟩
    · have h0 : q % 2 = 0 := by omega
      rw [h0] at hand
      have hst := step_even hodd
      have h1 := Hr.set (q / 2)
      have g1 := grown_set hgr 0 (.int .u32 ((q / 2 : Nat) : Int))
      have e2 : ((crcStep q : Nat) : Int) = (q : Int) / 2 := by rw [hst, half_cast]
      rw [half_cast] at g1
      have h1' : Reg (wr.setCell ⟨h, 0, none⟩ (.int .u32 ((q : Int) / 2))) h (crcStep q) := by rw [hst]; rw [half_cast] at h1; exact h1
      have H1 := hid h1'; have G1 := hid g1
      clear h1 h1' g1 hodd h0 hst e2 hxp
      by_cases hm1 : m = 1
      · subst hm1
        go_wp2
        simp only [Exit.jump]
        go_end0
        exact ⟨rfl, by rw [crcByte_eq, show crcSteps 8 (r ^^^ x.toNat) = crcStep q from (by first | exact HE8.out trivial | exact HE8.out rfl)]; exact H1.out, G1.out⟩
      · have hm2 : (0 : Int) < (m : Int) - 1 := by omega
        go_wp2
        go_step3
        exact ⟨rfl, ⟨m - 1, by omega, by omega, ⟨_, _, _, _, _, _, _, _, _, _, _, _, _, _, _, _, _, _, _, _, _, _, _, _, _, _, _, _, _, _, _, _, _, _, _, by rw [HM.out (by omega)]⟩, by rw [HE.out (by omega)]; exact H1.out, G1.out⟩, by simp [intOf]; omega⟩


set_option maxHeartbeats 400000 in
theorem hsum_any (h r : Nat) (w : World) (H : Reg w h r) (hr : r < 4294967296) :
    Calls Tryz.prog 76 #[.pointer (some ⟨h, 0, none⟩)] w fun e w' => e = .returned (.int .u32 ((4294967295 - r : Nat) : Int)) ∧ w = w' := by
  go_enter Tryz.func76, Tryz.ntmps76
  go_wp2_with fail
  refine (inverted_any h r _ H hr).mono ?_
  rintro e w' ⟨rfl, rfl⟩
  go_wp2_with fail
  go_ret
  exact ⟨rfl, rfl⟩

set_option maxHeartbeats 400000 in
theorem new_any (w : World) :
    Calls Tryz.prog 74 #[] w fun e w' => e = .returned (.pointer (some ⟨w.heap.size, 0, none⟩)) ∧ Reg w' w.heap.size 4294967295 ∧ Below w.heap.size w w' := by
  have H0 : Reg (w.alloc (.cells #[.int .u32 0] 113)) w.heap.size 0 := heap_alloc_new w _
  go_enter Tryz.func74, Tryz.ntmps74
  go_wp2_with fail
  refine (begin_any w.heap.size 0 _ H0).mono ?_
  rintro e w' ⟨rfl, H1, G1⟩
  go_wp2_with fail
  go_ret
  exact ⟨rfl, H1, ((Below.refl _ w).alloc (Nat.le_refl _) _).grown G1 (by simp) (fun k hk => by cases hk; exact Nat.le_refl _)⟩

theorem reg_bAt {r : Nat} {xs : List UInt8} {j : Nat} (h : j < xs.length) : crcReg r (xs.take (j + 1)) = crcByte (crcReg r (xs.take j)) xs[j] := by
  rw [List.take_succ_eq_append_getElem h, crcReg_snoc]

set_option maxHeartbeats 400000 in
/-- 'Add': the bytes lie apart from the register's block (they are older). -/
theorem add_any (h r : Nat) (a : Option Addr) (c : Nat) (xs : List UInt8) (w : World) (H : Reg w h r) (hr : r < 4294967296) (ha : RowB w a c xs)
    (hap : ∀ b off, a = some ⟨b, off, none⟩ → b ≠ h ∨ xs = []) :
    Calls Tryz.prog 75 #[.pointer (some ⟨h, 0, none⟩), .slice a xs.length c] w fun e w' => e = .returned (.tuple #[]) ∧ Reg w' h (crcReg r xs) ∧ w.grownBy w' (some h) := by
  have hl := rowB_len ha
  go_enter Tryz.func75, Tryz.ntmps75
  go_wp2
  go_loopw [5, 8] (fun _ i wr => ∃ j : Nat, j ≤ xs.length ∧ i = .int .i64 j ∧ Reg wr h (crcReg r (xs.take j)) ∧ w.grownBy wr (some h)) (fun _ i _ => xs.length - (intOf i).toNat)
  case atStart => exact ⟨0, Nat.zero_le _, rfl, by rw [List.take_zero, crcReg_nil]; exact H, grown_refl _ _⟩
  case round =>
    obtain ⟨j, hj, rfl, hR, hG⟩ := hrel
    by_cases hlt : j < xs.length
    · obtain ⟨b, off, rfl, hb, hc⟩ := ha.bytes (by omega)
      have hne : b ≠ h := by
        rcases hap b off rfl with h1 | h1
        · exact h1
        · subst h1; simp at hlt
      have hcj := (World.cell?_of_block (a := ⟨b, off + j, none⟩) (hG.block b hb (by simpa using hne))).trans (hc j hlt)
      rw [bAt_eq hlt] at hcj
      have hst := reg_bAt (r := r) hlt
      have HS := hid hst; clear hst hc
      have hq := crcReg_lt hr (xs.take j)
      clear ha hap
      go_wp2_with fail
      refine (feed_any h (crcReg r (xs.take j)) xs[j] wr hR hq).mono ?_
      rintro e w2 ⟨rfl, H2, G2⟩
      go_wp2_with fail
      go_roundw
      case rel => exact ⟨j + 1, by omega, by go_num, by rw [HS.out]; exact H2, grown_trans hG G2⟩
      case measure => simp [intOf]; omega
    · obtain rfl : j = xs.length := by omega
      go_wp2_with fail
      go_end0
      exact ⟨rfl, by rw [List.take_length] at hR; exact hR, hG⟩

set_option maxHeartbeats 400000 in
theorem sum_any (a : Option Addr) (c : Nat) (xs : List UInt8) (w : World) (ha : RowB w a c xs) :
    Calls Tryz.prog 63 #[.slice a xs.length c] w fun e w' => e = .returned (.int .u32 (crcF xs : Int)) ∧ Below w.heap.size w w' := by
  go_enter Tryz.func63, Tryz.ntmps63
  go_wp2_with fail
  refine (new_any w).mono ?_
  rintro e w1 ⟨rfl, H1, b1⟩
  go_wp2_with fail
  refine (add_any w.heap.size 4294967295 a c xs w1 H1 (by omega) (ha.mono b1) ?_).mono ?_
  · intro b off e
    by_cases hn : 0 < xs.length
    · obtain ⟨b', off', e', hlt, _⟩ := ha.at hn
      rw [e] at e'; cases e'
      exact .inl (by omega)
    · exact .inr (List.eq_nil_of_length_eq_zero (by omega))
  rintro e w2 ⟨rfl, H2, G2⟩
  go_wp2_with fail
  refine (hsum_any w.heap.size _ w2 H2 (crcReg_lt (by omega) xs)).mono ?_
  rintro e w' ⟨rfl, rfl⟩
  go_wp2_with fail
  go_ret
  exact ⟨rfl, b1.grown G2 b1.size (fun k hk => by cases hk; exact Nat.le_refl _)⟩

end Go.Proofs.YtcackliabemecaaGreatDoor
