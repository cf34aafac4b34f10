import Derived.Test.YtoagjlaoboldgaaCrcC
namespace Go.Proofs.Ytoagjlaoboldgaa
open Go.RowKit
set_option linter.unusedSimpArgs false
set_option linter.unusedVariables false

theorem sub1 {ys : List UInt8} {j : Nat} (h : j < ys.length) : (ys.drop j).take 1 = [ys[j]] := by
  rw [List.drop_eq_getElem_cons h]; rfl
theorem reg_one (r : Nat) (x : UInt8) : crcReg r [x] = crcByte r x := by rw [crcReg_cons, crcReg_nil]

theorem rowB_one {w : World} {b off c : Nat} {ys : List UInt8} (h : RowB w (some ⟨b, off, none⟩) c ys) {j : Nat} (hj : j < ys.length) : RowB w (some ⟨b, off + j, none⟩) (c - j) [ys[j]] := by
  have := rowB_sub h j 1 (by omega)
  rwa [sub1 hj] at this

theorem reg_take_ge {r : Nat} {ys : List UInt8} {j : Nat} (h : ys.length ≤ j) : crcReg r (ys.take (j + 1)) = crcReg r (ys.take j) := by
  rw [List.take_of_length_le h, List.take_of_length_le (by omega)]

/-- one round's Add, or none -/
theorem add_one {h r : Nat} {b off c : Nat} {ys : List UInt8} {w : World} {j : Nat} (hj : j < ys.length) (H : Reg w h r) (hr : r < 4294967296) (ha : RowB w (some ⟨b, off, none⟩) c ys) (hne : b ≠ h) :
    Calls Try.prog 12 #[.pointer (some ⟨h, 0, none⟩), .slice (some ⟨b, off + j, none⟩) 1 (c - j)] w fun e w' => e = .returned (.tuple #[]) ∧ Reg w' h (crcByte r ys[j]) ∧ w.grownBy w' (some h) := by
  have := add_any h r (some ⟨b, off + j, none⟩) (c - j) [ys[j]] w H hr (rowB_one ha hj) (fun b' off' e => by cases e; exact .inl hne)
  rwa [reg_one] at this

theorem row_grown {w w' : World} {k sz : Nat} {a : Option Addr} {n c : Nat} {cs : List Value} (h : Row w sz a n c cs) (g : w.grownBy w' (some k)) (hne : ∀ b off, a = some ⟨b, off, none⟩ → 0 < n → b ≠ k) : Row w' sz a n c cs := by
  obtain ⟨h1, h2, h3, h4, h5⟩ := h
  refine ⟨h1, h2, h3, h4, fun hn => ?_⟩
  obtain ⟨b, off, e, hlt, hc⟩ := h5 hn
  have := hne b off e hn
  exact ⟨b, off, e, Nat.lt_of_lt_of_le hlt g.size, fun j u hu => (World.cell?_of_block (a := ⟨b, off + j, none⟩) (g.block b hlt (by simpa using this))).trans (hc j u hu)⟩

theorem reg_grown {w w' : World} {h k r : Nat} (H : Reg w h r) (g : w.grownBy w' (some k)) (hne : h ≠ k) : Reg w' h r :=
  (g.block h H.lt (by simpa using hne)).trans H

set_option maxHeartbeats 1000000 in
theorem CrcApart_walk (w : World) (a : Option Addr) (c : Nat) (xs : List UInt8) (r : RowB w a c xs) (a' : Option Addr) (c' : Nat) (xs' : List UInt8) (r' : RowB w a' c' xs') :
    Calls Try.prog 6 #[.slice a xs.length c, .slice a' xs'.length c'] w fun e w' => e = .returned (.bool true) ∧ Below w.heap.size w w' := by
  have r2 := rowB_take r 60
  have r2' := rowB_take r' 60
  have h60 := len60 xs
  have h60' := len60 xs'
  go_enter Try.func6, Try.ntmps6
  go_wp2_with fail
  refine (few_any a c xs w r).mono ?_
  rintro e w' ⟨rfl, rfl⟩
  generalize xs.take 60 = ys at *
  go_wp2_with fail
  refine (few_any a' c' xs' w r').mono ?_
  rintro e w' ⟨rfl, rfl⟩
  generalize xs'.take 60 = zs at *
  clear r r'
  go_wp2_with fail
  refine (new_any w).mono ?_
  rintro e w1 ⟨rfl, H1, b1⟩
  go_wp2_with fail
  refine (new_any w1).mono ?_
  rintro e w2 ⟨rfl, H2, b2⟩
  have H1' := H1.mono b2
  have hlt1 := H1.lt
  have bb := kept_trans b1 b2
  have R1 := r2.mono bb
  have R2 := r2'.mono bb
  have hl1 : ys.length ≤ c := r2.2.1
  have hl2 : zs.length ≤ c' := r2'.2.1
  have hold1 : ∀ b off, a = some ⟨b, off, none⟩ → 0 < ys.length → b < w.heap.size := fun b off e hn => by
    obtain ⟨b', off', e', hlt, _⟩ := r2.at hn; rw [e] at e'; cases e'; exact hlt
  have hold2 : ∀ b off, a' = some ⟨b, off, none⟩ → 0 < zs.length → b < w.heap.size := fun b off e hn => by
    obtain ⟨b', off', e', hlt, _⟩ := r2'.at hn; rw [e] at e'; cases e'; exact hlt
  clear H1 r2 r2'
  generalize hg : w.heap.size = g at *
  generalize hh : w1.heap.size = h at *
  have HG := hid hg; clear hg hh
  go_wp2_with fail
  go_loopw [7] (fun i wr => ∃ j : Nat, j ≤ 60 ∧ i = .int .i64 j ∧ Reg wr g (crcReg 4294967295 (ys.take j)) ∧ Reg wr h (crcReg 4294967295 (zs.take j)) ∧ Below g w wr ∧ RowB wr a c ys ∧ RowB wr a' c' zs) (fun i _ => 60 - (intOf i).toNat)
  case atStart => exact ⟨0, by omega, rfl, by rw [List.take_zero, crcReg_nil]; exact H1', by rw [List.take_zero, crcReg_nil]; exact H2, bb, R1, R2⟩
  case round =>
    clear H1' H2 R1 R2
    obtain ⟨j, hj, rfl, G1, G2, hbel, R1, R2⟩ := hrel
    have q1 := crcReg_lt (r := 4294967295) (by omega) (ys.take j)
    have q2 := crcReg_lt (r := 4294967295) (by omega) (zs.take j)
    by_cases hlt : j < 60
    · by_cases hy : j < ys.length
      · by_cases hz : j < zs.length
        · obtain ⟨b, off, rfl, hb, _⟩ := R1.at (by omega)
          have hbg := hold1 b off rfl (by omega)
          have hcj : ¬ c = j := by omega
          have hst := reg_bAt (r := 4294967295) hy
          have HS := hid hst; clear hst
          have A1 := add_one hy G1 q1 R1 (by omega)
          have HA := hid A1; clear A1
          obtain ⟨b', off', rfl, hb', _⟩ := R2.at (by omega)
          have hbg' := hold2 b' off' rfl (by omega)
          have hcj' : ¬ c' = j := by omega
          have hst := reg_bAt (r := 4294967295) hz
          have HS' := hid hst; clear hst
          have e1 : j + 1 - j = 1 := by omega
          go_wp2_with fail
          try rw [e1]
          refine HA.out.mono ?_
          rintro e w3 ⟨rfl, K1, g3⟩
          have K2 := reg_grown G2 g3 (by omega)
          have S1 := row_grown R1 g3 (fun b off e hn => by have := hold1 b off e hn; omega)
          have S2 := row_grown R2 g3 (fun b off e hn => by have := hold2 b off e hn; omega)
          have b3 := hbel.grown g3 (by have := G1.lt; omega) (fun k hk => by cases hk; exact Nat.le_refl _)
          clear R1 R2 G1 G2 hbel
          go_wp2_with fail
          try rw [e1]
          refine (add_one hz K2 q2 S2 (by omega)).mono ?_
          rintro e w4 ⟨rfl, L2, g4⟩
          have L1 := reg_grown K1 g4 (by omega)
          have T1 := row_grown S1 g4 (fun b off e hn => by have := hold1 b off e hn; omega)
          have T2 := row_grown S2 g4 (fun b off e hn => by have := hold2 b off e hn; omega)
          have b4 := b3.grown g4 (by have := K1.lt; omega) (fun k hk => by cases hk; omega)
          clear S1 S2 K1 K2 b3 g4
          go_wp2_with fail
          go_roundw
          case rel => exact ⟨j + 1, by omega, by go_num, by rw [HS.out]; exact L1, by rw [HS'.out]; exact L2, b4, T1, T2⟩
          case measure => simp [intOf]; omega
        · obtain ⟨b, off, rfl, hb, _⟩ := R1.at (by omega)
          have hbg := hold1 b off rfl (by omega)
          have hcj : ¬ c = j := by omega
          have hst := reg_bAt (r := 4294967295) hy
          have HS := hid hst; clear hst
          have A1 := add_one hy G1 q1 R1 (by omega)
          have HA := hid A1; clear A1
          have HS' := hid (reg_take_ge (r := 4294967295) (by omega : zs.length ≤ j))
          have e1 : j + 1 - j = 1 := by omega
          go_wp2_with fail
          try rw [e1]
          refine HA.out.mono ?_
          rintro e w3 ⟨rfl, K1, g3⟩
          have K2 := reg_grown G2 g3 (by omega)
          have S1 := row_grown R1 g3 (fun b off e hn => by have := hold1 b off e hn; omega)
          have S2 := row_grown R2 g3 (fun b off e hn => by have := hold2 b off e hn; omega)
          have b3 := hbel.grown g3 (by have := G1.lt; omega) (fun k hk => by cases hk; exact Nat.le_refl _)
          clear R1 R2 G1 G2 hbel
          have L1 := K1; have L2 := K2; have T1 := S1; have T2 := S2; have b4 := b3
          clear S1 S2 K1 K2 b3
          go_wp2_with fail
          go_roundw
          case rel => exact ⟨j + 1, by omega, by go_num, by rw [HS.out]; exact L1, by rw [HS'.out]; exact L2, b4, T1, T2⟩
          case measure => simp [intOf]; omega
      · by_cases hz : j < zs.length
        · have HS := hid (reg_take_ge (r := 4294967295) (by omega : ys.length ≤ j))
          obtain ⟨b', off', rfl, hb', _⟩ := R2.at (by omega)
          have hbg' := hold2 b' off' rfl (by omega)
          have hcj' : ¬ c' = j := by omega
          have hst := reg_bAt (r := 4294967295) hz
          have HS' := hid hst; clear hst
          have e1 : j + 1 - j = 1 := by omega
          have K1 := G1; have K2 := G2; have S1 := R1; have S2 := R2; have b3 := hbel
          clear R1 R2 G1 G2 hbel
          go_wp2_with fail
          try rw [e1]
          refine (add_one hz K2 q2 S2 (by omega)).mono ?_
          rintro e w4 ⟨rfl, L2, g4⟩
          have L1 := reg_grown K1 g4 (by omega)
          have T1 := row_grown S1 g4 (fun b off e hn => by have := hold1 b off e hn; omega)
          have T2 := row_grown S2 g4 (fun b off e hn => by have := hold2 b off e hn; omega)
          have b4 := b3.grown g4 (by have := K1.lt; omega) (fun k hk => by cases hk; omega)
          clear S1 S2 K1 K2 b3 g4
          go_wp2_with fail
          go_roundw
          case rel => exact ⟨j + 1, by omega, by go_num, by rw [HS.out]; exact L1, by rw [HS'.out]; exact L2, b4, T1, T2⟩
          case measure => simp [intOf]; omega
        · have HS := hid (reg_take_ge (r := 4294967295) (by omega : ys.length ≤ j))
          have HS' := hid (reg_take_ge (r := 4294967295) (by omega : zs.length ≤ j))
          have K1 := G1; have K2 := G2; have S1 := R1; have S2 := R2; have b3 := hbel
          clear R1 R2 G1 G2 hbel
          have L1 := K1; have L2 := K2; have T1 := S1; have T2 := S2; have b4 := b3
          clear S1 S2 K1 K2 b3
          go_wp2_with fail
          go_roundw
          case rel => exact ⟨j + 1, by omega, by go_num, by rw [HS.out]; exact L1, by rw [HS'.out]; exact L2, b4, T1, T2⟩
          case measure => simp [intOf]; omega
    · obtain rfl : j = 60 := by omega
      rw [List.take_of_length_le h60] at G1 q1
      rw [List.take_of_length_le h60'] at G2 q2
      go_wp2_with fail
      refine (hsum_any g _ wr G1 q1).mono ?_
      rintro e w' ⟨rfl, rfl⟩
      go_wp2_with fail
      refine (sum_any a c ys wr R1).mono ?_
      rintro e w5 ⟨rfl, b5⟩
      have hb1 : (((4294967295 - crcReg 4294967295 ys : Nat) : Int) == (crcF ys : Int)) = true := by simp [crcF]
      have G2' := G2.mono b5
      have R2' := R2.mono b5
      go_wp2_with fail
      refine (hsum_any h _ w5 G2' q2).mono ?_
      rintro e w' ⟨rfl, rfl⟩
      go_wp2_with fail
      refine (sum_any a' c' zs w5 R2').mono ?_
      rintro e w6 ⟨rfl, b6⟩
      have hb2 : (((4294967295 - crcReg 4294967295 zs : Nat) : Int) == (crcF zs : Int)) = true := by simp [crcF]
      go_wp2_with fail
      refine (lives_any _).mono ?_
      rintro e w7 ⟨rfl, b7⟩
      go_wp2_with fail
      go_ret
      have hbel' : Below w.heap.size w wr := by rw [HG.out]; exact hbel
      exact ⟨rfl, kept_trans (kept_trans (kept_trans hbel' b5) b6) b7⟩

end Go.Proofs.Ytoagjlaoboldgaa
