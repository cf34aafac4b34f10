import Derived.Test.YtoagjlaoboldgaaCrcD
import Derived.BigRegion
namespace Go.Proofs.Ytoagjlaoboldgaa
open Go.RowKit
set_option linter.unusedSimpArgs false
set_option linter.unusedVariables false

theorem flip_length (l : List UInt8) (k : Nat) : (flip l k).length = l.length := by simp [flip]

theorem flip_blk {w : World} {g : Nat} {zs : List UInt8} {Z : List Value} (h : Blk w g 5 (zs.map byteV ++ Z)) {k : Nat} (hk : k < 8 * zs.length) :
    Blk (w.setCell ⟨g, k / 8, none⟩ (byteV (zs.getD (k / 8) 0 ^^^ UInt8.ofNat (2 ^ (k % 8))))) g 5 ((flip zs k).map byteV ++ Z) := by
  have := h.set (k / 8) (byteV (zs.getD (k / 8) 0 ^^^ UInt8.ofNat (2 ^ (k % 8))))
  rw [List.set_append_left _ _ (by simp; omega), ← List.map_set] at this
  exact this

theorem pow_mod8 (k : Nat) : 2 ^ (k % 8) < 256 := by
  have := Nat.pow_lt_pow_right (a := 2) (by omega) (Nat.mod_lt k (by omega : 0 < 8))
  omega

theorem pow_ev (K : Nat) : (2 : Int) ^ (K % 8) % 256 = ((2 ^ (K % 8) : Nat) : Int) := by
  have h := pow_mod8 K
  have e : (2 : Int) ^ (K % 8) = ((2 ^ (K % 8) : Nat) : Int) := by simp
  rw [e]
  generalize 2 ^ (K % 8) = p at *
  omega

theorem flip_byte (zs : List UInt8) (k : Nat) : byteV (zs.getD (k / 8) 0 ^^^ UInt8.ofNat (2 ^ (k % 8))) = .int .u8 (bits .xor .u8 (bAt zs (k / 8) : Int) ((2 ^ (k % 8) : Nat) : Int)) := by
  have h1 := pow_mod8 k
  rw [u8_xor_nat _ _ (bAt_lt zs _) h1]
  unfold byteV bAt
  rw [UInt8.toNat_xor, show (UInt8.ofNat (2 ^ (k % 8))).toNat = 2 ^ (k % 8) from by simp; omega]

theorem neg_tmod_of {n m d : Int} (h : n < 0) (hd : 0 < d) (hm : -(n + 1) % d = m) : (n + 1).tmod d = -m := by
  have h1 := Int.tmod_eq_emod_of_nonneg (a := -(n + 1)) (b := d) (by omega)
  rw [Int.neg_tmod] at h1
  omega

theorem acc_lt {M j : Nat} (h : M < 2 ^ j) : M ^^^ 2 ^ j < 2 ^ (j + 1) :=
  Nat.xor_lt_two_pow (by rw [Nat.pow_succ]; omega) (Nat.pow_lt_pow_right (by omega) (by omega))
theorem acc_ne {M j : Nat} (h : M < 2 ^ j) : M ^^^ 2 ^ j ≠ 0 := by
  intro e
  have := xor_zero_eq e
  omega
theorem burst_step {ys zs : List UInt8} {A j M : Nat} (hl : zs.length = ys.length) (hK : A + j < 8 * ys.length) (he : crcReg 4294967295 zs = crcReg 4294967295 ys ^^^ crcSteps (8 * ys.length - A) M) :
    crcReg 4294967295 (flip zs (A + j)) = crcReg 4294967295 ys ^^^ crcSteps (8 * ys.length - A) (M ^^^ 2 ^ j) := by
  rw [crcReg_flip _ _ _ (by rw [hl]; exact hK), he, hl, crcSteps_xor, Nat.xor_assoc]
  congr 2
  rw [show 8 * ys.length - A = (8 * ys.length - (A + j)) + j from by omega, crcSteps_add, crcSteps_pow]
theorem burst_end {ys zs : List UInt8} {n M : Nat} (hM : M < 4294967296) (he : crcReg 4294967295 zs = crcReg 4294967295 ys ^^^ crcSteps n M) :
    ((crcF zs : Int) != (crcF ys : Int)) = decide (M ≠ 0) := by
  have h1 := crcReg_lt (r := 4294967295) (by omega) ys
  have h2 := crcReg_lt (r := 4294967295) (by omega) zs
  have key : (crcReg 4294967295 zs = crcReg 4294967295 ys) ↔ M = 0 := by
    rw [he]
    constructor
    · intro h
      have h3 : crcSteps n M = 0 := by
        have := congrArg (fun z => crcReg 4294967295 ys ^^^ z) h
        simp only [← Nat.xor_assoc, Nat.xor_self, Nat.zero_xor] at this
        exact this
      exact crcSteps_eq_zero hM h3
    · rintro rfl; rw [crcSteps_zero, Nat.xor_zero]
  by_cases hM0 : M = 0
  · rw [decide_eq_false (by simpa using hM0)]
    simp [crcF, key.2 hM0]
  · rw [decide_eq_true hM0]
    have : crcReg 4294967295 zs ≠ crcReg 4294967295 ys := fun h => hM0 (key.1 h)
    simp [crcF]; omega

theorem bit_of {M j : Nat} (hM : M < 4294967296) : bits .and .u32 ((M : Int) / 2 ^ j) 1 = ((M / 2 ^ j % 2 : Nat) : Int) := by
  have := and1 (q := M / 2 ^ j) (Nat.lt_of_le_of_lt (Nat.div_le_self _ _) hM)
  rw [← this]; simp

set_option maxHeartbeats 2000000 in
theorem bursts_some (w : World) (a : Option Addr) (c : Nat) (xs : List UInt8) (r : RowB w a c xs) (hpos : 0 < (xs.take 60).length) (at_ : Int) (hat : -9223372036854775808 ≤ at_ ∧ at_ ≤ 9223372036854775807) (M : Nat) (hM : M < 4294967296) :
    Calls Try.prog 5 #[.slice a xs.length c, .int .i64 at_, .int .u32 M] w fun e w' => e = .returned (.bool true) ∧ Below w.heap.size w w' := by
  have t1 : True := trivial
  have r2 := rowB_take r 60
  have h60 := len60 xs
  obtain ⟨A, hA, hAle⟩ : ∃ A : Nat, (if at_ < 0 then -(at_ + 1) else at_) % (8 * ((xs.take 60).length : Int) + 1) = (A : Int) ∧ A ≤ 8 * (xs.take 60).length := by
    have h1 := Int.emod_nonneg (if at_ < 0 then -(at_ + 1) else at_) (by omega : (8 * ((xs.take 60).length : Int) + 1) ≠ 0)
    have h2 := Int.emod_lt_of_pos (if at_ < 0 then -(at_ + 1) else at_) (by omega : 0 < (8 * ((xs.take 60).length : Int) + 1))
    obtain ⟨A, e⟩ := Int.eq_ofNat_of_zero_le h1
    exact ⟨A, e, by omega⟩
  have hfew := few_any a c xs w r
  generalize xs.take 60 = ys at *
  rcases (by omega : at_ < 0 ∨ 0 ≤ at_) with h0 | h0
  all_goals
    first
      | (rw [if_pos h0] at hA
         replace hA := neg_tmod_of h0 (by omega) hA)
      | rw [if_neg (by omega)] at hA
    go_enter Try.func5, Try.ntmps5
    go_wp2_with fail
    refine hfew.mono ?_
    rintro e w' ⟨rfl, rfl⟩
    clear hfew
    go_wp2_with (first
      | (at_builtin; have _t := t1; refine wpl_append rfl (.tmp 24) (.tmp 25) rfl E8 w.heap.size rfl rfl (Own.nil _ _ _ _) r2 (byteV_one ys) (by omega) (by omega) (Nat.le_refl _) ?_; clear t1; intro a1 c1 w1 hown hgrow b1; simp only [Nat.zero_add, List.nil_append] at hown))
    clear hA
    obtain ⟨g, o', rfl, _, _⟩ := hown.row.at hpos
    have ho' : o' = 0 := by
      rcases hown.2 with ⟨h, _⟩ | ⟨_, _, _, h, _⟩ <;> cases h; rfl
    subst ho'
    obtain ⟨Z, hblk, hBg, hZ, hZc⟩ := own_bytes hown
    clear hgrow hown
    go_loopw [8, 9, 10] (fun df i _ wr => ∃ (j m : Nat) (zs : List UInt8), j ≤ 32 ∧ i = .int .i64 j ∧ m < 2 ^ j ∧ df = .bool (decide (m ≠ 0)) ∧ zs.length = ys.length ∧ crcReg 4294967295 zs = crcReg 4294967295 ys ^^^ crcSteps (8 * ys.length - A) m ∧ Blk wr g 5 (zs.map byteV ++ Z) ∧ Below w.heap.size w wr) (fun _ i _ _ => 32 - (intOf i).toNat)
    case atStart => exact ⟨0, 0, ys, by omega, rfl, by simp, rfl, rfl, by rw [crcSteps_zero, Nat.xor_zero], hblk, b1⟩
    case round =>
      clear hblk b1
      obtain ⟨j, m, zs, hj, rfl, hm, rfl, hzl, he, hb, hbel⟩ := hrel
      by_cases hlt : j < 32
      · have hbit := bit_of (j := j) hM
        have hmm : m < 2 ^ (j + 1) := by rw [Nat.pow_succ]; omega
        by_cases h1 : M / 2 ^ j % 2 = 1
        · rw [h1] at hbit
          by_cases hK : A + j < 8 * ys.length
          · have hst := burst_step hzl hK he
            have hacc := acc_lt hm
            have hne := acc_ne hm
            have hfl := flip_blk hb (k := A + j) (by omega)
            rw [flip_byte] at hfl
            obtain ⟨_, _, e0, _, hcell⟩ := (blk_row hb (c := c1) (by omega) (by omega)).bytes (by omega)
            cases e0
            have hc0 := hcell ((A + j) / 8) (by omega)
            rw [Nat.zero_add] at hc0
            have hf0 := hb.frozen ((A + j) / 8)
            have hx0 := bAt_lt zs ((A + j) / 8)
            have hidx : (A + j) / 8 < ys.length := by omega
            have hfin : Hid (crcReg 4294967295 (flip zs (A + j)) = crcReg 4294967295 ys ^^^ crcSteps (8 * ys.length - A) (m ^^^ 2 ^ j) ∧ m ^^^ 2 ^ j < 2 ^ (j + 1) ∧ decide (m ^^^ 2 ^ j ≠ 0) = true) := ⟨hst, hacc, decide_eq_true hne⟩
            clear hst hacc hne hcell he hmm hm h1
            have eK : (A : Int) + (j : Int) = ((A + j : Nat) : Int) := by omega
            have hK' : ((A + j : Nat) : Int) < 8 * (ys.length : Int) := by omega
            obtain ⟨K, hKe⟩ : ∃ K, K = A + j := ⟨_, rfl⟩
            rw [← hKe] at eK hK' hfl hc0 hf0 hx0 hidx
            have HKe := hid hKe
            have HFL := hid hfl
            clear hKe hfl hK
            go_wp2
            have i1 : 0 ≤ (K : Int) / 8 := by omega
            have i2 : (K : Int) / 8 < (ys.length : Int) := by omega
            have i3 : ((K : Int) / 8).toNat = K / 8 := by omega
            have i4 : 0 ≤ (K : Int) % 8 := by omega
            have i5 : ((K : Int) % 8).toNat = K % 8 := by omega
            have i6 : (K : Int) % 8 < 8 := by omega
            go_region
            all_goals go_wp2
            go_roundw
            case rel =>
              refine ⟨j + 1, m ^^^ 2 ^ j, flip zs (A + j), by omega, by go_num, hfin.out.2.1, by rw [hfin.out.2.2], by rw [flip_length, hzl], hfin.out.1, ?_, ?_⟩
              · have ev : (2 : Int) ^ (K % 8) % 256 = ((2 ^ (K % 8) : Nat) : Int) := by
                  exact pow_ev K
                refine Blk.drew ?_
                rw [ev, ← HKe.out]
                exact HFL.out
              · exact (hbel.setCell (by exact hBg) _).drew
            case measure => simp [intOf]; omega
          · have HE := hid he
            have hK' : 8 * (ys.length : Int) ≤ (A : Int) + (j : Int) := by omega
            clear he hK h1
            go_wp2
            go_roundw
            case rel => exact ⟨j + 1, m, zs, by omega, by go_num, hmm, rfl, hzl, HE.out, hb, hbel⟩
            case measure => simp [intOf]; omega
        · have h2 : M / 2 ^ j % 2 = 0 := by omega
          rw [h2] at hbit
          have HE := hid he
          clear he h1 h2
          go_wp2
          go_roundw
          case rel => exact ⟨j + 1, m, zs, by omega, by go_num, hmm, rfl, hzl, HE.out, hb, hbel⟩
          case measure => simp [intOf]; omega
      · obtain rfl : j = 32 := by omega
        have hm32 : m < 4294967296 := by simpa using hm
        have hend := burst_end hm32 he
        have HE := hid hend
        have rown := blk_row hb (c := c1) (by omega) (by omega)
        have rb := r2.mono hbel
        clear hend he hm
        generalize hd : decide (m ≠ 0) = d at *
        clear hd
        have hs1 := sum_any (some ⟨g, 0, none⟩) c1 zs wr rown
        rw [hzl] at hs1
        go_wp2_with fail
        refine hs1.mono ?_
        rintro e w5 ⟨rfl, b5⟩
        clear hs1
        go_wp2_with fail
        refine (sum_any a c ys w5 (rb.mono b5)).mono ?_
        rintro e w6 ⟨rfl, b6⟩
        have HE2 := HE.out
        cases d
        all_goals
          go_wp2_with fail
          refine (lives_any _).mono ?_
          rintro e w7 ⟨rfl, b7⟩
          go_wp2_with fail
          go_ret
          exact ⟨rfl, kept_trans (kept_trans (kept_trans hbel b5) b6) b7⟩

set_option maxHeartbeats 1000000 in
theorem bursts_none (w : World) (a : Option Addr) (c : Nat) (xs : List UInt8) (r : RowB w a c xs) (hz : xs.take 60 = []) (at_ : Int) (hat : -9223372036854775808 ≤ at_ ∧ at_ ≤ 9223372036854775807) (M : Nat) (hM : M < 4294967296) :
    Calls Try.prog 5 #[.slice a xs.length c, .int .i64 at_, .int .u32 M] w fun e w' => e = .returned (.bool true) ∧ Below w.heap.size w w' := by
  have t1 : True := trivial
  have r2 := rowB_take r 60
  have hfew := few_any a c xs w r
  rw [hz] at r2 hfew
  have e0 : at_.tmod 1 = 0 := Int.tmod_one at_
  have e1 : (at_ + 1).tmod 1 = 0 := Int.tmod_one _
  have e2 : at_ % 1 = 0 := Int.emod_one at_
  clear hz
  rcases (by omega : at_ < 0 ∨ 0 ≤ at_) with h0 | h0
  all_goals
    go_enter Try.func5, Try.ntmps5
    go_wp2_with fail
    refine hfew.mono ?_
    rintro e w' ⟨rfl, rfl⟩
    clear hfew
    simp only [List.length_nil]
    go_wp2_with (first
      | (at_builtin; have _t := t1; refine wpl_append rfl (.tmp 24) (.tmp 25) rfl E8 w.heap.size rfl rfl (Own.nil _ _ _ _) r2 (byteV_one []) (by simp) (by simp) (Nat.le_refl _) ?_; clear t1; intro a1 c1 w1 hown hgrow b1; simp only [List.map_nil, List.append_nil, List.length_nil, Nat.add_zero] at hown))
    clear hgrow e0 e1 e2
    have ro := hown.row
    have rb := r2.mono b1
    go_loop [8, 9, 10] (fun df i _ => ∃ (j : Nat), j ≤ 32 ∧ i = .int .i64 j ∧ df = .bool false) (fun _ i _ => 32 - (intOf i).toNat)
    case atStart => exact ⟨0, by omega, rfl, rfl⟩
    case round =>
      obtain ⟨j, hj, rfl, rfl⟩ := hrel
      by_cases hlt : j < 32
      · have hbit := bit_of (j := j) hM
        have hd : decide ((j : Int) < 0) = false := decide_eq_false (by omega)
        have hd0 : (0 : Int) ≤ (j : Int) := by omega
        rcases (by omega : M / 2 ^ j % 2 = 1 ∨ M / 2 ^ j % 2 = 0) with h1 | h1
        all_goals
          rw [h1] at hbit
          clear h1
          go_wp2
          go_round
          case rel => exact ⟨j + 1, by omega, by go_num, rfl⟩
          case measure => simp [intOf]; omega
      · obtain rfl : j = 32 := by omega
        have hs1 := sum_any a1 c1 [] w1 ro
        simp only [List.length_nil] at hs1
        go_wp2_with fail
        refine hs1.mono ?_
        rintro e w5 ⟨rfl, b5⟩
        clear hs1
        have hs2 := sum_any a c [] w5 (rb.mono b5)
        simp only [List.length_nil] at hs2
        go_wp2_with fail
        refine hs2.mono ?_
        rintro e w6 ⟨rfl, b6⟩
        clear hs2
        have HE2 : ((crcF [] : Int) != (crcF [] : Int)) = false := by simp
        go_wp2_with fail
        refine (lives_any _).mono ?_
        rintro e w7 ⟨rfl, b7⟩
        go_wp2_with fail
        go_ret
        exact ⟨rfl, kept_trans (kept_trans (kept_trans b1 b5) b6) b7⟩

theorem CrcBursts_walk (w : World) (a : Option Addr) (c : Nat) (xs : List UInt8) (r : RowB w a c xs) (at_ : Int) (hat : (Lit.int .i64 at_).wf = true) (m : Int) (hm : (Lit.int .u32 m).wf = true) :
    Calls Try.prog 5 #[.slice a xs.length c, .int .i64 at_, .int .u32 m] w fun e w' => e = .returned (.bool true) ∧ Below w.heap.size w w' := by
  have h2 := u32_bd hm
  obtain ⟨M, rfl⟩ := Int.eq_ofNat_of_zero_le h2.1
  by_cases hpos : 0 < (xs.take 60).length
  · exact bursts_some w a c xs r hpos at_ (i64_bd hat) M (by omega)
  · exact bursts_none w a c xs r (List.eq_nil_of_length_eq_zero (by omega)) at_ (i64_bd hat) M (by omega)

end Go.Proofs.Ytoagjlaoboldgaa
