import Derived.Test.YtmjdplnadclgnaaBitsE
import Derived.Test.YtmjdplnadclgnaaNumA
namespace Go.Proofs.Ytmjdplnadclgnaa
open Go.RowKit Go.WideShapes
set_option linter.unusedSimpArgs false
set_option linter.unusedVariables false

set_option maxHeartbeats 2000000 in
set_option maxRecDepth 100000 in
theorem truths_any (xs : List UInt8) (w : World) (hx : xs.length = 16) :
    Calls Try.prog 14 #[.agg (mapC xs)] w fun e w' => ∃ a' c', e = .returned (.slice a' 128 c') ∧ Own w' w.heap.size 4 1 a' 128 c' (truthsV xs 128) ∧ Below w.heap.size w w' := by
  have K0 : Blk (w.alloc (.cells (mapC xs) 24)) w.heap.size 24 (xs.map byteV) := heap_alloc_new w _
  have B0 : Below w.heap.size w (w.alloc (.cells (mapC xs) 24)) := (Below.refl _ w).alloc (Nat.le_refl _) _
  go_enter Try.func14, Try.ntmps14
  go_wp2_with fail
  generalize (w.alloc (.cells (mapC xs) 24)) = w1 at *
  go_loopw [3, 4] (fun l i wr => ∃ (j : Nat) (a' : Option Addr) (c' : Nat), j ≤ 16 ∧ i = .int .i64 j ∧ l = .slice a' j c' ∧ Own wr (w.heap.size + 1) 5 1 a' j c' ((xs.take j).map byteV) ∧ Blk wr w.heap.size 24 (xs.map byteV) ∧ Below w.heap.size w wr)
    (fun _ i _ => 16 - (intOf i).toNat)
  case atStart => exact ⟨0, none, 0, by omega, rfl, rfl, Own.nil _ _ _ _, K0, B0⟩
  case round =>
    obtain ⟨j, a', c', hj, rfl, rfl, ho, kr, br⟩ := hrel
    by_cases hlt : j < 16
    · have c0 : wr.cell? ⟨w.heap.size, j, none⟩ = some (.int .u8 (bAt xs j : Int)) := by
        rw [Blk.cell kr (i := j) (by simp; omega)]
        simp [byteV, bAt_eq (show j < xs.length by omega)]
      have hltd : decide ((j : Int) < 16) = true := decide_eq_true (by omega)
      have htk : (xs.take (j + 1)).map byteV = (xs.take j).map byteV ++ [.int .u8 (bAt xs j : Int)] := by
        rw [List.take_succ_eq_append_getElem (by omega), List.map_append, bAt_eq (show j < xs.length by omega)]
        rfl
      have HT := hid htk
      clear htk
      go_wp2_with (first
        | (at_builtin; refine wpl_append rfl (.tmp 9) (.tmp 13) rfl E8 (w.heap.size + 1) rfl rfl (ho.alloc _) (row_new1 _ _ _) (by simp [Value.oneCell']) (by omega) (by omega) (by have := kr.lt; simp; omega) ?_; intro a3 c3 w3 o3 g3 b3))
      go_roundw
      case rel =>
        refine ⟨j + 1, a3, c3, by omega, by go_num, by first | rfl | simp, ?_, ?_, ?_⟩
        · rw [HT.out]; exact o3
        · exact Blk.below (kr.mono ((Below.refl _ _).alloc (Nat.le_refl _) _)) b3 (by omega)
        · exact (br.alloc (by have := kr.lt; omega) _).trans (b3.mono (by omega))
      case measure => simp [intOf]; omega
    · obtain rfl : j = 16 := by omega
      have htk : (xs.take 16).map byteV = xs.map byteV := by rw [List.take_of_length_le (by omega)]
      rw [htk] at ho
      have hr := ho.row
      rw [← hx] at hr
      have HR := hid hr
      clear hr htk
      go_wp2_with (first
        | (go_at_call 25; refine (truthsRef_any a' c' xs wr HR.out hx).mono ?_; rintro e w2 ⟨a2, c2, rfl, o2, b2⟩))
      go_ret
      exact ⟨a2, c2, rfl, o2.low br.size, below_trans br b2 br.size⟩

/-! what the document says of a map's bytes -/
theorem truthsV_get (xs : List UInt8) {n k : Nat} (h : k < n) : (truthsV xs n)[k]? = some (.bool (bitB xs k)) := by
  simp [truthsV, h]

set_option maxHeartbeats 4000000 in
set_option maxRecDepth 100000 in
theorem bytesRef_any (a : Option Addr) (c : Nat) (xs : List UInt8) (w : World) (ha : Row w 1 a 128 c (truthsV xs 128)) (hx : xs.length = 16) :
    Calls Try.prog 24 #[.slice a 128 c] w fun e w' => RetB w xs e w' := by
  obtain ⟨b, off, rfl, hb, hcell⟩ := ha.at (by omega)
  clear ha
  go_enter Try.func24, Try.ntmps24
  go_wp2_with fail
  go_loopw [3, 4] (fun l i wr => ∃ (j : Nat) (a' : Option Addr) (c' : Nat), j ≤ 16 ∧ i = .int .i64 j ∧ l = .slice a' j c' ∧ Own wr w.heap.size 5 1 a' j c' ((xs.take j).map byteV) ∧ Below w.heap.size w wr)
    (fun _ i _ => 16 - (intOf i).toNat)
  case atStart => exact ⟨0, none, 0, by omega, rfl, rfl, Own.nil _ _ _ _, Below.refl _ _⟩
  case round =>
    obtain ⟨j, a', c', hj, rfl, rfl, ho, br⟩ := hrel
    by_cases hlt : j < 16
    · have hb8 := bAt_lt xs j
      have hltd : decide ((j : Int) < 16) = true := decide_eq_true (by omega)
      go_wp2_with fail
      go_loopw [5, 6] (fun x i wr => ∃ (m : Nat), m ≤ 8 ∧ i = .int .i64 ((m : Int) - 1) ∧ x = .int .i64 (bAt xs j / 2 ^ m : Nat) ∧ Own wr w.heap.size 5 1 a' j c' ((xs.take j).map byteV) ∧ Below w.heap.size w wr)
        (fun _ i _ => (intOf i + 1).toNat)
      case atStart => exact ⟨8, by omega, rfl, by rw [Nat.div_eq_of_lt (by omega)]; rfl, ho, br⟩
      case round =>
        obtain ⟨m', hm, rfl, rfl, ho, br⟩ := hrel
        cases m' with
        | zero =>
          have hpw : bAt xs j / 2 ^ 0 = bAt xs j := by simp
          rw [show (((0 : Nat) : Int) - 1) = -1 from rfl, hpw]
          have hcv : IntKind.u8.wrap (bAt xs j : Int) = bAt xs j := by rw [IntKind.wrap_u8]; omega
          have htk : (xs.take (j + 1)).map byteV = (xs.take j).map byteV ++ [.int .u8 (bAt xs j : Int)] := by
            rw [List.take_succ_eq_append_getElem (by omega), List.map_append, bAt_eq (show j < xs.length by omega)]
            rfl
          have HT := hid htk
          clear htk hpw hcell
          go_wp2_with (first
            | (at_builtin; refine wpl_append rfl (.tmp 26) (.tmp 29) rfl E8 w.heap.size rfl rfl (ho.alloc _) (row_new1 _ _ _) (by simp [Value.oneCell']) (by omega) (by omega) (by have := br.size; simp; omega) ?_; intro a3 c3 w3 o3 g3 b3))
          go_roundw
          case rel =>
            refine ⟨j + 1, a3, c3, by omega, by go_num, by first | rfl | simp, ?_, (br.alloc br.size _).trans b3⟩
            rw [HT.out]; exact o3
          case measure => simp [intOf]; omega
        | succ m =>
          have cj := (br.cell (p := ⟨b, off + (8 * j + m), none⟩) hb).trans (hcell (8 * j + m) _ (truthsV_get xs (by omega)))
          have hbit : bitB xs (8 * j + m) = decide (bAt xs j / 2 ^ m % 2 = 1) := by
            unfold bitB
            rw [show (8 * j + m) / 8 = j by omega, show (8 * j + m) % 8 = m by omega, Nat.testBit_eq_decide_div_mod_eq]
          have hhalf : bAt xs j / 2 ^ (m + 1) = bAt xs j / 2 ^ m / 2 := by rw [Nat.div_div_eq_div_mul, Nat.pow_succ]
          have hq : bAt xs j / 2 ^ m ≤ bAt xs j := Nat.div_le_self _ _
          have hm1 : ((m + 1 : Nat) : Int) - 1 = m := by omega
          rw [hm1, hhalf]
          rw [hbit] at cj
          clear hhalf hbit hm1 hcell
          generalize hqq : bAt xs j / 2 ^ m = q at *
          have HQ := hid hqq
          clear hqq
          have e1 : IntKind.i64.wrap (8 * (j : Int)) = 8 * j := IntWalk.i64_in _ (by omega)
          have e2 : IntKind.i64.wrap (8 * (j : Int) + m) = 8 * j + m := IntWalk.i64_in _ (by omega)
          have e3 : 0 ≤ 8 * (j : Int) + m := by omega
          have e4 : 8 * (j : Int) + m < 128 := by omega
          have e5 : (8 * (j : Int) + m).toNat = 8 * j + m := by omega
          have hmd : decide ((0 : Int) ≤ (m : Int)) = true := decide_eq_true (by omega)
          obtain ⟨h, hh⟩ : ∃ h, q / 2 = h := ⟨_, rfl⟩
          by_cases hodd : q % 2 = 1
          · rw [decide_eq_true hodd] at cj
            have hqe : q = 2 * h + 1 := by omega
            rw [hh]
            have HE := hid hqe
            clear hh hqe hodd hq
            have e6 : h ≤ 255 := by have := HE.out; have := HQ.out; have : bAt xs j / 2 ^ m ≤ bAt xs j := Nat.div_le_self _ _; omega
            go_wp2_with fail
            go_roundw
            case rel => exact ⟨m, by omega, by go_num, by rw [HQ.out, HE.out]; go_num, ho, br⟩
            case measure => first | (simp [intOf]; done) | (simp [intOf]; omega)
          · rw [decide_eq_false hodd] at cj
            have hqe : q = 2 * h := by omega
            rw [hh]
            have HE := hid hqe
            clear hh hqe hodd hq
            have e6 : h ≤ 255 := by have := HE.out; have := HQ.out; have : bAt xs j / 2 ^ m ≤ bAt xs j := Nat.div_le_self _ _; omega
            go_wp2_with fail
            go_roundw
            case rel => exact ⟨m, by omega, by go_num, by rw [HQ.out, HE.out]; go_num, ho, br⟩
            case measure => first | (simp [intOf]; done) | (simp [intOf]; omega)
    · obtain rfl : j = 16 := by omega
      have htk : (xs.take 16).map byteV = xs.map byteV := by rw [List.take_of_length_le (by omega)]
      rw [htk] at ho
      have HH := hid (show OwnB wr w.heap.size a' c' xs from by rw [OwnB, hx]; exact ho)
      clear htk ho
      go_wp2_with fail
      go_ret
      exact ⟨a', c', by rw [hx]; rfl, HH.out, br⟩

end Go.Proofs.Ytmjdplnadclgnaa
