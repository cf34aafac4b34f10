import Derived.Test.YtpkmkmkknhnihaaSlotL
namespace Go.Proofs.Ytpkmkmkknhnihaa
open Go.RowKit
set_option linter.unusedSimpArgs false
set_option linter.unusedVariables false

theorem sealF_take {l : List UInt8} (h : l.length ≤ 60) : (sealF l).take 60 = padF l := by
  unfold sealF; rw [List.take_append_of_le_length (by rw [padF_length h]; omega), List.take_of_length_le (by rw [padF_length h]; omega)]
theorem getF_seal {l : List UInt8} (h : l.length ≤ 60) : getF (sealF l) 60 4 = some (crcF (padF l)) := by
  have hs : sl (sealF l) 60 4 = le 4 (crcF (padF l)) := by
    unfold sealF sl
    rw [List.drop_append_of_le_length (by rw [padF_length h]; omega), List.drop_eq_nil_of_le (by rw [padF_length h]; omega)]
    simp [le_length, List.take_of_length_le]
  have hc := crcF_lt (padF l)
  have := getF_mk (xs := sealF l) (a := 60) (k := 4) (by rw [sealF_length h]; omega) rfl (by rw [hs, ofLE_le' 4 _ (by omega)]; omega)
  rw [hs, ofLE_le' 4 _ (by omega)] at this
  exact this
theorem chk_seal {l : List UInt8} (h : l.length ≤ 60) : chk (sealF l) = 0 := by
  unfold chk
  rw [if_pos (by rw [sealF_length h]; omega), getF_seal h, sealF_take h, if_pos rfl]

theorem slotBody_le (e h r er i wr : Int) : (foldF [] (slotF e h r er i wr)).length ≤ 60 := by
  have := foldF_length_le [] (slotF e h r er i wr)
  simp [slotF] at this ⊢; omega
theorem chk_slotL {e h r er i wr : Int} (hm : mayS e h r er i wr = true) : chk (slotL e h r er i wr) = 0 := by
  unfold slotL; rw [if_pos hm]; exact chk_seal (slotBody_le _ _ _ _ _ _)

theorem gN_of_sl {xs : List UInt8} {a k v : Nat} (hs : sl xs a k = le k v) (h : a + k ≤ xs.length) (hk : widthB k = true) (hv : v < 256 ^ k) (hv2 : v ≤ 9223372036854775807) : gN xs a k = v := by
  have := getF_mk h hk (by rw [hs, ofLE_le' k v hv]; exact hv2)
  rw [hs, ofLE_le' k v hv] at this
  unfold gN; rw [this]; rfl

theorem gN_slot {E H R Er I W : Nat} (z : List UInt8) (hz : z.length = 38) (h1 : E ≤ 1073741824) (h2 : H ≤ 1024) (h3 : R ≤ 1099511627776) (h4 : Er ≤ 255) (h5 : I ≤ 32) (h6 : W ≤ 1099511627776) :
    gN (body26 E H R Er I W ++ z) 0 4 = E ∧ gN (body26 E H R Er I W ++ z) 4 4 = H ∧ gN (body26 E H R Er I W ++ z) 8 8 = R ∧ gN (body26 E H R Er I W ++ z) 16 1 = Er ∧ gN (body26 E H R Er I W ++ z) 17 1 = I ∧ gN (body26 E H R Er I W ++ z) 18 8 = W := by
  have hl : (body26 E H R Er I W ++ z).length = 64 := by simp [body26_length, hz]
  refine ⟨gN_of_sl ?_ (by omega) rfl (by omega) (by omega), gN_of_sl ?_ (by omega) rfl (by omega) (by omega), gN_of_sl ?_ (by omega) rfl (by omega) (by omega), gN_of_sl ?_ (by omega) rfl (by omega) (by omega), gN_of_sl ?_ (by omega) rfl (by omega) (by omega), gN_of_sl ?_ (by omega) rfl (by omega) (by omega)⟩
  all_goals simp [sl, body26, le_length, List.take_append, List.drop_append, drop_le, List.take_of_length_le]

/-- what is put is read -/
theorem read_put {e h r er i wr : Int} (hm : mayS e h r er i wr = true) : rsV (slotL e h r er i wr) = slotV e h r er i wr ∧ rsE (slotL e h r er i wr) = 0 := by
  have hc := chk_slotL hm
  obtain ⟨a1, a2, a3, a4, a5, a6, a7, a8, a9, a10, a11, a12⟩ := mayS_iff hm
  obtain ⟨E, rfl⟩ := Int.eq_ofNat_of_zero_le a1
  obtain ⟨H, rfl⟩ := Int.eq_ofNat_of_zero_le a3
  obtain ⟨R, rfl⟩ := Int.eq_ofNat_of_zero_le a5
  obtain ⟨W, rfl⟩ := Int.eq_ofNat_of_zero_le a7
  obtain ⟨Er, rfl⟩ := Int.eq_ofNat_of_zero_le a9
  obtain ⟨I, rfl⟩ := Int.eq_ofNat_of_zero_le a11
  have hl := slotL_length hm
  have hq := slotL_eq hm
  rw [List.append_assoc] at hq
  obtain ⟨g1, g2, g3, g4, g5, g6⟩ := gN_slot (E := E) (H := H) (R := R) (Er := Er) (I := I) (W := W) (List.replicate 34 0 ++ le 4 (crcF (body26 E H R Er I W ++ List.replicate 34 0))) (by simp [le_length]) (by omega) (by omega) (by omega) (by omega) (by omega) (by omega)
  rw [← hq] at g1 g2 g3 g4 g5 g6
  have hg : rsGood (slotL E H R Er I W) = true := by
    unfold rsGood rsM rsL
    rw [g1, g2, g3, g4, g5, g6, hm, List.take_of_length_le (by omega)]
    simp
  unfold rsV rsE
  rw [if_pos hc, if_pos hc, hg, if_pos rfl, if_pos rfl]
  unfold rsS
  rw [g1, g2, g3, g4, g5, g6]
  exact ⟨rfl, rfl⟩

theorem read_head {n : Int} (hb : btw n 1152921504606846976 = true) : rhN (headL n) = n ∧ rhE (headL n) = 0 := by
  have hn := btw_iff.1 hb
  have hl := headL_length hb
  have hc : chk (headL n) = 0 := by
    unfold headL; rw [if_pos hb]; exact chk_seal (by have := headBody_length hb; omega)
  have hN : nH (headL n) = n.toNat := by unfold nH; rw [getF_headL hb]; rfl
  have hi : ((n.toNat : Nat) : Int) = n := Int.toNat_of_nonneg hn.1
  have hg : rhGood (headL n) = true := by
    unfold rhGood
    rw [hN, hi, hb, List.take_of_length_le (by omega)]
    simp
  unfold rhN rhE
  rw [if_pos hc, if_pos hc, hg, if_pos rfl, if_pos rfl, hN, hi]
  exact ⟨rfl, rfl⟩

/-- what is read is put as just those bytes -/
theorem put_read {xs : List UInt8} (h64 : xs.length = 64) (he : rsE xs = 0) : ∃ e h r er i wr : Int, rsV xs = slotV e h r er i wr ∧ slotL e h r er i wr = xs ∧ mayS e h r er i wr = true := by
  unfold rsE at he
  by_cases hc : chk xs = 0
  · rw [if_pos hc] at he
    by_cases hg : rsGood xs = true
    · have hg' := hg
      unfold rsGood at hg'
      simp only [Bool.and_eq_true, decide_eq_true_eq] at hg'
      refine ⟨_, _, _, _, _, _, by unfold rsV; rw [if_pos hc, if_pos hg]; rfl, ?_, hg'.1⟩
      rw [← show rsL xs = slotL (gN xs 0 4) (gN xs 4 4) (gN xs 8 8) (gN xs 16 1) (gN xs 17 1) (gN xs 18 8) from rfl, ← hg'.2, List.take_of_length_le (by omega)]
    · rw [if_neg hg] at he; simp at he
  · rw [if_neg hc] at he; exact absurd he hc

end Go.Proofs.Ytpkmkmkknhnihaa
