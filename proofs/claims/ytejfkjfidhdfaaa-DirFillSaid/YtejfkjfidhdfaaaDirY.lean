/- A directory's names: the document's Names. -/
import Derived.Test.YtejfkjfidhdfaaaDirX
namespace Go.Proofs.Ytejfkjfidhdfaaa
open Go.RowKit Go.Shelf
set_option linter.unusedSimpArgs false
set_option linter.unusedVariables false

set_option maxHeartbeats 4000000 in
theorem refNames_any (t : List EntT) (b off c : Nat) (ht : t.length = 16) (w : World) (hE : EntAt w b off t) :
    Calls Try.prog 24 #[.slice (some ⟨b, off, none⟩) 16 c] w fun e w' => ∃ a c', e = .returned (.slice a (isort (nmT t)).length c') ∧ RowS w' a c' (isort (nmT t)) ∧ Below w.heap.size w w' := by
  have HT := hid ht; have HE := hid hE
  clear ht hE
  go_enter Try.func24, Try.ntmps24
  go_wp2_with fail
  go_loopw [3, 4] (fun o i wr => ∃ (k m : Nat) (a1 : Option Addr) (c1 : Nat) (S : List ByteArray), k ≤ 16 ∧ i = .int .i64 k ∧ o = .slice a1 m c1 ∧ S = isort (nmT (t.take k)) ∧ S.length = m ∧ m ≤ k ∧ Own wr w.heap.size 9 1 a1 m c1 (S.map strV) ∧ Below w.heap.size w wr) (fun _ i _ => 16 - (intOf i).toNat)
  case atStart => exact ⟨0, 0, none, 0, [], by omega, rfl, rfl, rfl, rfl, by omega, Own.nil _ _ _ _, Below.refl _ _⟩
  case round =>
    obtain ⟨k, m, a1, c1, S, hk, rfl, rfl, hS, hm, hmk, ho, hbl⟩ := hrel
    have HO := hid ho; have HBL := hid hbl; have HS := hid hS; have HM := hid hm
    have HEr := hid (HE.out.mono hbl)
    clear ho hbl hS hm
    by_cases hk16 : k < 16
    · have hkt : k < t.length := by rw [HT.out]; exact hk16
      have ik : (k : Int) < 16 := by omega
      have dk : decide ((k : Int) < 16) = true := decide_eq_true ik
      have ck := (HEr.out.2 k hkt).1
      have hbb := HEr.out.1
      have h0 := fun h => nmT_snoc0 hkt h
      have h1 := fun h => nmT_snoc1 hkt h
      have H0 := hid h0; have H1 := hid h1
      clear h0 h1
      generalize t[k].nm = nm at *
      by_cases hn : nm = ⟨#[]⟩
      · have HE0 := hid (H0.out hn)
        subst hn
        have he := isEmpty_t
        go_wp2_with fail
        go_roundw
        case rel => exact ⟨k + 1, m, a1, c1, S, by omega, by go_num, rfl, by rw [HE0.out]; exact HS.out, HM.out, by omega, HO.out, HBL.out⟩
        case measure => simp [intOf]; omega
      · have HE1 := hid (H1.out hn)
        have he := isEmpty_fD hn
        clear hn
        obtain ⟨wo, hwo⟩ : ∃ wo, wo = wr := ⟨wr, rfl⟩
        subst hwo
        have CK := hid ck; have HBB := hid hbb
        go_wp2_with fail
        clear ck
        go_loopw [5, 6, 7] (fun nx pt i wr => ∃ (j m2 : Nat) (a2 : Option Addr) (c2 : Nat) (N : List ByteArray) (p : Bool), j ≤ m ∧ i = .int .i64 j ∧ nx = .slice a2 m2 c2 ∧ pt = .bool p ∧ stI nm S j = (N, p) ∧ N.length = m2 ∧ m2 ≤ j + 1 ∧ Own wr wo.heap.size 9 1 a2 m2 c2 (N.map strV) ∧ Below wo.heap.size wo wr) (fun _ _ i _ => m - (intOf i).toNat)
        case atStart => exact ⟨0, 0, none, 0, [], false, by omega, rfl, rfl, rfl, rfl, rfl, by omega, Own.nil _ _ _ _, Below.refl _ _⟩
        case round =>
          obtain ⟨j, m2, a2, c2, N, p, hj, rfl, rfl, rfl, hst, hN, hm2, ho2, hb2⟩ := hrel
          have HO2 := hid ho2; have HB2 := hid hb2; have HST := hid hst; have HN := hid hN
          have ck2 : wr.cell? ⟨b, off + k * 2, none⟩ = some (.string nm) := (hb2.cell (p := ⟨b, off + k * 2, none⟩) HBB.out).trans CK.out
          clear ho2 hb2 hst hN
          by_cases hjm : j < m
          · have hr : RowS wo a1 c1 S := by have := HO.out.row; unfold RowS; rw [HM.out]; exact this
            obtain ⟨g, o, rfl, hg, hc⟩ := rowS_cells hr (by rw [HM.out]; omega)
            have hjS : j < S.length := by rw [HM.out]; exact hjm
            have cjw := hc j hjS
            have hsu := stI_succ nm S hjS
            rw [HST.out] at hsu
            have ij : (j : Int) < m := by omega
            have dj : decide ((j : Int) < (m : Int)) = true := decide_eq_true ij
            have hc1 : m ≤ c1 := by have := hr.2.1; rw [HM.out] at this; exact this
            have HSU := hid hsu
            clear hc hr hsu
            generalize S[j] = y at *
            have cj : wr.cell? ⟨g, o + j, none⟩ = some (.string y) := (HB2.out.cell (p := ⟨g, o + j, none⟩) hg).trans cjw
            have CJW := hid cjw; have HG := hid hg
            clear cjw hg
            have RY := hid (row_blkO (blk_newO (W := wr) rfl 9 [.string y]) 1 1 rfl (by omega))
            cases p with
            | true =>
              go_wp2_with fail
              go_quiet (fail)
              obtain ⟨wd, hwd⟩ : ∃ wd, wd = wr.drewN nq := ⟨_, rfl⟩
              rw [← hwd]
              have bd : Below wr.heap.size wr wd := by rw [hwd]; exact bel_drewN (Below.refl _ _) _
              have HO3 := hid (HO2.out.mono bd)
              have HB3 := hid (kept_trans HB2.out bd)
              have cj3 : wd.cell? ⟨g, o + j, none⟩ = some (.string y) := (HB3.out.cell (p := ⟨g, o + j, none⟩) HG.out).trans CJW.out
              have ck3 : wd.cell? ⟨b, off + k * 2, none⟩ = some (.string nm) := (HB3.out.cell (p := ⟨b, off + k * 2, none⟩) HBB.out).trans CK.out
              have RY := hid (row_blkO (blk_newO (W := wd) rfl 9 [.string y]) 1 1 rfl (by omega))
              clear hwd bd cj ck2
              go_wp2_with (at_builtin; (refine wpl_append rfl (.tmp 48) (.tmp 53) rfl ES wo.heap.size rfl rfl (HO3.out.alloc (.cells #[.string y] 9)) RY.out (by intro u hu; simp only [List.mem_cons, List.not_mem_nil, or_false] at hu; subst hu; rfl) (by omega) (by omega) (Nat.le_trans HB3.out.size (by simp)) ?_); intro a3 c3 w3 o3 g3 b3; have O3 := hid o3; have B3 := hid ((HB3.out.alloc HB3.out.size (.cells #[.string y] 9)).trans b3); clear o3 g3 b3)
              go_roundw
              case rel => exact ⟨j + 1, m2 + 1, a3, c3, N ++ [y], true, by omega, by go_num, rfl, rfl, by rw [HSU.out]; rfl, by rw [List.length_append, HN.out]; rfl, by omega, by rw [List.map_append]; exact O3.out, B3.out⟩
              case measure => simp [intOf]; omega
            | false =>
              have hmj : m2 ≤ j := by
                have h := (stI_len nm S j (by omega)).2
                rw [HST.out] at h
                have := h rfl
                rw [← HN.out]
                exact Nat.le_of_eq this
              have hbl := less_ltS nm y
              cases hl : ltS nm y with
              | true =>
                rw [hl] at hbl
                have hs1 : stepI nm (N, false) y = (N ++ [nm, y], true) := by unfold stepI; simp [hl]
                rw [hs1] at HSU
                have RX := hid (row_blkO (blk_newO (W := wr) rfl 9 [.string nm]) 1 1 rfl (by omega))
                clear hl hs1
                go_wp2_with fail
                go_quiet (fail)
                obtain ⟨wd, hwd⟩ : ∃ wd, wd = wr.drewN nq := ⟨_, rfl⟩
                rw [← hwd]
                have bd : Below wr.heap.size wr wd := by rw [hwd]; exact bel_drewN (Below.refl _ _) _
                have HO3 := hid (HO2.out.mono bd)
                have HB3 := hid (kept_trans HB2.out bd)
                have cj3 : wd.cell? ⟨g, o + j, none⟩ = some (.string y) := (HB3.out.cell (p := ⟨g, o + j, none⟩) HG.out).trans CJW.out
                have ck3 : wd.cell? ⟨b, off + k * 2, none⟩ = some (.string nm) := (HB3.out.cell (p := ⟨b, off + k * 2, none⟩) HBB.out).trans CK.out
                have RX := hid (row_blkO (blk_newO (W := wd) rfl 9 [.string nm]) 1 1 rfl (by omega))
                clear hwd bd cj ck2
                go_wp2_with (first
                  | (at_builtin; (refine wpl_append rfl (.tmp 40) (.tmp 46) rfl ES wo.heap.size rfl rfl (HO3.out.alloc (.cells #[.string nm] 9)) RX.out (by intro u hu; simp only [List.mem_cons, List.not_mem_nil, or_false] at hu; subst hu; rfl) (by omega) (by omega) (Nat.le_trans HB3.out.size (by simp)) ?_); intro a3 c3 w3 o3 g3 b3; have O3 := hid o3; have B3 := hid ((HB3.out.alloc HB3.out.size (.cells #[.string nm] 9)).trans b3)
                     have cj4 : w3.cell? ⟨g, o + j, none⟩ = some (.string y) := (B3.out.cell (p := ⟨g, o + j, none⟩) HG.out).trans CJW.out
                     have RZ := hid (row_blkO (blk_newO (W := w3) rfl 9 [.string y]) 1 1 rfl (by omega))
                     clear o3 g3 b3)
                  | (at_builtin; (refine wpl_append rfl (.tmp 48) (.tmp 53) rfl ES wo.heap.size rfl rfl (O3.out.alloc (.cells #[.string y] 9)) RZ.out (by intro u hu; simp only [List.mem_cons, List.not_mem_nil, or_false] at hu; subst hu; rfl) (by omega) (by omega) (Nat.le_trans B3.out.size (by simp)) ?_); intro a4 c4 w4 o4 g4 b4; have O4 := hid o4; have B4 := hid ((B3.out.alloc B3.out.size (.cells #[.string y] 9)).trans b4); clear o4 g4 b4))
                go_roundw
                case rel => exact ⟨j + 1, m2 + 1 + 1, a4, c4, N ++ [nm, y], true, by omega, by go_num, rfl, rfl, HSU.out, by rw [List.length_append, HN.out]; rfl, by omega, by have := O4.out; rw [List.append_assoc] at this; rw [List.map_append]; exact this, B4.out⟩
                case measure => simp [intOf]; omega
              | false =>
                rw [hl] at hbl
                have hs1 : stepI nm (N, false) y = (N ++ [y], false) := by unfold stepI; simp [hl]
                rw [hs1] at HSU
                clear hl hs1
                go_wp2_with fail
                go_quiet (fail)
                obtain ⟨wd, hwd⟩ : ∃ wd, wd = wr.drewN nq := ⟨_, rfl⟩
                rw [← hwd]
                have bd : Below wr.heap.size wr wd := by rw [hwd]; exact bel_drewN (Below.refl _ _) _
                have HO3 := hid (HO2.out.mono bd)
                have HB3 := hid (kept_trans HB2.out bd)
                have cj3 : wd.cell? ⟨g, o + j, none⟩ = some (.string y) := (HB3.out.cell (p := ⟨g, o + j, none⟩) HG.out).trans CJW.out
                have ck3 : wd.cell? ⟨b, off + k * 2, none⟩ = some (.string nm) := (HB3.out.cell (p := ⟨b, off + k * 2, none⟩) HBB.out).trans CK.out
                have RY := hid (row_blkO (blk_newO (W := wd) rfl 9 [.string y]) 1 1 rfl (by omega))
                clear hwd bd cj ck2
                go_wp2_with (at_builtin; (refine wpl_append rfl (.tmp 48) (.tmp 53) rfl ES wo.heap.size rfl rfl (HO3.out.alloc (.cells #[.string y] 9)) RY.out (by intro u hu; simp only [List.mem_cons, List.not_mem_nil, or_false] at hu; subst hu; rfl) (by omega) (by omega) (Nat.le_trans HB3.out.size (by simp)) ?_); intro a3 c3 w3 o3 g3 b3; have O3 := hid o3; have B3 := hid ((HB3.out.alloc HB3.out.size (.cells #[.string y] 9)).trans b3); clear o3 g3 b3)
                go_roundw
                case rel => exact ⟨j + 1, m2 + 1, a3, c3, N ++ [y], false, by omega, by go_num, rfl, rfl, HSU.out, by rw [List.length_append, HN.out]; rfl, by omega, by rw [List.map_append]; exact O3.out, B3.out⟩
                case measure => simp [intOf]; omega
          · obtain rfl : j = m := by omega
            have dj : decide ((j : Int) < (j : Int)) = false := decide_eq_false (by omega)
            have hend := endI_all nm S
            rw [HM.out, HST.out] at hend
            have hil := insS_len nm S
            rw [HM.out] at hil
            have hiso : isort (nmT (t.take (k + 1))) = endI nm (N, p) := by rw [HE1.out, isort_snoc, ← HS.out, hend]
            rw [← hend] at hil
            have HISO := hid hiso; have HIL := hid hil
            clear hiso hil hend
            cases p with
            | true =>
              go_wp2_with fail
              go_roundw
              case rel => exact ⟨k + 1, m2, a2, c2, N, by omega, by go_num, rfl, HISO.out.symm, HN.out, by omega, HO2.out.low HBL.out.size, kept_trans HBL.out HB2.out⟩
              case measure => simp [intOf]; omega
            | false =>
              have hNj : m2 ≤ j := by have := HIL.out; unfold endI at this; simp at this; rw [← HN.out]; omega
              have RX := hid (row_blkO (blk_newO (W := wr) rfl 9 [.string nm]) 1 1 rfl (by omega))
              clear hm2
              go_wp2_with (at_builtin; (refine wpl_append rfl (.tmp 57) (.tmp 63) rfl ES wo.heap.size rfl rfl (HO2.out.alloc (.cells #[.string nm] 9)) RX.out (by intro u hu; simp only [List.mem_cons, List.not_mem_nil, or_false] at hu; subst hu; rfl) (by omega) (by omega) (Nat.le_trans HB2.out.size (by simp)) ?_); intro a3 c3 w3 o3 g3 b3; have O3 := hid o3; have B3 := hid ((HB2.out.alloc HB2.out.size (.cells #[.string nm] 9)).trans b3); clear o3 g3 b3)
              go_roundw
              case rel => exact ⟨k + 1, m2 + 1, a3, c3, N ++ [nm], by omega, by go_num, rfl, HISO.out.symm, by rw [List.length_append, HN.out]; rfl, by omega, by rw [List.map_append]; exact O3.out.low HBL.out.size, kept_trans HBL.out B3.out⟩
              case measure => simp [intOf]; omega
    · obtain rfl : k = 16 := by omega
      have dk : decide (((16 : Nat) : Int) < 16) = false := by decide
      rw [List.take_of_length_le (by rw [HT.out]; omega)] at HS
      have HR : Hid (RowS wr a1 c1 S) := hid (by have := HO.out.row; unfold RowS; rw [HM.out]; exact this)
      have hm' := HM.out
      subst hm'
      go_wp2_with fail
      go_ret
      exact ⟨a1, c1, by rw [← HS.out]; rfl, by rw [← HS.out]; exact HR.out, HBL.out⟩
end Go.Proofs.Ytejfkjfidhdfaaa
