/- The statements of stage 12: DirFill. -/
import Derived.Test.YtejfkjfidhdfaaaDirZb
import Derived.Test.YtejfkjfidhdfaaaDirL
import Derived.Deep.Strs
namespace Go.Proofs.Ytejfkjfidhdfaaa
open Go.RowKit Go.Shelf
set_option linter.unusedSimpArgs false
set_option linter.unusedVariables false

set_option maxHeartbeats 4000000 in
set_option maxRecDepth 100000 in
theorem DirFill_walk (w : World) (a : Option Addr) (c : Nat) (L : List ByteArray) (hr : RowS w a c L) : Calls Try.prog 9 #[.slice a L.length c] w fun e w' => e = .returned (.bool true) ∧ Below w.heap.size w w' := by
  obtain ⟨z, hz⟩ : ∃ z, z = zeroT := ⟨_, rfl⟩
  have HZE := hid hz
  have HZI : Hid (InvT z []) := hid (by rw [hz]; exact InvT.zero)
  have HR := hid hr
  have hl := rowS_len hr
  clear hz hr
  go_enter Try.func9, Try.ntmps9
  go_wp2_with ((with_reducible refine wpl_allocT (z := z) HZE.out rfl rfl ?_); intro w1 k1 b1 s1; have K1 := hid k1; have B1 := hid b1; have S1 := hid s1; clear k1 b1 s1)
  go_loopw [4, 5] (fun o i wr => ∃ (j m : Nat) (a1 : Option Addr) (c1 : Nat) (t : List EntT) (H : List ByteArray), j ≤ L.length ∧ i = .int .i64 j ∧ o = .slice a1 m c1 ∧ H.length = m ∧ InvT t H ∧ Blk wr w.heap.size 26 (tabC t) ∧ Own wr (w.heap.size + 1) 9 1 a1 m c1 (H.map strV) ∧ Below w.heap.size w wr ∧ w.heap.size + 1 ≤ wr.heap.size) (fun _ i _ => L.length - (intOf i).toNat)
  case atStart => exact ⟨0, 0, none, 0, z, [], by omega, rfl, rfl, rfl, HZI.out, K1.out, Own.nil _ _ _ _, B1.out, by rw [S1.out]; exact Nat.le_refl _⟩
  case round =>
    obtain ⟨j, m, a1, c1, t, H, hj, rfl, rfl, hm, hinv, hb0, ho, hbl, hsz⟩ := hrel
    clear K1 B1 S1
    have HI := hid hinv; have HB0 := hid hb0; have HO := hid ho; have HBL := hid hbl; have HM := hid hm
    have HT := hid hinv.1
    have hm16 : m ≤ 16 := by rw [← hm]; exact hinv.len
    clear hinv hb0 ho hbl hm
    by_cases hcond : j < L.length ∧ j < 20
    · obtain ⟨hlt, h20⟩ := hcond
      obtain ⟨b, off, rfl, hbb, hc⟩ := rowS_cells (HR.out.mono HBL.out) (by omega)
      have cj := hc j hlt
      have ij : (j : Int) < L.length := by omega
      have ij2 : (j : Int) < 20 := by omega
      have dj : decide ((j : Int) < (L.length : Int)) = true := decide_eq_true ij
      have d20 : decide ((j : Int) < 20) = true := decide_eq_true ij2
      have HSh := hid (fun w1 => short_any L[j] w1)
      have hs20 := shortB_size L[j]
      clear hc
      generalize shortB L[j] = s at *
      generalize L[j] = lj at *
      have HMay := fun w1 => mayNRef_any s w1
      have HF := fun w1 => findT_any t s HT.out (by omega) w1
      have HP := fun w1 => placeT_any t s HT.out (by omega) w1
      cases hmy : mayN s with
      | false =>
        rw [hmy] at HMay
        have HMay := hid HMay
        clear hmy HF HP
        go_wp2_with (first
          | (go_at_call 11; refine (HSh.out _).mono ?_; rintro e w1 ⟨rfl, rfl⟩)
          | (go_at_call 31; refine (HMay.out _).mono ?_; rintro e w1 ⟨rfl, rfl⟩))
        go_roundw
        case rel => exact ⟨j + 1, m, a1, c1, t, H, by omega, by go_num, rfl, HM.out, HI.out, HB0.out, HO.out, HBL.out, hsz⟩
        case measure => simp [intOf]; omega
      | true =>
        rw [hmy] at HMay
        have hne : ¬ s = ⟨#[]⟩ := fun h => by rw [h] at hmy; revert hmy; decide
        have HMay := hid HMay
        clear hmy
        have HF := hid HF
        by_cases hf0 : 0 ≤ findT t s
        · have df : decide (0 ≤ findT t s) = true := decide_eq_true hf0
          clear HP hne
          generalize findT t s = ft at *
          go_wp2_with (first
            | (go_at_call 11; refine (HSh.out _).mono ?_; rintro e w1 ⟨rfl, rfl⟩)
            | (go_at_call 31; refine (HMay.out _).mono ?_; rintro e w1 ⟨rfl, rfl⟩)
            | (with_reducible refine wpl_loadGT (by kernel_rfl) _ rfl w.heap.size rfl t HT.out HB0.out ?_)
            | (go_at_call 12; refine (HF.out _).mono ?_; rintro e w2 ⟨rfl, b2⟩; have HB2 := hid (HB0.out.mono b2); have HO2 := hid (HO.out.mono b2); have BL2 := hid (kept_trans HBL.out b2); have z2 : w.heap.size + 1 ≤ w2.heap.size := Nat.le_trans hsz b2.size
               clear b2))
          go_roundw
          case rel => exact ⟨j + 1, m, a1, c1, t, H, by omega, by go_num, rfl, HM.out, HI.out, HB2.out, HO2.out, BL2.out, z2⟩
          case measure => simp [intOf]; omega
        · have df : decide (0 ≤ findT t s) = false := decide_eq_false hf0
          generalize findT t s = ft at *
          rcases HI.out.place s with ⟨hp, hH⟩ | ⟨x, hp, ⟨hx, hx0⟩, hH⟩
          · rw [hp] at HP
            have HP := hid HP
            have hm6 : m = 16 := by rw [← HM.out]; exact hH
            subst hm6
            clear hp hH hf0 hne
            go_wp2_with (first
              | (go_at_call 11; refine (HSh.out _).mono ?_; rintro e w1 ⟨rfl, rfl⟩)
              | (go_at_call 31; refine (HMay.out _).mono ?_; rintro e w1 ⟨rfl, rfl⟩)
              | (with_reducible refine wpl_loadGT (by kernel_rfl) _ rfl w.heap.size rfl t HT.out HB0.out ?_)
              | (go_at_call 12; refine (HF.out _).mono ?_; rintro e w2 ⟨rfl, b2⟩; have HB2 := hid (HB0.out.mono b2); have HO2 := hid (HO.out.mono b2); have BL2 := hid (kept_trans HBL.out b2); have z2 : w.heap.size + 1 ≤ w2.heap.size := Nat.le_trans hsz b2.size
                 clear b2)
              | (with_reducible refine wpl_loadT rfl _ rfl w.heap.size rfl t HT.out HB2.out ?_)
              | (go_at_call 14; refine (HP.out _).mono ?_; rintro e w3 ⟨rfl, b3⟩; have HB3 := hid (HB2.out.mono b3); have HO3 := hid (HO2.out.mono b3); have BL3 := hid (kept_trans BL2.out b3); have z3 : w.heap.size + 1 ≤ w3.heap.size := Nat.le_trans z2 b3.size
                 clear b3))
            go_roundw
            case rel => exact ⟨j + 1, 16, a1, c1, t, H, by omega, by go_num, rfl, HM.out, HI.out, HB3.out, HO3.out, BL3.out, z3⟩
            case measure => simp [intOf]; omega
          · rw [hp] at HP
            have HP := hid HP
            have hm15 : m < 16 := by rw [← HM.out]; exact hH
            have em : ((m : Int) == 16) = false := by rw [beq_eq_false_iff_ne]; omega
            have hx16 : x < 16 := by rw [← HT.out]; exact hx
            have dx : decide ((x : Int) < 0) = false := decide_eq_false (by omega)
            have hmod : ((j : Int)).tmod 32 = j := by rw [Int.tmod_eq_of_lt (by omega) (by omega)]
            have hset : setT t (x : Int) ⟨s, 1 + (j : Int)⟩ = t.set x ⟨s, 1 + (j : Int)⟩ := by unfold setT; rw [if_pos (by omega)]; rfl
            have HSet := fun w1 => setT_any t (x : Int) s (1 + (j : Int)) HT.out w1
            rw [hset] at HSet
            have HI2 := hid (HI.out.set hx hx0 (s := s) (1 + (j : Int)) hne (by omega))
            generalize t.set x ⟨s, 1 + (j : Int)⟩ = t2 at *
            have HT2 := hid HI2.out.1
            have hH2 : (H ++ [s]).length = m + 1 := by rw [List.length_append, HM.out]; rfl
            have HH2 := hid hH2
            have HLen := hid (tab_len HT.out)
            have HSet := hid HSet
            clear hp hH hf0 hne hset hx hx0 hx16 hH2
            go_wp2_with (first
              | (go_at_call 11; refine (HSh.out _).mono ?_; rintro e w1 ⟨rfl, rfl⟩)
              | (go_at_call 31; refine (HMay.out _).mono ?_; rintro e w1 ⟨rfl, rfl⟩)
              | (with_reducible refine wpl_loadGT (by kernel_rfl) _ rfl w.heap.size rfl t HT.out HB0.out ?_)
              | (go_at_call 12; refine (HF.out _).mono ?_; rintro e w2 ⟨rfl, b2⟩; have HB2 := hid (HB0.out.mono b2); have HO2 := hid (HO.out.mono b2); have BL2 := hid (kept_trans HBL.out b2); have z2 : w.heap.size + 1 ≤ w2.heap.size := Nat.le_trans hsz b2.size
                 clear b2)
              | (have _t := HB3; with_reducible refine wpl_loadT rfl _ rfl w.heap.size rfl t HT.out HB3.out ?_)
              | (with_reducible refine wpl_loadT rfl _ rfl w.heap.size rfl t HT.out HB2.out ?_)
              | (go_at_call 14; refine (HP.out _).mono ?_; rintro e w3 ⟨rfl, b3⟩; have HB3 := hid (HB2.out.mono b3); have HO3 := hid (HO2.out.mono b3); have BL3 := hid (kept_trans BL2.out b3); have z3 : w.heap.size + 1 ≤ w3.heap.size := Nat.le_trans z2 b3.size
                 clear b3)
              | (go_at_call 17; refine (HSet.out _).mono ?_; rintro e w4 ⟨rfl, b4⟩; have HB4 := hid (HB3.out.mono b4); have HO4 := hid (HO3.out.mono b4); have BL4 := hid (kept_trans BL3.out b4); have z4 : w.heap.size + 1 ≤ w4.heap.size := Nat.le_trans z3 b4.size
                 clear b4)
              | ((with_reducible refine wpl_storeT rfl _ _ rfl w.heap.size rfl t2 HT2.out rfl HB4.out HLen.out ?_); intro w5 k5 g5; have HB5 := hid k5; have HO5 := hid (own_grownO HO4.out g5 (by omega)); have BL5 := hid (below_grownS BL4.out g5 (Nat.le_refl _) BL4.out.size); have z5 : w.heap.size + 1 ≤ w5.heap.size := Nat.le_trans z4 g5.size
                 have R5 := hid (row_blkO (blk_newO (W := w5) rfl 9 [.string s]) 1 1 rfl (by omega))
                 clear k5 g5)
              | (at_builtin; (refine wpl_append rfl (.tmp 55) (.tmp 57) rfl ES (w.heap.size + 1) rfl rfl (HO5.out.alloc (.cells #[.string s] 9)) R5.out (by intro u hu; simp only [List.mem_cons, List.not_mem_nil, or_false] at hu; subst hu; rfl) (by omega) (by omega) (by simp; omega) ?_)
                 intro a6 c6 w6 o6 g6 b6
                 have HO6 := hid o6; have HB6 := hid ((HB5.out.mono (albO w5 (.cells #[.string s] 9))).below b6 (by omega)); have BL6 := hid ((BL5.out.alloc BL5.out.size (.cells #[.string s] 9)).trans (b6.mono (by omega)))
                 have z6 : w.heap.size + 1 ≤ w6.heap.size := by (have := b6.size; simp at this; omega)
                 clear o6 g6 b6))
            clear HB2 HO2 BL2 z2 HB3 HO3 BL3 z3 HB4 HO4 BL4 z4 HB5 HO5 BL5 z5 R5 HF HP HSet HMay HSh HB0 HO
            obtain ⟨g, rfl⟩ := own_someO HO6.out (by omega)
            have HOS : Hid (Own w6 (w.heap.size + 1) 9 1 (some ⟨g, 0, none⟩) (m + 1) c6 ((H ++ [s]).map strV)) := hid (by rw [List.map_append]; exact HO6.out)
            generalize H ++ [s] = H2 at *
            go_loopw [9] (fun i wr => ∃ k : Nat, k ≤ m + 1 ∧ i = .int .i64 k ∧ Below w6.heap.size w6 wr) (fun i _ => m + 1 - (intOf i).toNat)
            case atStart => exact ⟨0, by omega, by first | rfl | go_num, Below.refl _ _⟩
            case round =>
              obtain ⟨k, hk, rfl, hb6⟩ := hrel
              by_cases hkm : k < m + 1
              · have hrow : RowS wr (some ⟨g, 0, none⟩) c6 H2 := by have := (HOS.out.mono hb6).row; unfold RowS; rw [HH2.out]; exact this
                have hcap := hrow.2.1
                rw [HH2.out] at hcap
                obtain ⟨g', o', hge, hg, hc⟩ := rowS_cells hrow (by rw [HH2.out]; omega)
                cases hge
                have hk2 : k < H2.length := by rw [HH2.out]; exact hkm
                have ck := hc k hk2
                rw [Nat.zero_add] at ck
                obtain ⟨x2, hf2, hx2, hn2⟩ := HI2.out.find (List.getElem_mem hk2)
                have hsz2 := HI2.out.2.2.2 _ (List.getElem_mem hk2)
                have HF2 := fun w1 => findT_any t2 H2[k] HT2.out hsz2 w1
                rw [hf2] at HF2
                have HF2 := hid HF2
                have hr2 : wr.rangeAt w.heap.size 0 (tabC t2) := (HB6.out.mono hb6).range
                have hcx : ∀ X, Blk X w.heap.size 26 (tabC t2) → X.cell? ⟨w.heap.size, x2 * 2, none⟩ = some (.string H2[k]) := fun X hX => by
                  have ckk := tabC_get t2 x2 hx2
                  obtain ⟨hq0, hv0⟩ := List.getElem?_eq_some_iff.1 ckk.1
                  rw [Nat.mul_comm x2 2, hX.cell (i := 2 * x2) hq0, hv0, hn2]
                have HCX := hid hcx
                have ix2 : (x2 : Int) < 16 := by have := HT2.out; omega
                have dx2 : decide ((x2 : Int) < 0) = false := decide_eq_false (by omega)
                have ik : (k : Int) < (m : Int) + 1 := by omega
                have dk : decide ((k : Int) < (m : Int) + 1) = true := decide_eq_true ik
                have HG := hid hg
                clear hc hrow hf2 hn2 hsz2 hcx
                generalize H2[k] = y at *
                clear hk2
                have HB6' := hid hb6
                have hS0 : wr.drew.rangeAt w.heap.size 0 (tabC t2) ∧ (wr.drew.cell? ⟨g, k, none⟩ = some (.string y) ∧ Below wr.heap.size wr wr.drew) := ⟨hr2, ck, (Below.refl _ _).drew⟩
                have HSTEP : Hid (∀ X Y : World, (X.rangeAt w.heap.size 0 (tabC t2) ∧ (X.cell? ⟨g, k, none⟩ = some (.string y) ∧ Below wr.heap.size wr X)) → Below X.heap.size X Y → (Y.rangeAt w.heap.size 0 (tabC t2) ∧ (Y.cell? ⟨g, k, none⟩ = some (.string y) ∧ Below wr.heap.size wr Y))) :=
                  hid (fun X Y h b => ⟨range_below h.1 b, (b.cell (p := ⟨g, k, none⟩) (Nat.lt_of_lt_of_le hg h.2.2.size)).trans h.2.1, kept_trans h.2.2 b⟩)
                have ck' := ck
                clear hb6 hr2 hg
                go_wp2_with fail
                refine wp_region_held_drew (S := fun w' => w'.rangeAt w.heap.size 0 (tabC t2) ∧ (w'.cell? ⟨g, k, none⟩ = some (.string y) ∧ Below wr.heap.size wr w')) (by kernel_rfl) hS0 (fun hS_0 => ?_)
                refine wpAnyH_loadC (i := 0) 26 _ (w.heap.size) 0 (tabC t2) _ rfl rfl rfl rfl (Eq.refl true) Try.underlying26 rfl (by rw [infoTab, tabC_len, HT2.out]) (by kernel_rfl) (by kernel_rfl) (by kernel_rfl) (fun _ _ _ h => h) (fun w' h' => h'.1) hS_0 ?_
                (try simp only [Act.put, List.setIfInBounds_toArray, List.set_cons_zero, List.set_cons_succ])
                refine takeR (i := 1) (v := .slice (some ⟨g, 0, none⟩) (m + 1) c6) rfl rfl (by kernel_rfl) (by kernel_rfl) (by kernel_rfl) (fun _ _ _ h => h) (Or.inl ⟨Eq.refl true, fun w1 hSw => ?_⟩) hS_0 ?_
                · first | rfl | (clear hSw; go_simp; done) | (clear hSw; go_simp; rfl)
                (try simp only [Act.put, List.setIfInBounds_toArray, List.set_cons_zero, List.set_cons_succ])
                refine takeR (i := 2) (v := .int .i64 k) rfl rfl (by kernel_rfl) (by kernel_rfl) (by kernel_rfl) (fun _ _ _ h => h) (Or.inl ⟨Eq.refl true, fun w1 hSw => ?_⟩) hS_0 ?_
                · first | rfl | (clear hSw; go_simp; done) | (clear hSw; go_simp; rfl)
                (try simp only [Act.put, List.setIfInBounds_toArray, List.set_cons_zero, List.set_cons_succ])
                refine takeR (i := 3) (v := .pointer (some ⟨g, k, none⟩)) rfl rfl (by kernel_rfl) (by kernel_rfl) (by kernel_rfl) (fun _ _ _ h => h) (Or.inl ⟨Eq.refl true, fun w1 hSw => ?_⟩) hS_0 ?_
                · first | rfl | (clear hSw; go_simp; done) | (clear hSw; go_simp; rfl)
                (try simp only [Act.put, List.setIfInBounds_toArray, List.set_cons_zero, List.set_cons_succ])
                refine takeR (i := 4) (v := .string y) rfl rfl (by kernel_rfl) (by kernel_rfl) (by kernel_rfl) (fun _ _ _ h => h) (Or.inl ⟨Eq.refl true, fun w1 hSw => ?_⟩) hS_0 ?_
                · (obtain ⟨q0, q1, q2⟩ := hSw; go_simp; try rfl)
                (try simp only [Act.put, List.setIfInBounds_toArray, List.set_cons_zero, List.set_cons_succ])
                refine wpAnyH_ready (rs := [5]) (by kernel_rfl) (by simp) (AllReadyH.cons rfl (fun K hK => ?_) AllReadyH.nil)
                go_simp
                go_wp2_with (go_at_call 12; refine (HF2.out _).mono ?_; rintro e w7 ⟨rfl, b7⟩)
                refine hK.out _ _ ?_ (fun hS_1 => ?_)
                · exact HSTEP.out _ _ hS_0 b7
                clear hK K
                refine takeR (i := 6) (v := .int .i64 x2) rfl rfl (by kernel_rfl) (by kernel_rfl) (by kernel_rfl) (fun _ _ _ h => h) (Or.inl ⟨Eq.refl true, fun w1 hSw => ?_⟩) hS_1 ?_
                · first | rfl | (clear hSw; go_simp; done) | (clear hSw; go_simp; rfl)
                (try simp only [Act.put, List.setIfInBounds_toArray, List.set_cons_zero, List.set_cons_succ])
                refine wpAnyH_done (by kernel_rfl) ?_ _
                obtain ⟨q0, q1, b7⟩ := hS_1
                have B7 := hid (kept_trans HB6'.out b7)
                have cx := HCX.out w7 (HB6.out.mono B7.out)
                have cy := q1
                clear q0 ck ck' hS0 hS_0
                go_wp2_with fail
                go_quiet (fail)
                go_wp2_with fail
                go_roundw
                case rel => exact ⟨k + 1, by omega, by go_num, bel_drewN B7.out _⟩
                case measure => simp [intOf]; omega
              · obtain rfl : k = m + 1 := by omega
                have HB6' := hid hb6
                clear hb6
                go_wp2_with fail
                go_roundw
                case rel => exact ⟨j + 1, m + 1, some ⟨g, 0, none⟩, c6, t2, H2, by omega, by go_num, rfl, HH2.out, HI2.out, HB6.out.mono HB6'.out, HOS.out.mono HB6'.out, kept_trans BL6.out HB6'.out, Nat.le_trans z6 HB6'.out.size⟩
                case measure => simp [intOf]; omega
    · have hlen : (sortS (nmT t)).length = m := by rw [sortS_len, HI.out.2.1.length_eq]; exact HM.out
      have HN := fun w1 => tnames_any t HT.out w1
      rw [hlen] at HN
      have HN := hid HN
      clear hlen
      generalize sortS (nmT t) = S at *
      by_cases hj2 : j < L.length
      · have ij : (j : Int) < L.length := by omega
        have dj : decide ((j : Int) < (L.length : Int)) = true := decide_eq_true ij
        have d20 : decide ((j : Int) < 20) = false := decide_eq_false (by omega)
        clear hcond
        go_wp2_with (first
          | (with_reducible refine wpl_loadT rfl _ rfl w.heap.size rfl t HT.out HB0.out ?_)
          | (go_at_call 23; refine (HN.out _).mono ?_; rintro e w2 ⟨a2, c2, rfl, r2, b2⟩; have BL2 := hid (kept_trans HBL.out b2); clear b2 r2)
          | (go_at_call 16; refine (lives12_any _).mono ?_; rintro e w8 ⟨rfl, b8⟩; have B8 := hid (kept_trans BL2.out b8); clear b8))
        go_ret
        exact ⟨rfl, B8.out⟩
      · obtain rfl : j = L.length := by omega
        have dj : decide ((L.length : Int) < (L.length : Int)) = false := decide_eq_false (by omega)
        clear hcond
        go_wp2_with (first
          | (with_reducible refine wpl_loadT rfl _ rfl w.heap.size rfl t HT.out HB0.out ?_)
          | (go_at_call 23; refine (HN.out _).mono ?_; rintro e w2 ⟨a2, c2, rfl, r2, b2⟩; have BL2 := hid (kept_trans HBL.out b2); clear b2 r2)
          | (go_at_call 16; refine (lives12_any _).mono ?_; rintro e w8 ⟨rfl, b8⟩; have B8 := hid (kept_trans BL2.out b8); clear b8))
        go_ret
        exact ⟨rfl, B8.out⟩
end Go.Proofs.Ytejfkjfidhdfaaa
