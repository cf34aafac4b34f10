import Derived.Test.YtmjdplnadclgnaaBitsJ
namespace Go.Proofs.Ytmjdplnadclgnaa
open Go.RowKit Go.WideShapes Go.ChangeShapes
set_option linter.unusedSimpArgs false
set_option linter.unusedVariables false

theorem MapAt3.step {w0 : World} {g1 g2 g3 : Nat} {c1 c2 c3 : List Value} {w w' : World} (h : (w.rangeAt g1 0 c1 ∧ w.rangeAt g2 0 c2 ∧ w.rangeAt g3 0 c3) ∧ Below w0.heap.size w0 w) (hb : Below w.heap.size w w') :
    (w'.rangeAt g1 0 c1 ∧ w'.rangeAt g2 0 c2 ∧ w'.rangeAt g3 0 c3) ∧ Below w0.heap.size w0 w' :=
  ⟨⟨rangeAt_below h.1.1 hb, rangeAt_below h.1.2.1 hb, rangeAt_below h.1.2.2 hb⟩, kept_trans h.2 hb⟩

theorem bitB_takeX (xs : List UInt8) (n : Int) (j : Nat) (hx : xs.length = 16) (hj : j < 128) : bitB (takeX xs n) j = (bitB xs j || decide (n = (j : Int) + 1)) := by
  unfold takeX
  by_cases h : 1 ≤ n ∧ n ≤ 128
  · rw [if_pos h, bitB_take _ _ _ hx (by omega)]
    congr 1
    apply decide_eq_decide.2; omega
  · rw [if_neg h, decide_eq_false (by omega)]; simp
theorem bitB_giveX (xs : List UInt8) (n : Int) (j : Nat) (hx : xs.length = 16) (hj : j < 128) : bitB (giveX xs n) j = (bitB xs j && !decide (n = (j : Int) + 1)) := by
  unfold giveX
  by_cases h : 1 ≤ n ∧ n ≤ 128
  · rw [if_pos h, bitB_give _ _ _ hx (by omega)]
    congr 2
    apply decide_eq_decide.2; omega
  · rw [if_neg h, decide_eq_false (by omega)]; simp

set_option maxHeartbeats 8000000 in
set_option maxRecDepth 100000 in
theorem BitsTakes_walk (w : World) (xs : List UInt8) (hx : xs.length = 16) (n : Int) (wn : (Lit.int .i64 n).wf = true) (k : Int) (wk : (Lit.int .i64 k).wf = true) :
    Calls Try.prog 5 #[.agg (mapC xs), .int .i64 n, .int .i64 k] w fun e w' => e = .returned (.bool true) ∧ Below w.heap.size w w' := by
  have hn := i64_bd wn
  have hk := i64_bd wk
  have K0 : Blk (w.alloc (.cells (mapC xs) 24)) w.heap.size 24 (xs.map byteV) := heap_alloc_new w _
  have B0 : Below w.heap.size w (w.alloc (.cells (mapC xs) 24)) := (Below.refl _ w).alloc (Nat.le_refl _) _
  have lA : (takeX xs n).length = 16 := by rw [takeX_length]; exact hx
  have lB : (takeX xs k).length = 16 := by rw [takeX_length]; exact hx
  have lG : (giveX xs n).length = 16 := by rw [giveX_length]; exact hx
  have lM : (takeX (takeX xs n) k).length = 16 := by rw [takeX_length]; exact lA
  have eM : takeX (takeX xs k) n = takeX (takeX xs n) k := bits_ext _ _ (by rw [takeX_length]; exact lB) lM (fun j hj => by
    rw [bitB_takeX _ _ _ lB hj, bitB_takeX _ _ _ hx hj, bitB_takeX _ _ _ lA hj, bitB_takeX _ _ _ hx hj, Bool.or_assoc, Bool.or_assoc]; congr 1; rw [Bool.or_comm])
  have eA : takeX (takeX xs n) n = takeX xs n := bits_ext _ _ (by rw [takeX_length]; exact lA) lA (fun j hj => by
    rw [bitB_takeX _ _ _ lA hj, bitB_takeX _ _ _ hx hj, Bool.or_assoc, Bool.or_self])
  have eG : giveX (giveX xs n) n = giveX xs n := bits_ext _ _ (by rw [giveX_length]; exact lG) lG (fun j hj => by
    rw [bitB_giveX _ _ _ lG hj, bitB_giveX _ _ _ hx hj, Bool.and_assoc, Bool.and_self])
  have HA := fun w1 => take_any xs n w1 hx hn
  have HB := fun w1 => take_any xs k w1 hx hk
  have HG := fun w1 => give_any xs n w1 hx hn
  have HAA := fun w1 => take_any (takeX xs n) n w1 lA hn
  have HM1 := fun w1 => take_any (takeX xs n) k w1 lA hk
  have HM2 := fun w1 => take_any (takeX xs k) n w1 lB hn
  have HGG := fun w1 => give_any (giveX xs n) n w1 lG hn
  rw [eA] at HAA; rw [eM] at HM2; rw [eG] at HGG
  have HA := hid HA; have HB := hid HB; have HG := hid HG; have HAA := hid HAA; have HM1 := hid HM1; have HM2 := hid HM2; have HGG := hid HGG
  have bA := hid (fun j hj => bitB_takeX xs n j hx hj)
  have bG := hid (fun j hj => bitB_giveX xs n j hx hj)
  clear eM eA eG
  generalize takeX (takeX xs n) k = M at *
  generalize takeX xs n = A at *
  generalize takeX xs k = B at *
  generalize giveX xs n = G at *
  have qM := fun w1 => run_eqM M M w1 lM lM
  have qA := fun w1 => run_eqM A A w1 lA lA
  have qG := fun w1 => run_eqM G G w1 lG lG
  rw [decide_eq_true rfl] at qM qA qG
  have QM := hid qM; have QA := hid qA; have QG := hid qG
  clear qM qA qG
  go_enter Try.func5, Try.ntmps5
  go_wp2_with (first
    | ((with_reducible refine wpl_loadM rfl _ rfl w.heap.size rfl xs hx (by assumption) ?_))
    | (go_at_call_of 14 (Value.agg (mapC xs)); refine (truths_any xs _ hx).mono ?_; rintro e w1 ⟨a1, c1, rfl, o1, b1⟩; have k1 := Blk.mono K0 b1; obtain ⟨bb, off, rfl, hbb, hc⟩ := (o1.row.at (by omega)))
    | (go_at_call 17; refine (HA.out _).mono ?_; rintro e w2 ⟨rfl, b2⟩; have k2 := Blk.mono k1 b2)
    | (go_at_call_of 14 (Value.agg (mapC A)); refine (truths_any A _ lA).mono ?_; rintro e w3 ⟨a3, c3, rfl, o3, b3⟩; have k3 := Blk.mono k2 b3; obtain ⟨bb3, off3, rfl, hbb3, hc3⟩ := (o3.row.at (by omega)))
    | (go_at_call 18; refine (HG.out _).mono ?_; rintro e w4 ⟨rfl, b4⟩; have k4 := Blk.mono k3 b4)
    | (go_at_call_of 14 (Value.agg (mapC G)); refine (truths_any G _ lG).mono ?_; rintro e w5 ⟨a5, c5, rfl, o5, b5⟩; have k5 := Blk.mono k4 b5; obtain ⟨bb5, off5, rfl, hbb5, hc5⟩ := (o5.row.at (by omega))))
  have hb5 := kept_trans (kept_trans (kept_trans (kept_trans (kept_trans B0 b1) b2) b3) b4) b5
  have d1 : ∀ j, j < 128 → w5.cell? ⟨bb, off + j, none⟩ = some (.bool (bitB xs j)) := fun j hj => ((kept_trans (kept_trans (kept_trans b2 b3) b4) b5).cell (p := ⟨bb, off + j, none⟩) hbb).trans (hc j _ (truthsV_get xs hj))
  have d3 : ∀ j, j < 128 → w5.cell? ⟨bb3, off3 + j, none⟩ = some (.bool (bitB xs j || decide (n = (j : Int) + 1))) := fun j hj => by
    rw [← bA.out j hj]; exact ((kept_trans b4 b5).cell (p := ⟨bb3, off3 + j, none⟩) hbb3).trans (hc3 j _ (truthsV_get A hj))
  have d5 : ∀ j, j < 128 → w5.cell? ⟨bb5, off5 + j, none⟩ = some (.bool (bitB xs j && !decide (n = (j : Int) + 1))) := fun j hj => by rw [← bG.out j hj]; exact hc5 j _ (truthsV_get G hj)
  clear o1 o3 o5 b1 b2 b3 b4 b5 hc hc3 hc5 k1 k2 k3 k4 K0 B0 hbb hbb3 hbb5 bA bG
  go_loopw [10] (fun i wr => ∃ j : Nat, j ≤ 128 ∧ i = .int .i64 j ∧ Below w5.heap.size w5 wr ∧ (∀ k v, w5.cell? k = some v → wr.cell? k = some v))
    (fun i _ => 128 - (intOf i).toNat)
  case atStart => exact ⟨0, by omega, rfl, Below.refl _ _, fun _ _ h => h⟩
  case round =>
    obtain ⟨j, hj, rfl, br, hkk⟩ := hrel
    by_cases hlt : j < 128
    · have e1 := hkk _ _ (d1 j hlt)
      have e3 := hkk _ _ (d3 j hlt)
      have e5 := hkk _ _ (d5 j hlt)
      have hltd : decide ((j : Int) < 128) = true := decide_eq_true (by omega)
      have hK := hid hkk
      clear d1 d3 d5 hkk
      generalize bitB xs j = x at *
      by_cases hown : n = (j : Int) + 1
      · have o1 : (n == (j : Int) + 1) = true := by simp [hown]
        rw [decide_eq_true hown] at e3 e5
        have HO := hid hown
        clear hown
        cases x
        all_goals
          simp only [Bool.true_and, Bool.false_and, Bool.not_true, Bool.not_false, Bool.or_true, Bool.and_false] at e3 e5
          go_wp2_with fail
          first
          | go_quiet (fail)
          | go_region
          | fail
          all_goals
            go_wp2_with fail
            go_roundw
            case rel => exact ⟨j + 1, by omega, by go_num, bel_drewN br _, hK.out⟩
            case measure => simp [intOf]; omega
      · have o1 : (n == (j : Int) + 1) = false := by simp [hown]
        rw [decide_eq_false hown] at e3 e5
        have HO := hid hown
        clear hown
        cases x
        all_goals
          simp only [Bool.true_and, Bool.false_and, Bool.not_true, Bool.not_false, Bool.or_false, Bool.and_true] at e3 e5
          go_wp2_with fail
          first
          | go_quiet (fail)
          | go_region
          | fail
          all_goals
            go_wp2_with fail
            go_roundw
            case rel => exact ⟨j + 1, by omega, by go_num, bel_drewN br _, hK.out⟩
            case measure => simp [intOf]; omega
    · obtain rfl : j = 128 := by omega
      clear d1 d3 d5 hkk
      have kr := Blk.mono k5 br
      have hbr := kept_trans hb5 br
      clear br hb5 k5
      go_wp2_with (first
        | ((with_reducible refine wpl_loadM rfl _ rfl w.heap.size rfl xs hx (by assumption) ?_))
        | (go_at_call_of 17 (Value.agg (mapC A)); refine (HM1.out _).mono ?_; rintro e w7 ⟨rfl, b7⟩; have k7 := Blk.mono k6 b7)
        | (go_at_call_of 17 (Value.agg (mapC B)); refine (HM2.out _).mono ?_; rintro e w10 ⟨rfl, b10⟩; have k10 := Blk.mono k9 b10; have m10 := Blk.mono m9 b10)
        | (go_at_call_of 17 (Value.int IntKind.i64 k); refine (HB.out _).mono ?_; rintro e w9 ⟨rfl, b9⟩; have k9 := Blk.mono k8 b9; have m9 := Blk.mono m8 b9)
        | (go_at_call_of 17 (Value.int IntKind.i64 n); refine (HA.out _).mono ?_; rintro e w6 ⟨rfl, b6⟩; have k6 := Blk.mono kr b6)
        | ((with_reducible refine wpl_storeM rfl _ _ rfl w10.heap.size rfl M rfl lM (zero_blk w10) rfl ?_); intro w11 p11 g11; have b11 : Below w10.heap.size w10 w11 := ((Below.refl w10.heap.size w10).alloc (Nat.le_refl _) _).grown g11 (by simp) (fun k hk => by cases hk; omega); have k11 := Blk.mono k10 b11; have m11 := Blk.mono m10 b11; clear g11)
        | ((with_reducible refine wpl_storeM rfl _ _ rfl w7.heap.size rfl M rfl lM (zero_blk w7) rfl ?_); intro w8 m8 g8; have b8 : Below w7.heap.size w7 w8 := ((Below.refl w7.heap.size w7).alloc (Nat.le_refl _) _).grown g8 (by simp) (fun k hk => by cases hk; omega); have k8 := Blk.mono k7 b8; clear g8))
      have hb11 := kept_trans (kept_trans (kept_trans (kept_trans (kept_trans (kept_trans hbr b6) b7) b8) b9) b10) b11
      clear hbr b6 b7 b8 b9 b10 b11 k6 k7 k8 k9 k10 m8 m9 m10 kr
      have qM := QM.out; have qA := QA.out; have qG := QG.out
      have hS0 : (w11.drew.rangeAt w.heap.size 0 (xs.map byteV) ∧ w11.drew.rangeAt w7.heap.size 0 (M.map byteV) ∧ w11.drew.rangeAt w10.heap.size 0 (M.map byteV)) ∧ Below w11.heap.size w11 w11.drew := ⟨⟨blk_range (Blk.drew k11), blk_range (Blk.drew m11), blk_range (Blk.drew p11)⟩, (Below.refl _ _).drew⟩
      refine wp_region_held_drew (S := fun w' => (w'.rangeAt w.heap.size 0 (xs.map byteV) ∧ w'.rangeAt w7.heap.size 0 (M.map byteV) ∧ w'.rangeAt w10.heap.size 0 (M.map byteV)) ∧ Below w11.heap.size w11 w') (by kernel_rfl) hS0 (fun hS_0 => ?_)
      refine wpAnyH_loadM (i := 0) _ (w7.heap.size) M lM rfl rfl rfl rfl (Eq.refl true) (by kernel_rfl) (by kernel_rfl) (by kernel_rfl) (fun _ _ _ h => h) (fun w' h' => h'.1.2.1) hS_0 ?_
      (try simp only [Act.put, List.setIfInBounds_toArray, List.set_cons_zero, List.set_cons_succ])
      refine wpAnyH_loadM (i := 1) _ (w10.heap.size) M lM rfl rfl rfl rfl (Eq.refl true) (by kernel_rfl) (by kernel_rfl) (by kernel_rfl) (fun _ _ _ h => h) (fun w' h' => h'.1.2.2) hS_0 ?_
      (try simp only [Act.put, List.setIfInBounds_toArray, List.set_cons_zero, List.set_cons_succ])
      refine wpAnyH_takeY (i := 2) (v := .bool true) rfl rfl (by kernel_rfl) (by kernel_rfl) (by kernel_rfl) (fun _ _ _ h => h) (Or.inl ⟨Eq.refl true, fun w1 _ => ?_⟩) hS_0 ?_
      · first | rfl | (go_simp; done) | (go_simp; rfl)
      (try simp only [Act.put, List.setIfInBounds_toArray, List.set_cons_zero, List.set_cons_succ])
      refine wpAnyH_takeY (i := 3) (v := .bool true) rfl rfl (by kernel_rfl) (by kernel_rfl) (by kernel_rfl) (fun _ _ _ h => h) (Or.inl ⟨Eq.refl true, fun w1 _ => ?_⟩) hS_0 ?_
      · first | rfl | (go_simp; done) | (go_simp; rfl)
      (try simp only [Act.put, List.setIfInBounds_toArray, List.set_cons_zero, List.set_cons_succ])
      refine wpAnyH_loadM (i := 4) _ (w.heap.size) xs hx rfl rfl rfl rfl (Eq.refl true) (by kernel_rfl) (by kernel_rfl) (by kernel_rfl) (fun _ _ _ h => h) (fun w' h' => h'.1.1) hS_0 ?_
      (try simp only [Act.put, List.setIfInBounds_toArray, List.set_cons_zero, List.set_cons_succ])
      refine wpAnyH_takeY (i := 5) (v := .int .i64 n) rfl rfl (by kernel_rfl) (by kernel_rfl) (by kernel_rfl) (fun _ _ _ h => h) (Or.inl ⟨Eq.refl true, fun w1 _ => ?_⟩) hS_0 ?_
      · first | rfl | (go_simp; done) | (go_simp; rfl)
      (try simp only [Act.put, List.setIfInBounds_toArray, List.set_cons_zero, List.set_cons_succ])
      refine wpAnyH_takeY (i := 7) (v := .int .i64 n) rfl rfl (by kernel_rfl) (by kernel_rfl) (by kernel_rfl) (fun _ _ _ h => h) (Or.inl ⟨Eq.refl true, fun w1 _ => ?_⟩) hS_0 ?_
      · first | rfl | (go_simp; done) | (go_simp; rfl)
      (try simp only [Act.put, List.setIfInBounds_toArray, List.set_cons_zero, List.set_cons_succ])
      refine wpAnyH_loadM (i := 9) _ (w.heap.size) xs hx rfl rfl rfl rfl (Eq.refl true) (by kernel_rfl) (by kernel_rfl) (by kernel_rfl) (fun _ _ _ h => h) (fun w' h' => h'.1.1) hS_0 ?_
      (try simp only [Act.put, List.setIfInBounds_toArray, List.set_cons_zero, List.set_cons_succ])
      refine wpAnyH_takeY (i := 10) (v := .int .i64 n) rfl rfl (by kernel_rfl) (by kernel_rfl) (by kernel_rfl) (fun _ _ _ h => h) (Or.inl ⟨Eq.refl true, fun w1 _ => ?_⟩) hS_0 ?_
      · first | rfl | (go_simp; done) | (go_simp; rfl)
      (try simp only [Act.put, List.setIfInBounds_toArray, List.set_cons_zero, List.set_cons_succ])
      refine wpAnyH_ready (rs := [6]) (by kernel_rfl) (by simp) (AllReadyH.cons rfl (fun K hK => ?_) AllReadyH.nil)
      go_simp
      go_wp2_with (go_at_call 17; refine (HA.out _).mono ?_; rintro e w12 ⟨rfl, b12⟩)
      refine hK.out _ _ ?_ (fun hS_1 => ?_)
      · exact MapAt3.step hS_0 b12
      clear hK K
      refine wpAnyH_ready (rs := [8]) (by kernel_rfl) (by simp) (AllReadyH.cons rfl (fun K hK => ?_) AllReadyH.nil)
      go_simp
      go_wp2_with (go_at_call 17; refine (HAA.out _).mono ?_; rintro e w13 ⟨rfl, b13⟩)
      refine hK.out _ _ ?_ (fun hS_2 => ?_)
      · exact MapAt3.step hS_1 b13
      clear hK K
      refine wpAnyH_ready (rs := [11]) (by kernel_rfl) (by simp) (AllReadyH.cons rfl (fun K hK => ?_) AllReadyH.nil)
      go_simp
      go_wp2_with (go_at_call 17; refine (HA.out _).mono ?_; rintro e w14 ⟨rfl, b14⟩)
      refine hK.out _ _ ?_ (fun hS_3 => ?_)
      · exact MapAt3.step hS_2 b14
      clear hK K
      refine wpAnyH_takeY (i := 12) (v := .bool true) rfl rfl (by kernel_rfl) (by kernel_rfl) (by kernel_rfl) (fun _ _ _ h => h) (Or.inl ⟨Eq.refl true, fun w1 _ => ?_⟩) hS_3 ?_
      · first | rfl | (go_simp; done) | (go_simp; rfl)
      (try simp only [Act.put, List.setIfInBounds_toArray, List.set_cons_zero, List.set_cons_succ])
      refine wpAnyH_takeY (i := 13) (v := .bool true) rfl rfl (by kernel_rfl) (by kernel_rfl) (by kernel_rfl) (fun _ _ _ h => h) (Or.inl ⟨Eq.refl true, fun w1 _ => ?_⟩) hS_3 ?_
      · first | rfl | (go_simp; done) | (go_simp; rfl)
      (try simp only [Act.put, List.setIfInBounds_toArray, List.set_cons_zero, List.set_cons_succ])
      refine wpAnyH_takeY (i := 14) (v := .bool true) rfl rfl (by kernel_rfl) (by kernel_rfl) (by kernel_rfl) (fun _ _ _ h => h) (Or.inl ⟨Eq.refl true, fun w1 _ => ?_⟩) hS_3 ?_
      · first | rfl | (go_simp; done) | (go_simp; rfl)
      (try simp only [Act.put, List.setIfInBounds_toArray, List.set_cons_zero, List.set_cons_succ])
      refine wpAnyH_loadM (i := 15) _ (w.heap.size) xs hx rfl rfl rfl rfl (Eq.refl true) (by kernel_rfl) (by kernel_rfl) (by kernel_rfl) (fun _ _ _ h => h) (fun w' h' => h'.1.1) hS_3 ?_
      (try simp only [Act.put, List.setIfInBounds_toArray, List.set_cons_zero, List.set_cons_succ])
      refine wpAnyH_takeY (i := 16) (v := .int .i64 n) rfl rfl (by kernel_rfl) (by kernel_rfl) (by kernel_rfl) (fun _ _ _ h => h) (Or.inl ⟨Eq.refl true, fun w1 _ => ?_⟩) hS_3 ?_
      · first | rfl | (go_simp; done) | (go_simp; rfl)
      (try simp only [Act.put, List.setIfInBounds_toArray, List.set_cons_zero, List.set_cons_succ])
      refine wpAnyH_takeY (i := 18) (v := .int .i64 n) rfl rfl (by kernel_rfl) (by kernel_rfl) (by kernel_rfl) (fun _ _ _ h => h) (Or.inl ⟨Eq.refl true, fun w1 _ => ?_⟩) hS_3 ?_
      · first | rfl | (go_simp; done) | (go_simp; rfl)
      (try simp only [Act.put, List.setIfInBounds_toArray, List.set_cons_zero, List.set_cons_succ])
      refine wpAnyH_loadM (i := 20) _ (w.heap.size) xs hx rfl rfl rfl rfl (Eq.refl true) (by kernel_rfl) (by kernel_rfl) (by kernel_rfl) (fun _ _ _ h => h) (fun w' h' => h'.1.1) hS_3 ?_
      (try simp only [Act.put, List.setIfInBounds_toArray, List.set_cons_zero, List.set_cons_succ])
      refine wpAnyH_takeY (i := 21) (v := .int .i64 n) rfl rfl (by kernel_rfl) (by kernel_rfl) (by kernel_rfl) (fun _ _ _ h => h) (Or.inl ⟨Eq.refl true, fun w1 _ => ?_⟩) hS_3 ?_
      · first | rfl | (go_simp; done) | (go_simp; rfl)
      (try simp only [Act.put, List.setIfInBounds_toArray, List.set_cons_zero, List.set_cons_succ])
      refine wpAnyH_ready (rs := [17]) (by kernel_rfl) (by simp) (AllReadyH.cons rfl (fun K hK => ?_) AllReadyH.nil)
      go_simp
      go_wp2_with (go_at_call 18; refine (HG.out _).mono ?_; rintro e w15 ⟨rfl, b15⟩)
      refine hK.out _ _ ?_ (fun hS_4 => ?_)
      · exact MapAt3.step hS_3 b15
      clear hK K
      refine wpAnyH_ready (rs := [19]) (by kernel_rfl) (by simp) (AllReadyH.cons rfl (fun K hK => ?_) AllReadyH.nil)
      go_simp
      go_wp2_with (go_at_call 18; refine (HGG.out _).mono ?_; rintro e w16 ⟨rfl, b16⟩)
      refine hK.out _ _ ?_ (fun hS_5 => ?_)
      · exact MapAt3.step hS_4 b16
      clear hK K
      refine wpAnyH_ready (rs := [22]) (by kernel_rfl) (by simp) (AllReadyH.cons rfl (fun K hK => ?_) AllReadyH.nil)
      go_simp
      go_wp2_with (go_at_call 18; refine (HG.out _).mono ?_; rintro e w17 ⟨rfl, b17⟩)
      refine hK.out _ _ ?_ (fun hS_6 => ?_)
      · exact MapAt3.step hS_5 b17
      clear hK K
      refine wpAnyH_takeY (i := 23) (v := .bool true) rfl rfl (by kernel_rfl) (by kernel_rfl) (by kernel_rfl) (fun _ _ _ h => h) (Or.inl ⟨Eq.refl true, fun w1 _ => ?_⟩) hS_6 ?_
      · first | rfl | (go_simp; done) | (go_simp; rfl)
      (try simp only [Act.put, List.setIfInBounds_toArray, List.set_cons_zero, List.set_cons_succ])
      refine wpAnyH_takeY (i := 24) (v := .bool true) rfl rfl (by kernel_rfl) (by kernel_rfl) (by kernel_rfl) (fun _ _ _ h => h) (Or.inl ⟨Eq.refl true, fun w1 _ => ?_⟩) hS_6 ?_
      · first | rfl | (go_simp; done) | (go_simp; rfl)
      (try simp only [Act.put, List.setIfInBounds_toArray, List.set_cons_zero, List.set_cons_succ])
      refine wpAnyH_takeY (i := 25) (v := .bool true) rfl rfl (by kernel_rfl) (by kernel_rfl) (by kernel_rfl) (fun _ _ _ h => h) (Or.inl ⟨Eq.refl true, fun w1 _ => ?_⟩) hS_6 ?_
      · first | rfl | (go_simp; done) | (go_simp; rfl)
      (try simp only [Act.put, List.setIfInBounds_toArray, List.set_cons_zero, List.set_cons_succ])
      refine wpAnyH_ready (rs := [26]) (by kernel_rfl) (by simp) (AllReadyH.cons rfl (fun K hK => ?_) AllReadyH.nil)
      go_simp
      go_wp2_with (go_at_call 11; refine (lives10_any _).mono ?_; rintro e w18 ⟨rfl, b18⟩)
      refine hK.out _ _ ?_ (fun hS_7 => ?_)
      · exact MapAt3.step hS_6 b18
      clear hK K
      refine wpAnyH_takeY (i := 27) (v := .bool true) rfl rfl (by kernel_rfl) (by kernel_rfl) (by kernel_rfl) (fun _ _ _ h => h) (Or.inl ⟨Eq.refl true, fun w1 _ => ?_⟩) hS_7 ?_
      · first | rfl | (go_simp; done) | (go_simp; rfl)
      (try simp only [Act.put, List.setIfInBounds_toArray, List.set_cons_zero, List.set_cons_succ])
      refine wpAnyH_takeY (i := 28) (v := .bool true) rfl rfl (by kernel_rfl) (by kernel_rfl) (by kernel_rfl) (fun _ _ _ h => h) (Or.inl ⟨Eq.refl true, fun w1 _ => ?_⟩) hS_7 ?_
      · first | rfl | (go_simp; done) | (go_simp; rfl)
      (try simp only [Act.put, List.setIfInBounds_toArray, List.set_cons_zero, List.set_cons_succ])
      refine wpAnyH_done (by kernel_rfl) ?_ _
      go_wp2_with fail
      go_ret
      exact ⟨rfl, kept_trans hb11 hS_7.2⟩

end Go.Proofs.Ytmjdplnadclgnaa
