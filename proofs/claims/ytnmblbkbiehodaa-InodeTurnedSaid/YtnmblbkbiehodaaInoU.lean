import Derived.Test.YtnmblbkbiehodaaInoT
namespace Go.Proofs.Ytnmblbkbiehodaa
open Go.RowKit Go.WideShapes
set_option linter.unusedSimpArgs false
set_option linter.unusedVariables false

theorem ofNat_toNat8 (y : UInt8) : UInt8.ofNat y.toNat = y := by apply UInt8.toNat_inj.1; simp
theorem fields_16 {ys : List UInt8} (h : 16 ≤ ys.length) (hm : mayI (fieldsI ys) = true) : inoX (fieldsI ys) = ys.take 16 := by
  rw [inoX_bytes hm]
  match ys, h with
  | y0 :: y1 :: y2 :: y3 :: y4 :: y5 :: y6 :: y7 :: y8 :: y9 :: y10 :: y11 :: y12 :: y13 :: y14 :: y15 :: r, _ =>
    have e2 : UInt8.ofNat ((y2.toNat : Int) + 256 * (y3.toNat : Int)).toNat = y2 := by
      have := y2.toNat_lt
      have e : ((y2.toNat : Int) + 256 * (y3.toNat : Int)).toNat = y2.toNat + 256 * y3.toNat := by omega
      rw [e]; apply UInt8.toNat_inj.1; simp
    have e3 : UInt8.ofNat (((y2.toNat : Int) + 256 * (y3.toNat : Int)).toNat / 256) = y3 := by
      have := y2.toNat_lt
      have e : ((y2.toNat : Int) + 256 * (y3.toNat : Int)).toNat / 256 = y3.toNat := by omega
      rw [e]; exact ofNat_toNat8 _
    show [UInt8.ofNat y0.toNat, UInt8.ofNat y1.toNat, UInt8.ofNat ((y2.toNat : Int) + 256 * (y3.toNat : Int)).toNat, UInt8.ofNat (((y2.toNat : Int) + 256 * (y3.toNat : Int)).toNat / 256), UInt8.ofNat y4.toNat, UInt8.ofNat y5.toNat, UInt8.ofNat y6.toNat, UInt8.ofNat y7.toNat, UInt8.ofNat y8.toNat, UInt8.ofNat y9.toNat, UInt8.ofNat y10.toNat, UInt8.ofNat y11.toNat, UInt8.ofNat y12.toNat, UInt8.ofNat y13.toNat, UInt8.ofNat y14.toNat, UInt8.ofNat y15.toNat] = [y0, y1, y2, y3, y4, y5, y6, y7, y8, y9, y10, y11, y12, y13, y14, y15]
    rw [e2, e3]
    simp only [ofNat_toNat8]
theorem zeros_44 {ys : List UInt8} (hl : ys.length = 64) (hz : ∀ j, 16 ≤ j → j < 60 → bAt ys j = 0) : slI ys 16 44 = List.replicate 44 0 := by
  rw [List.eq_replicate_iff]
  refine ⟨slI_len (by omega), fun b hb => ?_⟩
  obtain ⟨i, hi, rfl⟩ := List.mem_iff_getElem.1 hb
  have hi' : i < 44 := by rwa [slI_len (by omega)] at hi
  have := hz (16 + i) (by omega) (by omega)
  rw [bAt_eq (by omega)] at this
  apply UInt8.toNat_inj.1
  simp only [slI, List.getElem_take, List.getElem_drop]
  exact this
theorem rdGood_of {ys : List UInt8} (hl : ys.length = 64) (hs : sumOk ys = true) (hm : mayI (fieldsI ys) = true) (hk : (fieldsI ys).k ≠ 0) (hz : ∀ j, 16 ≤ j → j < 60 → bAt ys j = 0) : rdGood ys = true := by
  have hX := fields_16 (ys := ys) (by omega) hm
  have hY : inoY (fieldsI ys) = ys.take 60 := by
    unfold inoY
    rw [inoX_len hm, hX, show (60 : Nat) = 16 + 44 from rfl, take_slI, zeros_44 hl hz]
  have hs' := of_decide_eq_true hs
  have hle := le_ofLEI (slI ys 60 4)
  rw [slI_len (by omega), hs'] at hle
  unfold rdGood
  rw [hm, Bool.true_and, putL_some hm hk, put_sum, hY, hle]
  apply decide_eq_true
  rw [← take_slI ys 60 4, List.take_of_length_le (by omega)]
theorem of_rdGood {ys : List UInt8} (hl : ys.length = 64) (hn : ys ≠ zer64) (hg : rdGood ys = true) : mayI (fieldsI ys) = true ∧ (fieldsI ys).k ≠ 0 ∧ ∀ j, 16 ≤ j → j < 60 → bAt ys j = 0 := by
  unfold rdGood at hg
  rw [Bool.and_eq_true] at hg
  obtain ⟨hm, hp⟩ := hg
  have hp := of_decide_eq_true hp
  have hk : (fieldsI ys).k ≠ 0 := by
    intro hk
    rw [putL_zero hm hk] at hp
    exact hn hp.symm
  refine ⟨hm, hk, fun j h1 h2 => ?_⟩
  rw [putL_some hm hk, put_sum] at hp
  unfold inoY at hp
  have hx := inoX_len hm
  generalize crcF _ = z at hp
  generalize inoX (fieldsI ys) = X at *
  have e : ys[j]? = some 0 := by
    rw [← hp, List.getElem?_append_left (by rw [List.length_append, List.length_replicate]; omega), List.getElem?_append_right (by omega), List.getElem?_replicate, if_pos (by omega)]
  unfold bAt
  rw [List.getD_eq_getElem?_getD, e]; rfl
theorem bAt_take {xs : List UInt8} {n j : Nat} (h : j < n) : bAt (xs.take n) j = bAt xs j := by
  unfold bAt
  rw [List.getD_eq_getElem?_getD, List.getD_eq_getElem?_getD, List.getElem?_take, if_pos h]
theorem getF_take64 {xs : List UInt8} (h : 64 ≤ xs.length) : getF xs 60 4 = getF (xs.take 64) 60 4 := by
  have h1 := getF_4 (xs := xs) (a := 60) (by omega)
  have h2 := getF_4 (xs := xs.take 64) (a := 60) (by rw [List.length_take]; omega)
  rw [show ((60 : Nat) : Int) = 60 from rfl] at h1 h2
  rw [h1, h2]
  unfold slI
  rw [List.drop_take, List.take_take, Nat.min_eq_left (by omega)]
theorem Blk.cellAt {w : World} {g : Nat} {e : TypeId} {L : List Value} (h : Blk w g e L) {n : Nat} {v : Value} (hv : L[n]? = some v) : w.cell? ⟨g, n, none⟩ = some v := by
  obtain ⟨h1, h2⟩ := List.getElem?_eq_some_iff.1 hv
  rw [h.cell h1, h2]
theorem zer64_map : zer64.map byteV = List.replicate 64 (.int .u8 0) := by unfold zer64; rw [List.map_replicate]; rfl
theorem zer64_row {w : World} {g : Nat} (h : Blk w g 5 (List.replicate 64 (.int .u8 0))) : RowB w (some ⟨g, 0, none⟩) 64 zer64 := by
  have q := (blk_own1 (B := 0) h (Nat.zero_le _) (by rw [List.length_replicate]; unfold maxLen; omega)).row
  rw [List.length_replicate, ← zer64_map] at q
  exact q

set_option maxHeartbeats 8000000 in
set_option maxRecDepth 100000 in
theorem readInoRef_any (a : Option Addr) (c : Nat) (xs : List UInt8) (w : World) (ha : RowB w a c xs) :
    Calls Try.prog 15 #[.slice a xs.length c] w fun e w' => e = .returned (.tuple #[inoV (rdI xs), .int .i64 (rdE xs)]) ∧ Below w.heap.size w w' := by
  have hl := rowB_len ha
  have hcap : xs.length ≤ c := ha.2.1
  have HZC := hid (show (#[.int .i64 0, .int .i64 0, .int .i64 0, .int .i64 0, .int .i64 0, .int .i64 0, .int .i64 0, .int .i64 0, .int .i64 0, .int .i64 0, .int .i64 0, .int .i64 0, .int .i64 0, .int .i64 0, .int .i64 0] : Array Value) = (inoC ino0).toArray from rfl)
  have HZ := hid (allocI w)
  have HB := hid (belowA w (.cells #[.int .i64 0, .int .i64 0, .int .i64 0, .int .i64 0, .int .i64 0, .int .i64 0, .int .i64 0, .int .i64 0, .int .i64 0, .int .i64 0, .int .i64 0, .int .i64 0, .int .i64 0, .int .i64 0, .int .i64 0] 25))
  by_cases h64 : xs.length < 64
  · obtain ⟨e1, e2⟩ := rd_short h64
    rw [e1, e2]
    clear e1 e2
    go_enter Try.func15, Try.ntmps15
    go_wp2_with (((with_reducible refine wpl_storeI rfl _ _ rfl w.heap.size rfl ino0 rfl HZC.out HZ.out ?_); intro w9 k9 g9; have K9 := hid k9; have G9 := hid g9; clear k9 g9))
    refine bodyPost_ret (results_cell2 rfl rfl K9.out Try.underlying25 rfl (by rw [infoIno]; rfl)) rfl ?_
    exact ⟨rfl, below_grownS HB.out G9.out (Nat.le_refl _) HB.out.size⟩
  have r0 := rowB_take ha 64
  have hyl : (xs.take 64).length = 64 := by simp; omega
  have hc64 : 64 ≤ c := by omega
  have hc64i : (64 : Int) ≤ (c : Int) := by omega
  have i64x : ¬ ((xs.length : Int) < 64) := by omega
  have dn : decide ((xs.length : Int) < 64) = false := decide_eq_false i64x
  have hX := hid (fun w1 (hb : Below w.heap.size w w1) => Row.mono ha hb)
  have HR := hid (fun w1 (hb : Below w.heap.size w w1) => Row.mono r0 hb)
  have EQ := fun a2 c2 w1 r1 r2 => same_any a a2 c c2 (xs.take 64) zer64 w1 r1 r2 (by omega) (by rw [show zer64.length = 64 from rfl]; omega)
  rw [hyl, show zer64.length = 64 from rfl] at EQ
  obtain ⟨Z64, hZ64⟩ : ∃ Z, Z = (List.replicate 64 (Value.int .u8 0)).toArray := ⟨_, rfl⟩
  have hmk : ∀ w, (Instr.makeSlice 26 (.int .i64 64) (.int .i64 64)).run Try.prog w = .ok (.slice (some ⟨w.heap.size, 0, none⟩) 64 64) (w.alloc (.cells Z64 5)) := fun w => by rw [hZ64]; kernel_rfl
  have HZR : Hid (RowB ((w.alloc (.cells #[.int .i64 0, .int .i64 0, .int .i64 0, .int .i64 0, .int .i64 0, .int .i64 0, .int .i64 0, .int .i64 0, .int .i64 0, .int .i64 0, .int .i64 0, .int .i64 0, .int .i64 0, .int .i64 0, .int .i64 0] 25)).alloc (.cells Z64 5)).drew (some ⟨w.heap.size + 1, 0, none⟩) 64 zer64) := by
    have q : Blk ((w.alloc (.cells #[.int .i64 0, .int .i64 0, .int .i64 0, .int .i64 0, .int .i64 0, .int .i64 0, .int .i64 0, .int .i64 0, .int .i64 0, .int .i64 0, .int .i64 0, .int .i64 0, .int .i64 0, .int .i64 0, .int .i64 0] 25)).alloc (.cells Z64 5)) (w.heap.size + 1) 5 (List.replicate 64 (.int .u8 0)) := by
      have q := heap_alloc_new (w.alloc (.cells #[.int .i64 0, .int .i64 0, .int .i64 0, .int .i64 0, .int .i64 0, .int .i64 0, .int .i64 0, .int .i64 0, .int .i64 0, .int .i64 0, .int .i64 0, .int .i64 0, .int .i64 0, .int .i64 0, .int .i64 0] 25)) (.cells Z64 5)
      rw [show (w.alloc (.cells #[.int .i64 0, .int .i64 0, .int .i64 0, .int .i64 0, .int .i64 0, .int .i64 0, .int .i64 0, .int .i64 0, .int .i64 0, .int .i64 0, .int .i64 0, .int .i64 0, .int .i64 0, .int .i64 0, .int .i64 0] 25)).heap.size = w.heap.size + 1 from by simp, hZ64] at q
      rw [hZ64]; exact q
    exact Row.drew (zer64_row q)
  clear hZ64
  have hS0 : Below (w.alloc (.cells #[.int .i64 0, .int .i64 0, .int .i64 0, .int .i64 0, .int .i64 0, .int .i64 0, .int .i64 0, .int .i64 0, .int .i64 0, .int .i64 0, .int .i64 0, .int .i64 0, .int .i64 0, .int .i64 0, .int .i64 0] 25)).heap.size (w.alloc (.cells #[.int .i64 0, .int .i64 0, .int .i64 0, .int .i64 0, .int .i64 0, .int .i64 0, .int .i64 0, .int .i64 0, .int .i64 0, .int .i64 0, .int .i64 0, .int .i64 0, .int .i64 0, .int .i64 0, .int .i64 0] 25)) (w.alloc (.cells #[.int .i64 0, .int .i64 0, .int .i64 0, .int .i64 0, .int .i64 0, .int .i64 0, .int .i64 0, .int .i64 0, .int .i64 0, .int .i64 0, .int .i64 0, .int .i64 0, .int .i64 0, .int .i64 0, .int .i64 0] 25)).drew := (Below.refl _ _).drew
  by_cases hz : xs.take 64 = zer64
  · obtain ⟨e1, e2⟩ := rd_zero h64 hz
    rw [e1, e2]
    simp only [decide_eq_true hz] at EQ
    have EQ := hid EQ
    generalize xs.take 64 = ys at *
    clear e1 e2 hz ha r0 hyl
    go_enter Try.func15, Try.ntmps15
    go_wp2_with fail
    refine wp_region_held_drew (S := fun w' => Below (w.alloc (.cells #[.int .i64 0, .int .i64 0, .int .i64 0, .int .i64 0, .int .i64 0, .int .i64 0, .int .i64 0, .int .i64 0, .int .i64 0, .int .i64 0, .int .i64 0, .int .i64 0, .int .i64 0, .int .i64 0, .int .i64 0] 25)).heap.size (w.alloc (.cells #[.int .i64 0, .int .i64 0, .int .i64 0, .int .i64 0, .int .i64 0, .int .i64 0, .int .i64 0, .int .i64 0, .int .i64 0, .int .i64 0, .int .i64 0, .int .i64 0, .int .i64 0, .int .i64 0, .int .i64 0] 25)) w') (by kernel_rfl) hS0 (fun hS_0 => ?_)
    refine takeR (i := 0) (v := .slice a xs.length c) rfl rfl (by kernel_rfl) (by kernel_rfl) (by kernel_rfl) (fun _ _ _ h => h) (Or.inl ⟨Eq.refl true, fun w1 hSw => ?_⟩) hS_0 ?_
    · first | rfl | (clear hSw; go_simp; done) | (clear hSw; go_simp; rfl)
    (try simp only [Act.put, List.setIfInBounds_toArray, List.set_cons_zero, List.set_cons_succ])
    refine takeR (i := 1) (v := .slice a 64 c) rfl rfl (by kernel_rfl) (by kernel_rfl) (by kernel_rfl) (fun _ _ _ h => h) (Or.inl ⟨Eq.refl true, fun w1 hSw => ?_⟩) hS_0 ?_
    · first | rfl | (clear hSw; go_simp; done) | (clear hSw; go_simp; rfl)
    (try simp only [Act.put, List.setIfInBounds_toArray, List.set_cons_zero, List.set_cons_succ])
    refine wpAnyH_ready (rs := [2]) (by kernel_rfl) (by simp) (AllReadyH.cons rfl (fun K hK => ?_) AllReadyH.nil)
    go_simp
    refine hK.out _ _ ?_ (fun hS_1 => ?_)
    · exact (by first | exact hS_0.alloc hS_0.size _ | exact ((Below.refl _ _).alloc (Nat.le_refl _) _).drew)
    clear hK K
    refine wpAnyH_ready (rs := [3]) (by kernel_rfl) (by simp) (AllReadyH.cons rfl (fun K hK => ?_) AllReadyH.nil)
    go_simp
    go_wp2_with (go_at_call 10; refine (EQ.out _ _ _ (HR.out _ (below_trans HB.out hS_1 HB.out.size)) HZR.out).mono ?_; rintro e w5 ⟨rfl, b5⟩)
    refine hK.out _ _ ?_ (fun hS_2 => ?_)
    · exact kept_trans hS_1 b5
    clear hK K
    refine takeR (i := 4) (v := .bool true) rfl rfl (by kernel_rfl) (by kernel_rfl) (by kernel_rfl) (fun _ _ _ h => h) (Or.inl ⟨Eq.refl true, fun w1 hSw => ?_⟩) hS_2 ?_
    · first | rfl | (clear hSw; go_simp; done) | (clear hSw; go_simp; rfl)
    (try simp only [Act.put, List.setIfInBounds_toArray, List.set_cons_zero, List.set_cons_succ])
    refine wpAnyH_done (by kernel_rfl) ?_ _
    have HB5 := hid (below_trans HB.out hS_2 HB.out.size)
    have HZ5 := hid (HZ.out.mono hS_2)
    clear hS_2 hS_1 hS_0 hS0 b5 HB HZ
    go_wp2_with (((with_reducible refine wpl_storeI rfl _ _ rfl w.heap.size rfl ino0 rfl HZC.out HZ5.out ?_); intro w9 k9 g9; have K9 := hid k9; have G9 := hid g9; clear k9 g9))
    refine bodyPost_ret (results_cell2 rfl rfl K9.out Try.underlying25 rfl (by rw [infoIno]; rfl)) rfl ?_
    exact ⟨rfl, below_grownS HB5.out G9.out (Nat.le_refl _) HB5.out.size⟩
  simp only [decide_eq_false hz] at EQ
  have EQ := hid EQ
  have hr1 := @rd_sum xs h64 hz
  have hr2 := @rd_bad xs h64 hz
  have hr3 := @rd_good xs h64 hz
  have hr60 := rowB_take ha 60
  have hl60 : (xs.take 60).length = 60 := by simp; omega
  have HR60 := hid (fun w1 (hb : Below w.heap.size w w1) => Row.mono hr60 hb)
  have HSum := fun w1 (r1 : RowB w1 a c (xs.take 60)) => sumRef_any a c (xs.take 60) w1 r1
  rw [hl60] at HSum
  have hG := fun w1 r1 => getRef_any a c xs 60 4 w1 r1 (by omega) (by omega)
  have g4 := getF_4 (xs := xs.take 64) (a := 60) (by omega)
  rw [show ((60 : Nat) : Int) = 60 from rfl, ← getF_take64 (by omega)] at g4
  rw [g4] at hG
  simp only [getV, Option.getD_some, Option.isSome_some] at hG
  have e60 : (xs.take 64).take 60 = xs.take 60 := by rw [List.take_take, Nat.min_eq_left (by omega)]
  have hs : sumOk (xs.take 64) = decide (ofLE (slI (xs.take 64) 60 4) = crcF (xs.take 60)) := by rw [← e60]; rfl
  have hA := @rdGood_of (xs.take 64) hyl
  have hBn := @of_rdGood (xs.take 64) hyl hz
  have HM := fun w1 => mayInoRef_any (fieldsI (xs.take 64)) w1
  have hcl := crcF_lt (xs.take 60)
  have hCB := fieldsC_B (xs.take 64)
  have hCO := fieldsC_O (xs.take 64)
  have hC0 : (inoC (fieldsI (xs.take 64)))[0]? = some (.int .i64 (bAt (xs.take 64) 0 : Nat)) := rfl
  have hC1 : (inoC (fieldsI (xs.take 64)))[1]? = some (.int .i64 (bAt (xs.take 64) 1 : Nat)) := rfl
  have hC2 : (inoC (fieldsI (xs.take 64)))[2]? = some (.int .i64 ((bAt (xs.take 64) 2 : Int) + 256 * (bAt (xs.take 64) 3 : Int))) := rfl
  have hk0 : (fieldsI (xs.take 64)).k = (bAt (xs.take 64) 0 : Int) := rfl
  have hF0 := ino0_fill (xs.take 64)
  have hCl := inoC_len (fieldsI (xs.take 64))
  obtain ⟨b, off, rfl, hb, hcell⟩ := ha.bytes (by omega)
  have hcy : ∀ j, j < 64 → w.cell? ⟨b, off + j, none⟩ = some (.int .u8 (bAt (xs.take 64) j : Int)) := fun j hj => by rw [bAt_take hj]; exact hcell j (by omega)
  have hbl := fun j => bAt_lt (xs.take 64) j
  rw [hk0] at hA hBn
  rw [hs] at hr1 hr2 hr3 hA
  generalize crcF (xs.take 60) = z at *
  generalize ofLE (slI (xs.take 64) 60 4) = u at *
  generalize rdGood (xs.take 64) = G at *
  generalize fieldsI (xs.take 64) = i at *
  generalize bAt (xs.take 64) = f at *
  generalize mayI i = M at *
  generalize xs.take 64 = ys at *
  have hl8 : xs.length ≤ c := hcap
  have hC0 := hid hC0; have hC1 := hid hC1; have hC2 := hid hC2; have hCB := hid hCB; have hCO := hid hCO
  have HSum := hid HSum; have hG := hid hG; have HM := hid HM; have HF0 := hid hF0; have HCL := hid hCl
  have HCY := hid hcy; have HBL := hid hbl
  clear hs g4 r0 hr60 hl60 hyl ha e60 hk0 hF0 hCl hcell hcy hbl
  by_cases hu : u = z
  case neg =>
    rw [decide_eq_false hu] at hr1
    obtain ⟨e1, e2⟩ := hr1 rfl
    rw [e1, e2]
    have hne : ((u : Int) != (z : Int)) = true := by simp; omega
    clear e1 e2 hr1 hr2 hr3 hu hA hBn
    go_enter Try.func15, Try.ntmps15
    go_wp2_with fail
    refine wp_region_held_drew (S := fun w' => Below (w.alloc (.cells #[.int .i64 0, .int .i64 0, .int .i64 0, .int .i64 0, .int .i64 0, .int .i64 0, .int .i64 0, .int .i64 0, .int .i64 0, .int .i64 0, .int .i64 0, .int .i64 0, .int .i64 0, .int .i64 0, .int .i64 0] 25)).heap.size (w.alloc (.cells #[.int .i64 0, .int .i64 0, .int .i64 0, .int .i64 0, .int .i64 0, .int .i64 0, .int .i64 0, .int .i64 0, .int .i64 0, .int .i64 0, .int .i64 0, .int .i64 0, .int .i64 0, .int .i64 0, .int .i64 0] 25)) w') (by kernel_rfl) hS0 (fun hS_0 => ?_)
    refine takeR (i := 0) (v := .slice (some ⟨b, off, none⟩) xs.length c) rfl rfl (by kernel_rfl) (by kernel_rfl) (by kernel_rfl) (fun _ _ _ h => h) (Or.inl ⟨Eq.refl true, fun w1 hSw => ?_⟩) hS_0 ?_
    · first | rfl | (clear hSw; go_simp; done) | (clear hSw; go_simp; rfl)
    (try simp only [Act.put, List.setIfInBounds_toArray, List.set_cons_zero, List.set_cons_succ])
    refine takeR (i := 1) (v := .slice (some ⟨b, off, none⟩) 64 c) rfl rfl (by kernel_rfl) (by kernel_rfl) (by kernel_rfl) (fun _ _ _ h => h) (Or.inl ⟨Eq.refl true, fun w1 hSw => ?_⟩) hS_0 ?_
    · first | rfl | (clear hSw; go_simp; done) | (clear hSw; go_simp; rfl)
    (try simp only [Act.put, List.setIfInBounds_toArray, List.set_cons_zero, List.set_cons_succ])
    refine wpAnyH_ready (rs := [2]) (by kernel_rfl) (by simp) (AllReadyH.cons rfl (fun K hK => ?_) AllReadyH.nil)
    go_simp
    refine hK.out _ _ ?_ (fun hS_1 => ?_)
    · exact (by first | exact hS_0.alloc hS_0.size _ | exact ((Below.refl _ _).alloc (Nat.le_refl _) _).drew)
    clear hK K
    refine wpAnyH_ready (rs := [3]) (by kernel_rfl) (by simp) (AllReadyH.cons rfl (fun K hK => ?_) AllReadyH.nil)
    go_simp
    go_wp2_with (go_at_call 10; refine (EQ.out _ _ _ (HR.out _ (below_trans HB.out hS_1 HB.out.size)) HZR.out).mono ?_; rintro e w5 ⟨rfl, b5⟩)
    refine hK.out _ _ ?_ (fun hS_2 => ?_)
    · exact kept_trans hS_1 b5
    clear hK K
    refine takeR (i := 4) (v := .bool false) rfl rfl (by kernel_rfl) (by kernel_rfl) (by kernel_rfl) (fun _ _ _ h => h) (Or.inl ⟨Eq.refl true, fun w1 hSw => ?_⟩) hS_2 ?_
    · first | rfl | (clear hSw; go_simp; done) | (clear hSw; go_simp; rfl)
    (try simp only [Act.put, List.setIfInBounds_toArray, List.set_cons_zero, List.set_cons_succ])
    refine wpAnyH_done (by kernel_rfl) ?_ _
    have HB5 := hid (below_trans HB.out hS_2 HB.out.size)
    have HZ5 := hid (HZ.out.mono hS_2)
    clear hS_2 hS_1 hS_0 hS0 b5 HB HZ
    go_wp2_with fail
    refine (hG.out w5 (hX.out _ HB5.out)).mono ?_
    rintro e wx ⟨rfl, rfl⟩
    go_wp2_with fail
    refine (HSum.out w5 (HR60.out _ HB5.out)).mono ?_
    rintro e wx ⟨rfl, rfl⟩
    go_wp2_with (((with_reducible refine wpl_storeI rfl _ _ rfl w.heap.size rfl ino0 rfl HZC.out HZ5.out ?_); intro w9 k9 g9; have K9 := hid k9; have G9 := hid g9; clear k9 g9))
    refine bodyPost_ret (results_cell2 rfl rfl K9.out Try.underlying25 rfl (by rw [infoIno]; rfl)) rfl ?_
    exact ⟨rfl, below_grownS HB5.out G9.out (Nat.le_refl _) HB5.out.size⟩
  case pos =>
  rw [decide_eq_true hu] at hr1 hr2 hr3 hA
  subst hu
  have hne : ((u : Int) != (u : Int)) = false := by simp
  have hA := hid (hA rfl)
  have hBn := hid hBn
  have go : Calls Try.prog 15 #[.slice (some ⟨b, off, none⟩) xs.length c] w fun e w' => e = .returned (.tuple #[inoV (if G then i else ino0), .int .i64 (if G then 0 else 2)]) ∧ Below w.heap.size w w' := by
    have HV : Hid (∀ G', G' = G → (inoV (if G' = true then i else ino0) = inoV (if G then i else ino0) ∧ (if G' = true then (0 : Int) else 2) = (if G then 0 else 2))) := fun G' h => by rw [h]; exact ⟨rfl, rfl⟩
    obtain ⟨V, hV⟩ : ∃ V, V = inoV (if G then i else ino0) := ⟨_, rfl⟩
    obtain ⟨E, hE⟩ : ∃ E : Int, E = (if G then 0 else 2) := ⟨_, rfl⟩
    rw [← hV, ← hE] at HV ⊢
    have HT : Hid (G = true → V = inoV i ∧ E = 0) := fun h => by rw [hV, hE, h]; exact ⟨rfl, rfl⟩
    have HN : Hid (G = false → V = inoV ino0 ∧ E = 2) := fun h => by rw [hV, hE, h]; exact ⟨rfl, rfl⟩
    clear hV hE HV hr1 hr2 hr3
    go_enter Try.func15, Try.ntmps15
    go_wp2_with fail
    refine wp_region_held_drew (S := fun w' => Below (w.alloc (.cells #[.int .i64 0, .int .i64 0, .int .i64 0, .int .i64 0, .int .i64 0, .int .i64 0, .int .i64 0, .int .i64 0, .int .i64 0, .int .i64 0, .int .i64 0, .int .i64 0, .int .i64 0, .int .i64 0, .int .i64 0] 25)).heap.size (w.alloc (.cells #[.int .i64 0, .int .i64 0, .int .i64 0, .int .i64 0, .int .i64 0, .int .i64 0, .int .i64 0, .int .i64 0, .int .i64 0, .int .i64 0, .int .i64 0, .int .i64 0, .int .i64 0, .int .i64 0, .int .i64 0] 25)) w') (by kernel_rfl) hS0 (fun hS_0 => ?_)
    refine takeR (i := 0) (v := .slice (some ⟨b, off, none⟩) xs.length c) rfl rfl (by kernel_rfl) (by kernel_rfl) (by kernel_rfl) (fun _ _ _ h => h) (Or.inl ⟨Eq.refl true, fun w1 hSw => ?_⟩) hS_0 ?_
    · first | rfl | (clear hSw; go_simp; done) | (clear hSw; go_simp; rfl)
    (try simp only [Act.put, List.setIfInBounds_toArray, List.set_cons_zero, List.set_cons_succ])
    refine takeR (i := 1) (v := .slice (some ⟨b, off, none⟩) 64 c) rfl rfl (by kernel_rfl) (by kernel_rfl) (by kernel_rfl) (fun _ _ _ h => h) (Or.inl ⟨Eq.refl true, fun w1 hSw => ?_⟩) hS_0 ?_
    · first | rfl | (clear hSw; go_simp; done) | (clear hSw; go_simp; rfl)
    (try simp only [Act.put, List.setIfInBounds_toArray, List.set_cons_zero, List.set_cons_succ])
    refine wpAnyH_ready (rs := [2]) (by kernel_rfl) (by simp) (AllReadyH.cons rfl (fun K hK => ?_) AllReadyH.nil)
    go_simp
    refine hK.out _ _ ?_ (fun hS_1 => ?_)
    · exact (by first | exact hS_0.alloc hS_0.size _ | exact ((Below.refl _ _).alloc (Nat.le_refl _) _).drew)
    clear hK K
    refine wpAnyH_ready (rs := [3]) (by kernel_rfl) (by simp) (AllReadyH.cons rfl (fun K hK => ?_) AllReadyH.nil)
    go_simp
    go_wp2_with (go_at_call 10; refine (EQ.out _ _ _ (HR.out _ (below_trans HB.out hS_1 HB.out.size)) HZR.out).mono ?_; rintro e w5 ⟨rfl, b5⟩)
    refine hK.out _ _ ?_ (fun hS_2 => ?_)
    · exact kept_trans hS_1 b5
    clear hK K
    refine takeR (i := 4) (v := .bool false) rfl rfl (by kernel_rfl) (by kernel_rfl) (by kernel_rfl) (fun _ _ _ h => h) (Or.inl ⟨Eq.refl true, fun w1 hSw => ?_⟩) hS_2 ?_
    · first | rfl | (clear hSw; go_simp; done) | (clear hSw; go_simp; rfl)
    (try simp only [Act.put, List.setIfInBounds_toArray, List.set_cons_zero, List.set_cons_succ])
    refine wpAnyH_done (by kernel_rfl) ?_ _
    have HB5 := hid (below_trans HB.out hS_2 HB.out.size)
    have HZ5 := hid (HZ.out.mono hS_2)
    clear hS_2 hS_1 hS_0 hS0 b5 HB HZ
    go_wp2_with fail
    refine (hG.out w5 (hX.out _ HB5.out)).mono ?_
    rintro e wx ⟨rfl, rfl⟩
    go_wp2_with fail
    refine (HSum.out w5 (HR60.out _ HB5.out)).mono ?_
    rintro e wx ⟨rfl, rfl⟩
    have HZ5a := HZ5
    have hSw : w.heap.size ≤ w5.heap.size := HB5.out.size
    have hS' : w.heap.size < w5.heap.size := HZ5.out.lt
    have hbw5 : b < w5.heap.size := by omega
    have c0 : w5.cell? ⟨b, off, none⟩ = some (.int .u8 (f 0 : Int)) := (HB5.out.cell (p := ⟨b, off, none⟩) hb).trans (HCY.out 0 (by omega))
    have c1 : w5.cell? ⟨b, off + 1, none⟩ = some (.int .u8 (f 1 : Int)) := (HB5.out.cell (p := ⟨b, off + 1, none⟩) hb).trans (HCY.out 1 (by omega))
    have f0 := HBL.out 0
    have f1 := HBL.out 1
    have f2 := HBL.out 2
    have f3 := HBL.out 3
    have i1x : (1 : Int) < (xs.length : Int) := by omega
    have i2x : (2 : Int) < (xs.length : Int) := by omega
    have i3x : (3 : Int) < (xs.length : Int) := by omega
    have i0x : (0 : Int) < (xs.length : Int) := by omega
    go_wp2_with fail
    have e2 : pfill (inoC i) (.int .i64 0) 2 = [.int .i64 (f 0 : Int), .int .i64 (f 1 : Int), .int .i64 0, .int .i64 0, .int .i64 0, .int .i64 0, .int .i64 0, .int .i64 0, .int .i64 0, .int .i64 0, .int .i64 0, .int .i64 0, .int .i64 0, .int .i64 0, .int .i64 0] := by
      rw [← pfill_set _ (by rw [HCL.out]; omega) _ hC1.out, ← pfill_set _ (by rw [HCL.out]; omega) _ hC0.out, ← HF0.out]; rfl
    have K7 : Blk (w5.alloc (.cells #[.int .i64 (f 0 : Int), .int .i64 (f 1 : Int), .int .i64 0, .int .i64 0, .int .i64 0, .int .i64 0, .int .i64 0, .int .i64 0, .int .i64 0, .int .i64 0, .int .i64 0, .int .i64 0, .int .i64 0, .int .i64 0, .int .i64 0] 25)) w5.heap.size 25 (pfill (inoC i) (.int .i64 0) 2) := by rw [e2]; exact heap_alloc_new w5 _
    have Z7 := HZ5.out.mono (belowA w5 (.cells #[.int .i64 (f 0 : Int), .int .i64 (f 1 : Int), .int .i64 0, .int .i64 0, .int .i64 0, .int .i64 0, .int .i64 0, .int .i64 0, .int .i64 0, .int .i64 0, .int .i64 0, .int .i64 0, .int .i64 0, .int .i64 0, .int .i64 0] 25))
    have B7 := HB5.out.alloc HB5.out.size (.cells #[.int .i64 (f 0 : Int), .int .i64 (f 1 : Int), .int .i64 0, .int .i64 0, .int .i64 0, .int .i64 0, .int .i64 0, .int .i64 0, .int .i64 0, .int .i64 0, .int .i64 0, .int .i64 0, .int .i64 0, .int .i64 0, .int .i64 0] 25)
    clear c0 c1 e2 HZ5a
    generalize w5.alloc (.cells #[.int .i64 (f 0 : Int), .int .i64 (f 1 : Int), .int .i64 0, .int .i64 0, .int .i64 0, .int .i64 0, .int .i64 0, .int .i64 0, .int .i64 0, .int .i64 0, .int .i64 0, .int .i64 0, .int .i64 0, .int .i64 0, .int .i64 0] 25) = w7 at *
    generalize w5.heap.size = g7 at *
    have HK := hid (Blk.drew K7); have HBl := hid B7.drew; have HK7 := hid K7; have HZ7 := hid Z7; have HB7 := hid B7
    have k2 : w7.drew.cell? ⟨g7, 2, none⟩ = some (.int .i64 0) := HK.out.atFill (by rw [HCL.out]; omega)
    have fz2 : w7.drew.frozen? ⟨g7, 2, none⟩ = false := HK.out.frozen 2
    have SP : ∀ w', Below w.heap.size w w' → w'.cell? ⟨b, off + 2, none⟩ = some (.int .u8 (f 2 : Int)) ∧ w'.cell? ⟨b, off + 3, none⟩ = some (.int .u8 (f 3 : Int)) ∧ Below w.heap.size w w' := fun w' hb' =>
      ⟨(hb'.cell (p := ⟨b, off + 2, none⟩) hb).trans (HCY.out 2 (by omega)), (hb'.cell (p := ⟨b, off + 3, none⟩) hb).trans (HCY.out 3 (by omega)), hb'⟩
    have hS0 := SP _ B7.drew
    clear K7 Z7 B7
    have ew2 : IntKind.i64.wrap (f 2 : Int) = f 2 := IntWalk.i64_in _ (by omega)
    have ew3 : IntKind.i64.wrap (f 3 : Int) = f 3 := IntWalk.i64_in _ (by omega)
    have ew4 : IntKind.i64.wrap (256 * (f 3 : Int)) = 256 * (f 3 : Int) := IntWalk.i64_in _ (by omega)
    have ew5 : IntKind.i64.wrap ((f 2 : Int) + 256 * (f 3 : Int)) = (f 2 : Int) + 256 * (f 3 : Int) := IntWalk.i64_in _ (by omega)
    refine wp_region_held_drew (S := fun w' => w'.cell? ⟨b, off + 2, none⟩ = some (.int .u8 (f 2 : Int)) ∧ w'.cell? ⟨b, off + 3, none⟩ = some (.int .u8 (f 3 : Int)) ∧ Below w.heap.size w w') (by kernel_rfl) hS0 (fun hS_0 => ?_)
    refine takeR (i := 0) (v := .slice (some ⟨b, off, none⟩) xs.length c) rfl rfl (by kernel_rfl) (by kernel_rfl) (by kernel_rfl) (fun _ _ _ h => h) (Or.inl ⟨Eq.refl true, fun w1 hSw => ?_⟩) hS_0 ?_
    · first | rfl | (clear hSw; go_simp; done) | (clear hSw; go_simp; rfl)
    (try simp only [Act.put, List.setIfInBounds_toArray, List.set_cons_zero, List.set_cons_succ])
    refine takeR (i := 1) (v := .pointer (some ⟨b, off + 2, none⟩)) rfl rfl (by kernel_rfl) (by kernel_rfl) (by kernel_rfl) (fun _ _ _ h => h) (Or.inl ⟨Eq.refl true, fun w1 hSw => ?_⟩) hS_0 ?_
    · first | rfl | (clear hSw; go_simp; done) | (clear hSw; go_simp; rfl)
    (try simp only [Act.put, List.setIfInBounds_toArray, List.set_cons_zero, List.set_cons_succ])
    refine takeR (i := 2) (v := .int .u8 (f 2 : Int)) rfl rfl (by kernel_rfl) (by kernel_rfl) (by kernel_rfl) (fun _ _ _ h => h) (Or.inl ⟨Eq.refl true, fun w1 hSw => ?_⟩) hS_0 ?_
    · (obtain ⟨q1, q2, _⟩ := hSw; go_simp; try rfl)
    (try simp only [Act.put, List.setIfInBounds_toArray, List.set_cons_zero, List.set_cons_succ])
    refine takeR (i := 3) (v := .int .i64 (f 2 : Int)) rfl rfl (by kernel_rfl) (by kernel_rfl) (by kernel_rfl) (fun _ _ _ h => h) (Or.inl ⟨Eq.refl true, fun w1 hSw => ?_⟩) hS_0 ?_
    · first | rfl | (clear hSw; go_simp; done) | (clear hSw; go_simp; rfl)
    (try simp only [Act.put, List.setIfInBounds_toArray, List.set_cons_zero, List.set_cons_succ])
    refine takeR (i := 4) (v := .slice (some ⟨b, off, none⟩) xs.length c) rfl rfl (by kernel_rfl) (by kernel_rfl) (by kernel_rfl) (fun _ _ _ h => h) (Or.inl ⟨Eq.refl true, fun w1 hSw => ?_⟩) hS_0 ?_
    · first | rfl | (clear hSw; go_simp; done) | (clear hSw; go_simp; rfl)
    (try simp only [Act.put, List.setIfInBounds_toArray, List.set_cons_zero, List.set_cons_succ])
    refine takeR (i := 5) (v := .pointer (some ⟨b, off + 3, none⟩)) rfl rfl (by kernel_rfl) (by kernel_rfl) (by kernel_rfl) (fun _ _ _ h => h) (Or.inl ⟨Eq.refl true, fun w1 hSw => ?_⟩) hS_0 ?_
    · first | rfl | (clear hSw; go_simp; done) | (clear hSw; go_simp; rfl)
    (try simp only [Act.put, List.setIfInBounds_toArray, List.set_cons_zero, List.set_cons_succ])
    refine takeR (i := 6) (v := .int .u8 (f 3 : Int)) rfl rfl (by kernel_rfl) (by kernel_rfl) (by kernel_rfl) (fun _ _ _ h => h) (Or.inl ⟨Eq.refl true, fun w1 hSw => ?_⟩) hS_0 ?_
    · (obtain ⟨q1, q2, _⟩ := hSw; go_simp; try rfl)
    (try simp only [Act.put, List.setIfInBounds_toArray, List.set_cons_zero, List.set_cons_succ])
    refine takeR (i := 7) (v := .int .i64 (f 3 : Int)) rfl rfl (by kernel_rfl) (by kernel_rfl) (by kernel_rfl) (fun _ _ _ h => h) (Or.inl ⟨Eq.refl true, fun w1 hSw => ?_⟩) hS_0 ?_
    · first | rfl | (clear hSw; go_simp; done) | (clear hSw; go_simp; rfl)
    (try simp only [Act.put, List.setIfInBounds_toArray, List.set_cons_zero, List.set_cons_succ])
    refine takeR (i := 8) (v := .int .i64 (256 * (f 3 : Int))) rfl rfl (by kernel_rfl) (by kernel_rfl) (by kernel_rfl) (fun _ _ _ h => h) (Or.inl ⟨Eq.refl true, fun w1 hSw => ?_⟩) hS_0 ?_
    · first | rfl | (clear hSw; go_simp; done) | (clear hSw; go_simp; rfl)
    (try simp only [Act.put, List.setIfInBounds_toArray, List.set_cons_zero, List.set_cons_succ])
    refine takeR (i := 9) (v := .int .i64 ((f 2 : Int) + 256 * (f 3 : Int))) rfl rfl (by kernel_rfl) (by kernel_rfl) (by kernel_rfl) (fun _ _ _ h => h) (Or.inl ⟨Eq.refl true, fun w1 hSw => ?_⟩) hS_0 ?_
    · first | rfl | (clear hSw; go_simp; done) | (clear hSw; go_simp; rfl)
    (try simp only [Act.put, List.setIfInBounds_toArray, List.set_cons_zero, List.set_cons_succ])
    refine takeR (i := 10) (v := .pointer (some ⟨g7, 2, none⟩)) rfl rfl (by kernel_rfl) (by kernel_rfl) (by kernel_rfl) (fun _ _ _ h => h) (Or.inl ⟨Eq.refl true, fun w1 hSw => ?_⟩) hS_0 ?_
    · first | rfl | (clear hSw; go_simp; done) | (clear hSw; go_simp; rfl)
    (try simp only [Act.put, List.setIfInBounds_toArray, List.set_cons_zero, List.set_cons_succ])
    refine wpAnyH_ready (rs := [11]) (by kernel_rfl) (by simp) (AllReadyH.cons rfl (fun K hK => ?_) AllReadyH.nil)
    go_simp
    refine hK.out _ _ ?_ (fun hS_1 => ?_)
    · exact SP _ (HBl.out.setCell (p := ⟨g7, 2, none⟩) hSw _)
    clear hK K
    refine wpAnyH_done (by kernel_rfl) ?_ _
    have HK3 := hid (Blk.drew (HK7.out.fill (show 2 < (inoC i).length by rw [HCL.out]; omega) hC2.out))
    have HZ3 := hid (Blk.drew (HZ7.out.setOtherS (Nat.ne_of_lt hS') 2 (.int .i64 ((f 2 : Int) + 256 * (f 3 : Int)))))
    have HB3 := hid (HB7.out.setCell (p := ⟨g7, 2, none⟩) hSw (.int .i64 ((f 2 : Int) + 256 * (f 3 : Int)))).drew
    clear HK HBl HK7 HZ7 HB7 k2 fz2 SP hS0 hS_0 hS_1 ew2 ew3 ew4 ew5 f0 f1 f2 f3
    have HK := hid HK3.out; have HZ := hid HZ3.out; have HBl := hid HB3.out
    clear HK3 HZ3 HB3
    generalize World.drew _ = w8 at *
    go_wp2_with fail
    go_loopw [8] (fun sl wr => ∃ j : Nat, j ≤ 4 ∧ sl = .int .i64 j ∧ Blk wr g7 25 (pfill (inoC i) (.int .i64 0) (3 + j)) ∧ Blk wr w.heap.size 25 (inoC ino0) ∧ Below w.heap.size w wr) (fun i _ => 4 - (intOf i).toNat)
    case atStart => exact ⟨0, by omega, rfl, HK.out, HZ.out, HBl.out⟩
    case round =>
    clear HK HZ HBl
    obtain ⟨j, hj, rfl, hk, hz, hb'⟩ := hrel
    by_cases hj4 : j < 4
    · have kj := hk.atFill (show 3 + j < (inoC i).length by rw [HCL.out]; omega)
      have fzj := hk.frozen (3 + j)
      have HK := hid (hk.fill (show 3 + j < (inoC i).length by rw [HCL.out]; omega) (hCB.out j hj4))
      have HZ := hid (hz.setOtherS (Nat.ne_of_lt hS') (3 + j) (.int .i64 (f (4 + j) : Nat)))
      have HBl := hid (hb'.setCell (p := ⟨g7, 3 + j, none⟩) hSw (.int .i64 (f (4 + j) : Nat)))
      have cj := (hb'.cell (p := ⟨b, off + (4 + j), none⟩) hb).trans (HCY.out (4 + j) (by omega))
      have fj := HBL.out (4 + j)
      have ixj : (4 : Int) + (j : Int) < (xs.length : Int) := by omega
      have dj : decide ((j : Int) < 4) = true := decide_eq_true (by omega)
      have ij : (j : Int) < 4 := by omega
      clear hk hz hb'
      go_wp2_with fail
      go_roundw
      case rel => exact ⟨j + 1, by omega, by go_num, HK.out, HZ.out, HBl.out⟩
      case measure => simp [intOf]; omega
    obtain rfl : j = 4 := by omega
    rw [show ((4 : Nat) : Int) = 4 from rfl]
    have HK := hid hk; have HZ := hid hz; have HBl := hid hb'
    clear hk hz hb'
    obtain ⟨wo, hwo⟩ : ∃ x, x = wr := ⟨_, rfl⟩
    subst hwo
    go_wp2_with fail
    go_loopw [9] (fun sl wr => ∃ j : Nat, j ≤ 8 ∧ sl = .int .i64 j ∧ Blk wr g7 25 (pfill (inoC i) (.int .i64 0) (7 + j)) ∧ Blk wr w.heap.size 25 (inoC ino0) ∧ Below w.heap.size w wr) (fun i _ => 8 - (intOf i).toNat)
    case atStart => exact ⟨0, by omega, rfl, HK.out, HZ.out, HBl.out⟩
    case round =>
    clear HK HZ HBl
    obtain ⟨j, hj, rfl, hk, hz, hb'⟩ := hrel
    by_cases hj4 : j < 8
    · have kj := hk.atFill (show 7 + j < (inoC i).length by rw [HCL.out]; omega)
      have fzj := hk.frozen (7 + j)
      have HK := hid (hk.fill (show 7 + j < (inoC i).length by rw [HCL.out]; omega) (hCO.out j hj4))
      have HZ := hid (hz.setOtherS (Nat.ne_of_lt hS') (7 + j) (.int .i64 (f (8 + j) : Nat)))
      have HBl := hid (hb'.setCell (p := ⟨g7, 7 + j, none⟩) hSw (.int .i64 (f (8 + j) : Nat)))
      have cj := (hb'.cell (p := ⟨b, off + (8 + j), none⟩) hb).trans (HCY.out (8 + j) (by omega))
      have fj := HBL.out (8 + j)
      have ixj : (8 : Int) + (j : Int) < (xs.length : Int) := by omega
      have dj : decide ((j : Int) < 8) = true := decide_eq_true (by omega)
      have ij : (j : Int) < 8 := by omega
      clear hk hz hb'
      go_wp2_with fail
      go_roundw
      case rel => exact ⟨j + 1, by omega, by go_num, HK.out, HZ.out, HBl.out⟩
      case measure => simp [intOf]; omega
    obtain rfl : j = 8 := by omega
    rw [show ((8 : Nat) : Int) = 8 from rfl]
    have HK := hid hk; have HZ := hid hz; have HBl := hid hb'
    clear hk hz hb'
    obtain ⟨wo, hwo⟩ : ∃ x, x = wr := ⟨_, rfl⟩
    subst hwo
    go_wp2_with fail
    have HKF : Hid (Blk wo g7 25 (inoC i)) := by
      have q := HK.out
      rw [show 7 + 8 = (inoC i).length from HCL.out.symm, pfill_all] at q
      exact q
    have cellw : ∀ j, j < 64 → wo.cell? ⟨b, off + j, none⟩ = some (.int .u8 (f j : Int)) := fun j hj => (HBl.out.cell (p := ⟨b, off + j, none⟩) hb).trans (HCY.out j hj)
    clear HK
    go_loop [10] (fun i => ∃ j : Nat, 16 ≤ j ∧ j ≤ 60 ∧ i = .int .i64 j ∧ ∀ q, 16 ≤ q → q < j → f q = 0) (fun i => 60 - (intOf i).toNat)
    case atStart => exact ⟨16, by omega, by omega, rfl, fun q h1 h2 => absurd h2 (by omega)⟩
    case round =>
    obtain ⟨j, hj1, hj2, rfl, hp⟩ := hrel
    have HP := hid hp; clear hp
    by_cases hj4 : j < 60
    · have cj := cellw j (by omega)
      have ij : (j : Int) < 60 := by omega
      have ixj : (j : Int) < (xs.length : Int) := by omega
      have dj : decide ((j : Int) < 60) = true := decide_eq_true ij
      clear cellw
      by_cases hfz : f j = 0
      · have HFZ := hid hfz
        rw [hfz] at cj
        clear hfz
        go_wp2_with fail
        go_round
        case rel => exact ⟨j + 1, by omega, by omega, by go_num, fun q h1 h2 => (by rcases Nat.lt_succ_iff_lt_or_eq.1 h2 with h | rfl; exact HP.out q h1 h; exact HFZ.out)⟩
        case measure => simp [intOf]; omega
      · have hG' : G = false := by
          cases hGG : G
          · rfl
          · exact absurd ((hBn.out hGG).2.2 j hj1 hj4) hfz
        obtain ⟨e1, e2⟩ := HN.out hG'
        subst e1; subst e2
        have hz' : ((f j : Int) != 0) = true := by simp; omega
        have hz2 : ¬ ((f j : Int) = 0) := by omega
        clear hfz hG' HT HN hA hBn
        generalize f j = x at *
        go_wp2_with (((with_reducible refine wpl_storeI rfl _ _ rfl w.heap.size rfl ino0 rfl HZC.out HZ.out ?_); intro w9 k9 g9; have K9 := hid k9; have G9 := hid g9; clear k9 g9))
        refine bodyPost_ret (results_cell2 rfl rfl K9.out Try.underlying25 rfl (by rw [infoIno]; rfl)) rfl ?_
        exact ⟨rfl, below_grownS HBl.out G9.out (Nat.le_refl _) HBl.out.size⟩
    obtain rfl : j = 60 := by omega
    rw [show ((60 : Nat) : Int) = 60 from rfl]
    clear cellw
    have dj : decide ((60 : Int) < 60) = false := by decide
    have HMM := hid (show Calls Try.prog 12 #[.agg (inoC i).toArray] wo fun e w' => e = .returned (.bool M) ∧ Below wo.heap.size wo w' from HM.out wo)
    cases M
    · have hG' : G = false := by
        cases hGG : G
        · rfl
        · exact absurd (hBn.out hGG).1 (by simp)
      obtain ⟨e1, e2⟩ := HN.out hG'
      subst e1; subst e2
      clear hG' HT HN hA hBn
      go_wp2_with (first
        | (with_reducible refine wpl_loadI rfl _ rfl g7 rfl i HKF.out ?_)
        | (go_at_call 12; refine HMM.out.mono ?_; rintro e w9' ⟨rfl, b9⟩; have HK9 := hid (HKF.out.mono b9); have HZ9 := hid (HZ.out.mono b9); have HB9 := hid (kept_trans HBl.out b9); clear b9)
        | ((with_reducible refine wpl_storeI rfl _ _ rfl w.heap.size rfl ino0 rfl HZC.out HZ9.out ?_); intro w9 k9 g9; have K9 := hid k9; have G9 := hid g9; clear k9 g9))
      refine bodyPost_ret (results_cell2 rfl rfl K9.out Try.underlying25 rfl (by rw [infoIno]; rfl)) rfl ?_
      exact ⟨rfl, below_grownS HB9.out G9.out (Nat.le_refl _) HB9.out.size⟩
    by_cases hf0 : f 0 = 0
    · have hG' : G = false := by
        cases hGG : G
        · rfl
        · exact absurd (by rw [hf0]; rfl) (hBn.out hGG).2.1
      obtain ⟨e1, e2⟩ := HN.out hG'
      subst e1; subst e2
      have d0 : ((f 0 : Int) == 0) = true := by simp; omega
      have hC00 := hC0
      clear hG' HT HN hA hBn hf0
      generalize f 0 = x0 at *
      go_wp2_with (first
        | (with_reducible refine wpl_loadI rfl _ rfl g7 rfl i HKF.out ?_)
        | (go_at_call 12; refine HMM.out.mono ?_; rintro e w9' ⟨rfl, b9⟩; have HK9 := hid (HKF.out.mono b9); have HZ9 := hid (HZ.out.mono b9); have HB9 := hid (kept_trans HBl.out b9); have z0 := HK9.out.cellAt hC00.out; clear b9)
        | ((with_reducible refine wpl_storeI rfl _ _ rfl w.heap.size rfl ino0 rfl HZC.out HZ9.out ?_); intro w9 k9 g9; have K9 := hid k9; have G9 := hid g9; clear k9 g9))
      refine bodyPost_ret (results_cell2 rfl rfl K9.out Try.underlying25 rfl (by rw [infoIno]; rfl)) rfl ?_
      exact ⟨rfl, below_grownS HB9.out G9.out (Nat.le_refl _) HB9.out.size⟩
    have hG' : G = true := hA trivial rfl (by omega) HP.out
    obtain ⟨e1, e2⟩ := HT.out hG'
    subst e1; subst e2
    have d0 : ((f 0 : Int) == 0) = false := by simp; omega
    have hC00 := hC0
    have hnf : ¬ ((f 0 : Int) = 0) := by omega
    clear hG' HT HN hA hBn hf0
    generalize f 0 = x0 at *
    go_wp2_with (first
      | (with_reducible refine wpl_loadI rfl _ rfl g7 rfl i HKF.out ?_)
      | (go_at_call 12; refine HMM.out.mono ?_; rintro e w9' ⟨rfl, b9⟩; have HK9 := hid (HKF.out.mono b9); have HZ9 := hid (HZ.out.mono b9); have HB9 := hid (kept_trans HBl.out b9); have z0 := HK9.out.cellAt hC00.out; clear b9)
      | (with_reducible refine wpl_loadI rfl _ rfl g7 rfl i HK9.out ?_)
      | ((with_reducible refine wpl_storeI rfl _ _ rfl w.heap.size rfl i rfl rfl HZ9.out ?_); intro w9 k9 g9; have K9 := hid k9; have G9 := hid g9; clear k9 g9))
    refine bodyPost_ret (results_cell2 rfl rfl K9.out Try.underlying25 rfl (by rw [infoIno]; rfl)) rfl ?_
    exact ⟨rfl, below_grownS HB9.out G9.out (Nat.le_refl _) HB9.out.size⟩
  cases hGG : G
  · rw [hGG] at go hr2
    obtain ⟨e1, e2⟩ := hr2 rfl rfl
    rw [e1, e2]; exact go
  · rw [hGG] at go hr3
    obtain ⟨e1, e2⟩ := hr3 rfl rfl
    rw [e1, e2]; exact go

end Go.Proofs.Ytnmblbkbiehodaa
