import Derived.Test.YtnmblbkbiehodaaInoO
namespace Go.Proofs.Ytnmblbkbiehodaa
open Go.RowKit Go.WideShapes
set_option linter.unusedSimpArgs false
set_option linter.unusedVariables false

theorem byteV_ofN {n : Nat} (h : n ≤ 255) : byteV (UInt8.ofNat n) = .int .u8 (n : Int) := by
  unfold byteV
  rw [show (UInt8.ofNat n).toNat = n from by simp; omega]
def bs (l : List Int) : List UInt8 := l.map fun n => UInt8.ofNat n.toNat
theorem bs_snoc (l : List Int) (j : Nat) (h : j < l.length) : bs (l.take (j + 1)) = bs (l.take j) ++ [UInt8.ofNat (l.getD j 0).toNat] := by
  unfold bs
  rw [List.take_succ_eq_append_getElem h, List.map_append, List.getD_eq_getElem?_getD, List.getElem?_eq_getElem h]
  rfl
theorem mayI_low {i : InoT} (h : mayI i = true) : ∀ n ∈ i.B ++ i.O, 0 ≤ n ∧ n ≤ 255 := by
  have hu := (mayI_up h).2.2.2
  obtain ⟨hB, _, hO, _⟩ := mayI_good h
  intro n hn
  have h1 := hu n hn
  unfold goodB at hB
  unfold goodO goodO1 at hO
  simp only [InoT.B, InoT.O, List.cons_append, List.nil_append, List.mem_cons, List.not_mem_nil, or_false] at hn
  refine ⟨?_, by omega⟩
  rcases hn with e | e | e | e | e | e | e | e | e | e | e | e <;> rw [e]
  · exact hB.1.1
  · exact hB.2.1.1
  · exact hB.2.2.1.1
  · exact hB.2.2.2.1
  · exact hO.1.1
  · exact hO.2.1.1
  · exact hO.2.2.1.1
  · exact hO.2.2.2.1.1
  · exact hO.2.2.2.2.1.1
  · exact hO.2.2.2.2.2.1.1
  · exact hO.2.2.2.2.2.2.1.1
  · exact hO.2.2.2.2.2.2.2.1
theorem putL_zero {i : InoT} (h : mayI i = true) (hk : i.k = 0) : putL i = List.replicate 64 0 := by
  have := mayI_else (i := i) (by omega) (by omega)
  rw [h] at this
  unfold putL
  rw [h, if_pos rfl, if_pos (of_decide_eq_true this.symm)]
theorem putL_some {i : InoT} (h : mayI i = true) (hk : i.k ≠ 0) : putL i = putF (inoY i) (crcF (inoY i) : Nat) 4 := by
  unfold putL
  rw [h, if_pos rfl, if_neg]
  · rfl
  · intro e
    apply hk
    unfold inoL zeroL at e
    simp only [List.cons.injEq] at e
    exact e.1
theorem putE_ok {i : InoT} (h : mayI i = true) : putE i = 0 := by unfold putE; rw [h]; rfl
theorem inoX_len {i : InoT} (h : mayI i = true) : (inoX i).length = 16 := by rw [inoX_bytes h]; rfl
theorem ofNat_mod (S : Nat) : UInt8.ofNat S = UInt8.ofNat (S % 256) := by
  apply UInt8.toNat_inj.1; simp
theorem own_snoc {w : World} {B : Nat} {a : Option Addr} {c n : Nat} {T : List UInt8} {X : Nat} (hX : X ≤ 255) (hn : n = T.length) (o : Own w B 5 1 a (n + 1) c (T.map byteV ++ [.int .u8 (X : Int)])) : OwnB w B a c (T ++ [UInt8.ofNat X]) := by
  subst hn
  unfold OwnB
  rw [List.map_append, List.length_append]
  show Own w B 5 1 a (T.length + 1) c (T.map byteV ++ [byteV (UInt8.ofNat X)])
  rw [byteV_ofN hX]; exact o

set_option maxHeartbeats 4000000 in
set_option maxRecDepth 100000 in
theorem putInoRef_any (i : InoT) (w : World) : Calls Try.prog 9 #[inoV i] w (PutA w (putL i) (putE i)) := by
  have HC := fun w1 => mayInoRef_any i w1
  have HB0 : Hid (Below w.heap.size w (w.alloc (.cells (inoC i).toArray 25))) := (Below.refl w.heap.size w).alloc (Nat.le_refl _) _
  cases hm : mayI i
  · have h1 : putL i = [] := by unfold putL; rw [hm]; rfl
    have h2 : putE i = 1 := by unfold putE; rw [hm]; rfl
    rw [h1, h2]
    rw [hm] at HC
    obtain ⟨k, l, s, b0, b1, b2, b3, o0, o1, o2, o3, o4, o5, o6, o7⟩ := i
    unfold inoV inoC at *
    have HC := hid HC
    clear hm h1 h2
    go_enter Try.func9, Try.ntmps9
    go_wp2_with (go_at_call 12; refine (HC.out _).mono ?_; rintro e w4 ⟨rfl, b4⟩; have B4 := hid (kept_trans HB0.out b4); clear b4)
    refine bodyPost_ret (results_tmp2 rfl _ _ _) rfl ?_
    exact ⟨none, 0, rfl, Own.nil _ _ _ _, B4.out⟩
  · rw [putE_ok hm]
    rw [hm] at HC
    have hxb := inoX_bytes hm
    have hxl := inoX_len hm
    have hyl := inoY_len i
    have hyX : inoY i = inoX i ++ List.replicate (60 - (inoX i).length) 0 := rfl
    rw [hxl] at hyX
    have hkd := mayI_kind hm
    have hlow := mayI_low hm
    have hP0 := fun h => putL_zero (i := i) hm h
    have hP1 := fun h => putL_some (i := i) hm h
    have hcl := crcF_lt (inoY i)
    obtain ⟨P, hP⟩ : ∃ P, P = putL i := ⟨_, rfl⟩
    rw [← hP] at hP0 hP1 ⊢
    clear hP
    have HSum := fun a c w1 r => sumRef_any a c (inoY i) w1 r
    rw [hyl] at HSum
    have HPut := fun (h : i.k ≠ 0) a c w1 r => putRef_any a c (inoY i) (crcF (inoY i) : Nat) 4 w1 r (by omega) (by omega)
    generalize inoY i = Y at *
    generalize inoX i = X at *
    obtain ⟨k, l, s, b0, b1, b2, b3, o0, o1, o2, o3, o4, o5, o6, o7⟩ := i
    unfold inoV inoC at *
    simp only [InoT.B, InoT.O] at *
    obtain ⟨hk0, hk2, hl0, hl2, hs0, hs2⟩ := hkd
    obtain ⟨KK, rfl⟩ := Int.eq_ofNat_of_zero_le hk0
    obtain ⟨LL, rfl⟩ := Int.eq_ofNat_of_zero_le hl0
    obtain ⟨SS, rfl⟩ := Int.eq_ofNat_of_zero_le hs0
    have eA : (SS : Int) % 256 = ((SS % 256 : Nat) : Int) := by omega
    have eC : (SS : Int) / 256 = ((SS / 256 : Nat) : Int) := by omega
    have bA : SS % 256 ≤ 255 := by omega
    have bC : SS / 256 ≤ 255 := by omega
    have hX4 : X = [UInt8.ofNat KK, UInt8.ofNat LL, UInt8.ofNat (SS % 256), UInt8.ofNat (SS / 256)] ++ bs [b0, b1, b2, b3] ++ bs [o0, o1, o2, o3, o4, o5, o6, o7] := by
      rw [hxb, ← ofNat_mod]; unfold bs; rw [List.append_assoc, ← List.map_append]; rfl
    have hcells : ([byteV (UInt8.ofNat KK), byteV (UInt8.ofNat LL), byteV (UInt8.ofNat (SS % 256)), byteV (UInt8.ofNat (SS / 256))] : List Value) = [.int .u8 (KK : Int), .int .u8 (LL : Int), .int .u8 ((SS % 256 : Nat) : Int), .int .u8 ((SS / 256 : Nat) : Int)] := by
      rw [byteV_ofN (by omega), byteV_ofN (by omega), byteV_ofN bA, byteV_ofN bC]
    have HLB : Hid (∀ j, j < 4 → 0 ≤ [b0, b1, b2, b3].getD j 0 ∧ [b0, b1, b2, b3].getD j 0 ≤ 255) := fun j hj => hlow _ (by
      rcases (by omega : j = 0 ∨ j = 1 ∨ j = 2 ∨ j = 3) with rfl | rfl | rfl | rfl <;> simp)
    have HLO : Hid (∀ j, j < 8 → 0 ≤ [o0, o1, o2, o3, o4, o5, o6, o7].getD j 0 ∧ [o0, o1, o2, o3, o4, o5, o6, o7].getD j 0 ≤ 255) := fun j hj => hlow _ (by
      rcases (by omega : j = 0 ∨ j = 1 ∨ j = 2 ∨ j = 3 ∨ j = 4 ∨ j = 5 ∨ j = 6 ∨ j = 7) with rfl | rfl | rfl | rfl | rfl | rfl | rfl | rfl <;> simp)
    generalize SS % 256 = A at *
    generalize SS / 256 = D at *
    obtain ⟨T4, hT4⟩ : ∃ T4, T4 = [UInt8.ofNat KK, UInt8.ofNat LL, UInt8.ofNat A, UInt8.ofNat D] := ⟨_, rfl⟩
    rw [← hT4] at hX4
    have hT4c : T4.map byteV = [.int .u8 (KK : Int), .int .u8 (LL : Int), .int .u8 (A : Int), .int .u8 (D : Int)] := by rw [hT4]; exact hcells
    have hT4l : T4.length = 4 := by rw [hT4]; rfl
    clear hlow hxb hcells hT4 hl0 hs0 hk0
    have HX4 := hid hX4; have HYX := hid hyX; have HT4c := hid hT4c; have HT4l := hid hT4l
    have HXL := hid hxl; have HYL := hid hyl; have HP0 := hid hP0; have HP1 := hid hP1
    have HSum := hid HSum; have HPut := hid HPut; have HC := hid HC; have EA := hid eA; have EC := hid eC
    have K0 : Hid (Blk (w.alloc (.cells #[.int .i64 (KK : Int), .int .i64 (LL : Int), .int .i64 (SS : Int), .int .i64 b0, .int .i64 b1, .int .i64 b2, .int .i64 b3, .int .i64 o0, .int .i64 o1, .int .i64 o2, .int .i64 o3, .int .i64 o4, .int .i64 o5, .int .i64 o6, .int .i64 o7] 25)) w.heap.size 25 [.int .i64 (KK : Int), .int .i64 (LL : Int), .int .i64 (SS : Int), .int .i64 b0, .int .i64 b1, .int .i64 b2, .int .i64 b3, .int .i64 o0, .int .i64 o1, .int .i64 o2, .int .i64 o3, .int .i64 o4, .int .i64 o5, .int .i64 o6, .int .i64 o7]) := heap_alloc_new w _
    clear hm hX4 hyX hT4c hT4l hxl hyl hP0 hP1 hcl
    go_enter Try.func9, Try.ntmps9
    go_wp2_with (go_at_call 12; refine (HC.out _).mono ?_; rintro e w4 ⟨rfl, b4⟩; have B4 := hid (kept_trans HB0.out b4); have K4 := hid (K0.out.mono b4); have k4 := K4.out; have z0 : w4.cell? ⟨w.heap.size, 0, none⟩ = some (.int .i64 (KK : Int)) := Blk.cell k4 (i := 0) (by simp); have z1 : w4.cell? ⟨w.heap.size, 1, none⟩ = some (.int .i64 (LL : Int)) := Blk.cell k4 (i := 1) (by simp); have z2 : w4.cell? ⟨w.heap.size, 2, none⟩ = some (.int .i64 (SS : Int)) := Blk.cell k4 (i := 2) (by simp); clear k4 b4)
    clear eA eC
    have O5b : Hid (OwnB (w4.alloc (.cells #[.int .u8 (KK : Int), .int .u8 (LL : Int), .int .u8 (A : Int), .int .u8 (D : Int)] 5)) (w.heap.size + 1) (some ⟨w4.heap.size, 0, none⟩) 4 T4) := by
      unfold OwnB
      rw [HT4c.out, HT4l.out]
      exact blk_own1 (heap_alloc_new w4 _) K4.out.lt (by unfold maxLen; simp)
    have B5 := hid (kept_trans B4.out ((Below.refl w4.heap.size w4).alloc (Nat.le_refl _) (.cells #[.int .u8 (KK : Int), .int .u8 (LL : Int), .int .u8 (A : Int), .int .u8 (D : Int)] 5)))
    have K5 := hid (K4.out.mono ((Below.refl w4.heap.size w4).alloc (Nat.le_refl _) (.cells #[.int .u8 (KK : Int), .int .u8 (LL : Int), .int .u8 (A : Int), .int .u8 (D : Int)] 5)))
    clear z0 z1 z2
    generalize w4.alloc _ = w5 at *
    generalize w4.heap.size = g4 at *
    clear K4 B4
    have hw5 : w.heap.size + 1 ≤ w5.heap.size := K5.out.lt
    have B0 : Hid (Below (w.heap.size + 1) w5 w5) := Below.refl _ _
    have O5 : Hid (OwnB w5 (w.heap.size + 1) (some ⟨g4, 0, none⟩) 4 T4) := O5b
    go_loopw [5, 6] (fun b i wr => ∃ (j c m : Nat) (a : Option Addr) (T : List UInt8), j ≤ 4 ∧ i = .int .i64 j ∧ m = 4 + j ∧ b = .slice a m c ∧ T.length = m ∧ T = T4 ++ bs ([b0, b1, b2, b3].take j) ∧ OwnB wr (w.heap.size + 1) a c T ∧ Below (w.heap.size + 1) w5 wr) (fun _ i _ => 4 - (intOf i).toNat)
    case atStart => exact ⟨0, 4, 4, some ⟨g4, 0, none⟩, T4, by omega, rfl, rfl, rfl, HT4l.out, by simp [bs], O5.out, B0.out⟩
    case round =>
    obtain ⟨j, c, m, a, T, hj, rfl, rfl, rfl, hTm, hT, oT, bT⟩ := hrel
    have hsz := Nat.le_trans hw5 bT.size
    have KT := hid (K5.out.below bT (Nat.lt_succ_self _))
    have kT := KT.out
    by_cases hj4 : j < 4
    · have hx := HLB.out j hj4
      have cj : wr.cell? ⟨w.heap.size, 3 + j, none⟩ = some (.int .i64 ([b0, b1, b2, b3].getD j 0)) := by
        have q := kT.cell (i := 3 + j) (by simp; omega)
        rw [q]; rcases (by omega : j = 0 ∨ j = 1 ∨ j = 2 ∨ j = 3) with rfl | rfl | rfl | rfl <;> rfl
      have hsn := bs_snoc [b0, b1, b2, b3] j hj4
      generalize [b0, b1, b2, b3].getD j 0 = x at *
      obtain ⟨V, rfl⟩ := Int.eq_ofNat_of_zero_le hx.1
      have hV : V ≤ 255 := by omega
      rw [show ((V : Int)).toNat = V from rfl] at hsn
      have HSN := hid hsn; have HT := hid hT; have HTM := hid hTm; have BT := hid bT
      have OT : Hid (Own wr (w.heap.size + 1) 5 1 a (4 + j) c (T.map byteV)) := by have q := oT; unfold OwnB at q; rw [hTm] at q; exact q
      have dj : decide ((j : Int) < 4) = true := decide_eq_true (by omega)
      have ij : (j : Int) < 4 := by omega
      clear hsn hT hTm bT oT hx kT hj4
      go_wp2_with (at_builtin; refine wpl_append rfl (.tmp 31) (.tmp 37) rfl E8 (w.heap.size + 1) rfl rfl (OT.out.alloc _) (row_new1 _ _ _) (by simp [Value.oneCell']) (by omega) (by omega) (by simp; omega) ?_; intro a3 c3 w3 o3 g3 b3; have O3 := hid (own_snoc hV HTM.out.symm o3); have B3 := hid (below_trans (BT.out.alloc hsz (.cells #[.int .u8 (V : Int)] 5)) b3 (Nat.le_refl _)); clear o3 g3 b3)
      go_roundw
      case rel => exact ⟨j + 1, c3, 4 + (j + 1), a3, T ++ [UInt8.ofNat V], by omega, by go_num, rfl, rfl, by rw [List.length_append, HTM.out]; rfl, by rw [HT.out, List.append_assoc, ← HSN.out], O3.out, B3.out⟩
      case measure => simp [intOf]; omega
    · obtain rfl : j = 4 := by omega
      have HT : Hid (T = T4 ++ bs [b0, b1, b2, b3]) := hT
      have HTM := hid hTm; have OT := hid oT; have BT := hid bT
      have dj : decide ((4 : Int) < 4) = false := by decide
      obtain ⟨wo, hwo⟩ : ∃ x, x = wr := ⟨_, rfl⟩
      subst hwo
      clear hT hTm oT bT kT
      rw [show ((4 : Nat) : Int) = 4 from rfl]
      go_wp2_with fail
      go_loopw [5, 7] (fun b i wr => ∃ (j c m : Nat) (a : Option Addr) (T : List UInt8), j ≤ 8 ∧ i = .int .i64 j ∧ m = 8 + j ∧ b = .slice a m c ∧ T.length = m ∧ T = T4 ++ bs [b0, b1, b2, b3] ++ bs ([o0, o1, o2, o3, o4, o5, o6, o7].take j) ∧ OwnB wr (w.heap.size + 1) a c T ∧ Below (w.heap.size + 1) w5 wr) (fun _ i _ => 8 - (intOf i).toNat)
      case atStart => exact ⟨0, c, 8, a, T, by omega, rfl, rfl, rfl, HTM.out, by rw [HT.out]; simp [bs], OT.out, BT.out⟩
      case round =>
      clear OT BT HTM HT KT
      obtain ⟨j, c, m, a, T, hj, rfl, rfl, rfl, hTm, hT, oT, bT⟩ := hrel
      have hsz := Nat.le_trans hw5 bT.size
      have KT := hid (K5.out.below bT (Nat.lt_succ_self _))
      have kT := KT.out
      by_cases hj4 : j < 8
      · have hx := HLO.out j hj4
        have cj : wr.cell? ⟨w.heap.size, 7 + j, none⟩ = some (.int .i64 ([o0, o1, o2, o3, o4, o5, o6, o7].getD j 0)) := by
          have q := kT.cell (i := 7 + j) (by simp; omega)
          rw [q]; rcases (by omega : j = 0 ∨ j = 1 ∨ j = 2 ∨ j = 3 ∨ j = 4 ∨ j = 5 ∨ j = 6 ∨ j = 7) with rfl | rfl | rfl | rfl | rfl | rfl | rfl | rfl <;> rfl
        have hsn := bs_snoc [o0, o1, o2, o3, o4, o5, o6, o7] j hj4
        generalize [o0, o1, o2, o3, o4, o5, o6, o7].getD j 0 = x at *
        obtain ⟨V, rfl⟩ := Int.eq_ofNat_of_zero_le hx.1
        have hV : V ≤ 255 := by omega
        rw [show ((V : Int)).toNat = V from rfl] at hsn
        have HSN := hid hsn; have HT := hid hT; have HTM := hid hTm; have BT := hid bT
        have OT : Hid (Own wr (w.heap.size + 1) 5 1 a (8 + j) c (T.map byteV)) := by have q := oT; unfold OwnB at q; rw [hTm] at q; exact q
        have dj : decide ((j : Int) < 8) = true := decide_eq_true (by omega)
        have ij : (j : Int) < 8 := by omega
        clear hsn hT hTm bT oT hx kT hj4
        go_wp2_with (at_builtin; refine wpl_append rfl (.tmp 43) (.tmp 49) rfl E8 (w.heap.size + 1) rfl rfl (OT.out.alloc _) (row_new1 _ _ _) (by simp [Value.oneCell']) (by omega) (by omega) (by simp; omega) ?_; intro a3 c3 w3 o3 g3 b3; have O3 := hid (own_snoc hV HTM.out.symm o3); have B3 := hid (below_trans (BT.out.alloc hsz (.cells #[.int .u8 (V : Int)] 5)) b3 (Nat.le_refl _)); clear o3 g3 b3)
        go_roundw
        case rel => exact ⟨j + 1, c3, 8 + (j + 1), a3, T ++ [UInt8.ofNat V], by omega, by go_num, rfl, rfl, by rw [List.length_append, HTM.out]; rfl, by rw [HT.out, List.append_assoc, ← HSN.out], O3.out, B3.out⟩
        case measure => simp [intOf]; omega
      · obtain rfl : j = 8 := by omega
        have HT : Hid (T = X) := by rw [HX4.out, hT]; rfl
        have HTM := hid hTm; have OT := hid oT; have BT := hid bT
        have dj : decide ((8 : Int) < 8) = false := by decide
        obtain ⟨wo2, hwo⟩ : ∃ x, x = wr := ⟨_, rfl⟩
        subst hwo
        clear hT hTm oT bT kT
        rw [show ((8 : Nat) : Int) = 8 from rfl]
        go_wp2_with fail
        go_loopw [5] (fun b wr => ∃ (j c m : Nat) (a : Option Addr) (T : List UInt8), j ≤ 44 ∧ m = 16 + j ∧ b = .slice a m c ∧ T.length = m ∧ T = X ++ List.replicate j 0 ∧ OwnB wr (w.heap.size + 1) a c T ∧ Below (w.heap.size + 1) w5 wr) (fun b _ => match b with | .slice _ n _ => 60 - n | _ => 0)
        case atStart => exact ⟨0, c, 16, a, T, by omega, rfl, rfl, HTM.out, by rw [HT.out]; simp, OT.out, BT.out⟩
        case round =>
        clear OT BT HTM HT KT
        obtain ⟨j, c, m, a, T, hj, rfl, rfl, hTm, hT, oT, bT⟩ := hrel
        have hsz := Nat.le_trans hw5 bT.size
        by_cases hj4 : j < 44
        · have HT := hid hT; have HTM := hid hTm; have BT := hid bT
          have OT : Hid (Own wr (w.heap.size + 1) 5 1 a (16 + j) c (T.map byteV)) := by have q := oT; unfold OwnB at q; rw [hTm] at q; exact q
          have dj : decide (((16 : Int) + (j : Int)) < 60) = true := decide_eq_true (by omega)
          have ij : (16 : Int) + (j : Int) < 60 := by omega
          clear hT hTm bT oT
          go_wp2_with (at_builtin; refine wpl_append rfl (.tmp 54) (.tmp 55) rfl E8 (w.heap.size + 1) rfl rfl (OT.out.alloc _) (row_new1 _ _ _) (by simp [Value.oneCell']) (by omega) (by omega) (by simp; omega) ?_; intro a3 c3 w3 o3 g3 b3; have O3 := hid (own_snoc (X := 0) (by omega) HTM.out.symm o3); have B3 := hid (below_trans (BT.out.alloc hsz (.cells #[.int .u8 0] 5)) b3 (Nat.le_refl _)); clear o3 g3 b3)
          go_roundw
          case rel => exact ⟨j + 1, c3, 16 + (j + 1), a3, T ++ [UInt8.ofNat 0], by omega, rfl, rfl, by rw [List.length_append, HTM.out]; rfl, by rw [HT.out, List.append_assoc, List.replicate_succ']; rfl, O3.out, B3.out⟩
          case measure => show 60 - (16 + (j + 1)) < 60 - (16 + j); omega
        · obtain rfl : j = 44 := by omega
          have HT := hid (show T = Y by rw [HYX.out, hT])
          rw [HT.out] at oT hTm
          have RY := hid (show RowB wr a c Y from oT.row)
          have BT := hid bT
          have KT := hid (K5.out.below bT (Nat.lt_succ_self _))
          have z0 : wr.cell? ⟨w.heap.size, 0, none⟩ = some (.int .i64 (KK : Int)) := Blk.cell KT.out (i := 0) (by simp)
          have BW := hid (kept_trans B5.out (show Below w5.heap.size w5 w5 from Below.refl _ _))
          have BF := hid (below_trans B5.out bT (Nat.le_succ _))
          have hszw : w.heap.size ≤ wr.heap.size := Nat.le_trans (Nat.le_succ _) hsz
          clear hT hTm oT bT
          rw [show 16 + 44 = 60 from rfl]
          by_cases hk : KK = 0
          · subst hk
            have HP := hid (HP0.out rfl)
            have t2 : True := trivial
            go_wp2_with (at_make; have _t := t2; refine wpl_make rfl (.const (.int .i64 64)) (.const (.int .i64 64)) rfl Try.underlying26 info8 rfl (n := 64) rfl rfl rfl rfl (by omega) (by omega) ?_; clear t2; intro w9 k9 b9; have O9 := hid (blk_own1 (B := w.heap.size) k9 hszw (by rw [List.length_replicate]; unfold maxLen; omega)); have B9 := hid (below_trans BF.out b9 hszw); clear k9 b9)
            refine bodyPost_ret (results_tmp2 rfl _ _ _) rfl ?_
            rw [HP.out]
            refine ⟨_, _, rfl, ?_, B9.out⟩
            unfold OwnB
            rw [List.map_replicate, List.length_replicate]
            have q := O9.out
            rw [List.length_replicate] at q
            exact q
          · have hk' : (KK : Int) ≠ 0 := by omega
            have hP := HP1.out hk'
            have HPT := hid (HPut.out hk' a c)
            rw [← hP] at HPT
            have HPE := hid hP
            have d0 : ((KK : Int) == 0) = false := by simpa using hk
            have HYLL := HYL.out
            rw [HYLL] at HPT
            have HCR := hid (crcF_lt Y)
            generalize crcF Y = z at *
            have hzb := HCR.out
            clear hP hk HYLL
            go_wp2_with fail
            refine (HSum.out a c wr RY.out).mono ?_
            rintro e w9 ⟨rfl, rfl⟩
            go_wp2_with fail
            refine (HPT.out wr RY.out).mono ?_
            rintro e w10 ⟨a10, c10, rfl, o10, b10⟩
            go_wp2_with fail
            refine bodyPost_ret (results_tmp2 rfl _ _ _) rfl ?_
            exact ⟨a10, c10, rfl, Own.low o10 hszw, below_trans BF.out b10 hszw⟩

end Go.Proofs.Ytnmblbkbiehodaa
