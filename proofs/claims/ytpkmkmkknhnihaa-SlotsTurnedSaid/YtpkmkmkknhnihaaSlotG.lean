import Derived.Test.YtpkmkmkknhnihaaSlotF
import Derived.Test.YtpkmkmkknhnihaaSlotArg
namespace Go.Proofs.Ytpkmkmkknhnihaa
open Go.RowKit
set_option linter.unusedSimpArgs false
set_option linter.unusedVariables false

theorem byteV_ofNat {n : Nat} (h : n ≤ 255) : byteV (UInt8.ofNat n) = .int .u8 (n : Int) := by
  unfold byteV
  rw [show (UInt8.ofNat n).toNat = n from by simp; omega]

theorem slotBody {e h r wr : Int} {E I : Nat} (hE : E ≤ 255) (hI : I ≤ 255) :
    foldF [] (slotF e h r E I wr) = putF (putF (putF (putF [] e 4) h 4) r 8 ++ [UInt8.ofNat E, UInt8.ofNat I]) wr 8 := by
  have f1 : ∀ (l : List UInt8) (n : Nat), n ≤ 255 → putF l (n : Int) 1 = l ++ [UInt8.ofNat n] := fun l n hn => by
    have : fitsB (n : Int) 1 = true := by unfold fitsB; simp; omega
    unfold putF; rw [if_pos this]
    simp [le]
  simp only [foldF, slotF, List.foldl_cons, List.foldl_nil]
  rw [f1 _ _ hE, f1 _ _ hI]
  simp

theorem pair_eq (l : List UInt8) (E I : Nat) : l.length + 2 = (l ++ [UInt8.ofNat E, UInt8.ofNat I]).length := by simp
theorem pair_len (l : List UInt8) (E I : Nat) : (l ++ [UInt8.ofNat E, UInt8.ofNat I]).length ≤ l.length + 2 := by simp
theorem pair_row {w : World} {g : Nat} {a : Option Addr} {c E I : Nat} {l : List UInt8} (hE : E ≤ 255) (hI : I ≤ 255) (o : Own w g 5 1 a (l.length + 2) c (l.map byteV ++ [.int .u8 (E : Int), .int .u8 (I : Int)])) :
    RowB w a c (l ++ [UInt8.ofNat E, UInt8.ofNat I]) := by
  have := o.row
  rw [← byteV_ofNat hE, ← byteV_ofNat hI] at this
  unfold RowB
  simpa using this

set_option maxHeartbeats 2000000 in
theorem putSRef_any (e h r er i wr : Int) (w : World) :
    Calls Try.prog 9 #[slotV e h r er i wr] w fun en w' => ∃ a c, en = .returned (.tuple #[.slice a (slotL e h r er i wr).length c, .int .i64 (if mayS e h r er i wr then 0 else 1)]) ∧ OwnB w' w.heap.size a c (slotL e h r er i wr) ∧ Below w.heap.size w w' := by
  have hmay := fun w1 => mayRef_any e h r er i wr w1
  unfold slotV at *
  by_cases hb : mayS e h r er i wr = true
  · have hL : slotL e h r er i wr = sealF (foldF [] (slotF e h r er i wr)) := by unfold slotL; rw [if_pos hb]
    have hE : (if mayS e h r er i wr then (0 : Int) else 1) = 0 := if_pos hb
    have hl60 : (foldF [] (slotF e h r er i wr)).length ≤ 60 := by
      have := foldF_length_le [] (slotF e h r er i wr)
      simp [slotF] at this ⊢; omega
    obtain ⟨a1, a2, a3, a4, a5, a6, a7, a8, a9, a10, a11, a12⟩ := mayS_iff hb
    obtain ⟨E, rfl⟩ := Int.eq_ofNat_of_zero_le a9
    obtain ⟨I, rfl⟩ := Int.eq_ofNat_of_zero_le a11
    have hE9 : E ≤ 255 := by omega
    have hI9 : I ≤ 255 := by omega
    have hsb := slotBody (e := e) (h := h) (r := r) (wr := wr) hE9 hI9
    rw [hL, hE]
    have l1 : (putF [] e 4).length ≤ 8 := by have := putF_length_le [] e 4; simpa using this
    have l2 : (putF (putF [] e 4) h 4).length ≤ 16 := by have := putF_length_le (putF [] e 4) h 4; omega
    have l3 : (putF (putF (putF [] e 4) h 4) r 8).length ≤ 24 := by have := putF_length_le (putF (putF [] e 4) h 4) r 8; omega
    have HB := hid hb; have HL := hid hl60; have HM := hid hmay; have HSB := hid hsb
    have t1 : True := trivial
    clear hb hL hE hl60 hmay hsb
    go_enter Try.func9, Try.ntmps9
    go_wp2_with fail
    refine (HM.out _).mono ?_
    rintro en w1 ⟨rfl, b1⟩
    rw [HB.out]
    have H0 : Blk (w.alloc (.cells #[.int .i64 e, .int .i64 h, .int .i64 r, .int .i64 (E : Int), .int .i64 (I : Int), .int .i64 wr] 26)) w.heap.size 26 [.int .i64 e, .int .i64 h, .int .i64 r, .int .i64 (E : Int), .int .i64 (I : Int), .int .i64 wr] := heap_alloc_new w _
    have H1 := Blk.mono H0 b1
    have hB1 : w.heap.size < w1.heap.size := Nat.lt_of_lt_of_le (by simp) b1.size
    have B1 := hid (below_trans ((Below.refl _ w).alloc (Nat.le_refl _) _) b1 (by simp))
    have k0 := Blk.cell H1 (i := 0) (by simp)
    simp only [List.getElem_cons_zero, List.getElem_cons_succ] at k0
    clear H0 b1 HM
    go_wp2_with fail
    refine (putRef_any none 0 [] e 4 w1 (Row.nil _ _) (by simp) (by omega)).mono ?_
    rintro en w2 ⟨p2, c2, rfl, o2, b2⟩
    have H2 := Blk.mono H1 b2
    have B2 := hid (below_trans B1.out b2 B1.out.size)
    have k1 := Blk.cell H2 (i := 1) (by simp)
    simp only [List.getElem_cons_zero, List.getElem_cons_succ] at k1
    have s2 : w1.heap.size ≤ w2.heap.size := b2.size
    clear H1 k0 b2 B1
    have r2 := o2.row
    clear o2
    generalize putF [] e 4 = x1 at *
    go_wp2_with fail
    refine (putRef_any p2 c2 x1 h 4 w2 r2 (by omega) (by omega)).mono ?_
    rintro en w3 ⟨p3, c3, rfl, o3, b3⟩
    have H3 := Blk.mono H2 b3
    have B3 := hid (below_trans B2.out b3 B2.out.size)
    have k2 := Blk.cell H3 (i := 2) (by simp)
    simp only [List.getElem_cons_zero, List.getElem_cons_succ] at k2
    have r3 := o3.row
    have s3 : w1.heap.size ≤ w3.heap.size := Nat.le_trans s2 b3.size
    clear H2 k1 b3 B2 o3 r2
    generalize putF x1 h 4 = x2 at *
    go_wp2_with fail
    refine (putRef_any p3 c3 x2 r 8 w3 r3 (by omega) (by omega)).mono ?_
    rintro en w4 ⟨p4, c4, rfl, o4, b4⟩
    have H4 := Blk.mono H3 b4
    have B4 := hid (below_trans B3.out b4 B3.out.size)
    have k3 := Blk.cell H4 (i := 3) (by simp)
    have k4 := Blk.cell H4 (i := 4) (by simp)
    simp only [List.getElem_cons_zero, List.getElem_cons_succ] at k3 k4
    have s4 : w1.heap.size ≤ w4.heap.size := Nat.le_trans s3 b4.size
    have o4' := Own.low o4 s3
    clear H3 k2 b4 o4 r3 B3
    generalize putF x2 r 8 = x3 at *
    have rb := row_newf' w4 [byteV (UInt8.ofNat E), byteV (UInt8.ofNat I)] 5 (0, 0) (by simp)
    rw [byteV_ofNat hE9, byteV_ofNat hI9] at rb
    change Row _ 1 _ 2 2 _ at rb
    have oB := Own.alloc o4' (.cells #[.int .u8 (E : Int), .int .u8 (I : Int)] 5)
    have H5 := Blk.mono H4 ((Below.refl w4.heap.size w4).alloc (Nat.le_refl _) (.cells #[.int .u8 (E : Int), .int .u8 (I : Int)] 5))
    have B5 := hid (B4.out.alloc B4.out.size (.cells #[.int .u8 (E : Int), .int .u8 (I : Int)] 5))
    have sB := Nat.le_trans s4 (show w4.heap.size ≤ (w4.alloc (.cells #[.int .u8 (E : Int), .int .u8 (I : Int)] 5)).heap.size from by simp)
    have RB := hid rb; have OB := hid oB; have SB := hid sB
    clear rb oB o4' sB H4 B4
    go_wp2_with (first
      | (at_builtin; have _t := t1; refine wpl_append rfl (.tmp 21) (.tmp 30) rfl E8 w1.heap.size rfl rfl OB.out RB.out (by simp [Value.oneCell']) (by omega) (by omega) SB.out ?_; clear t1; intro p5 c5 w5 o5 g5 b5; have _H6 := Blk.below H5 b5 hB1; have _B6 := hid (below_trans B5.out b5 (Nat.le_of_lt hB1)); have _k5 := Blk.cell _H6 (i := 5) (by simp); simp only [List.getElem_cons_zero, List.getElem_cons_succ] at _k5; have _r5 := pair_row hE9 hI9 o5; have _l5 := hid (pair_eq x3 E I); clear o5 g5 b5 H5 B5 k3 k4 OB RB SB))
    generalize x3 ++ [UInt8.ofNat E, UInt8.ofNat I] = x4 at *
    have hc5 := putRef_any p5 c5 x4 wr 8 w5 _r5 (by have := _l5.out; omega) (by omega)
    rw [← _l5.out] at hc5
    refine hc5.mono ?_
    clear hc5
    rintro en w6 ⟨p6, c6, rfl, o6, b6⟩
    have B6 := hid (below_trans _B6.out b6 _B6.out.size)
    have r6 := o6.row
    rw [← HSB.out] at r6 ⊢
    clear o6 b6 _B6 _k5 _H6 _r5
    go_wp2_with fail
    refine (sealRef_any p6 c6 _ w6 r6 HL.out).mono ?_
    rintro en w7 ⟨p7, c7, rfl, o7, b7⟩
    go_wp2_with fail
    go_ret2
    exact ⟨p7, c7, rfl, o7.low B6.out.size, below_trans B6.out b7 B6.out.size⟩
  · have hb' : mayS e h r er i wr = false := by simpa using hb
    have hL : slotL e h r er i wr = [] := by unfold slotL; rw [if_neg hb]
    have hE : (if mayS e h r er i wr then (0 : Int) else 1) = 1 := if_neg hb
    rw [hL, hE]
    have HB := hid hb'; have HM := hid hmay
    clear hb hL hE hb' hmay
    go_enter Try.func9, Try.ntmps9
    go_wp2_with fail
    refine (HM.out _).mono ?_
    rintro en w1 ⟨rfl, b1⟩
    rw [HB.out]
    go_wp2_with fail
    go_ret2
    exact ⟨none, 0, rfl, Own.nil _ _ _ _, below_trans ((Below.refl _ w).alloc (Nat.le_refl _) _) b1 (by simp)⟩

end Go.Proofs.Ytpkmkmkknhnihaa
