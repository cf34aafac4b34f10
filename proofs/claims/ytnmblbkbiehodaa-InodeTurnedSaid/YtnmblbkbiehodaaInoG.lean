import Derived.Test.YtnmblbkbiehodaaInoF
import Derived.Test.YtnmblbkbiehodaaSlotB
namespace Go.Proofs.Ytnmblbkbiehodaa
open Go.RowKit Go.WideShapes
set_option linter.unusedSimpArgs false
set_option linter.unusedVariables false

theorem putF_le (xs : List UInt8) (n : Int) (k : Nat) : (putF xs n k).length ≤ xs.length + k := by
  unfold putF
  split
  · rw [List.length_append, le_length]; omega
  · omega
theorem putF_le1 (xs : List UInt8) (n : Int) : (putF xs n 1).length ≤ xs.length + 1 := putF_le xs n 1
theorem putF_le2 (xs : List UInt8) (n : Int) : (putF xs n 2).length ≤ xs.length + 2 := putF_le xs n 2
def zeroL : List Int := [0, 0, 0, 0, 0, 0, 0, 0, 0, 0, 0, 0, 0, 0, 0]
def inoH (i : InoT) : List UInt8 := putF (putF (putF [] i.k 1) i.l 1) i.s 2
def ones (l : List Int) : List (Int × Int) := l.map fun n => (n, 1)
def inoX (i : InoT) : List UInt8 := foldF (inoH i) (ones (i.B ++ i.O))
def inoY (i : InoT) : List UInt8 := inoX i ++ List.replicate (60 - (inoX i).length) 0
def putI (i : InoT) : List UInt8 := putF (inoY i) (crcF (inoY i) : Nat) 4
def putL (i : InoT) : List UInt8 := if mayI i then (if inoL i = zeroL then List.replicate 64 0 else putI i) else []
def putE (i : InoT) : Int := if mayI i then 0 else 1
theorem ones_le (l : List Int) (xs : List UInt8) : (foldF xs (ones l)).length ≤ xs.length + l.length := by
  induction l generalizing xs with
  | nil => simp [ones, foldF]
  | cons n l ih =>
    have h1 := ih (putF xs n 1)
    have h2 := putF_le1 xs n
    simp only [ones, foldF, List.map_cons, List.foldl_cons, List.length_cons] at h1 h2 ⊢
    simp only [ones, foldF] at ih
    omega
theorem inoX_le (i : InoT) : (inoX i).length ≤ 16 := by
  have h := ones_le (i.B ++ i.O) (inoH i)
  have h1 := putF_le2 (putF (putF [] i.k 1) i.l 1) i.s
  have h2 := putF_le1 (putF [] i.k 1) i.l
  have h3 := putF_le1 [] i.k
  have hl : (i.B ++ i.O).length = 12 := rfl
  have h0 : ([] : List UInt8).length = 0 := rfl
  unfold inoX
  unfold inoH at *
  rw [hl] at h
  omega
theorem inoY_len (i : InoT) : (inoY i).length = 60 := by
  have := inoX_le i
  unfold inoY; rw [List.length_append, List.length_replicate]; omega
theorem putI_eq (i : InoT) : putI i = inoY i ++ le 4 (crcF (inoY i)) := put_sum _
theorem putI_len (i : InoT) : (putI i).length = 64 := by rw [putI_eq, List.length_append, inoY_len, le_length]
def PutA (w : World) (xs : List UInt8) (er : Int) (e : Ending) (w' : World) : Prop :=
  ∃ a c, e = .returned (.tuple #[.slice a xs.length c, .int .i64 er]) ∧ OwnB w' w.heap.size a c xs ∧ Below w.heap.size w w'
theorem blk_own1 {w : World} {B g : Nat} {e : TypeId} {L : List Value} (h : Blk w g e L) (hB : B ≤ g) (hl : L.length ≤ maxLen) : Own w B e 1 (some ⟨g, 0, none⟩) L.length L.length L :=
  ⟨by simp, .inr ⟨g, L.length, L.toArray, rfl, hB, h, Nat.le_refl _, hl, by simp, by simp⟩⟩

theorem mayI_up {i : InoT} (h : mayI i = true) : i.k ≤ 2 ∧ i.l ≤ 20 ∧ i.s ≤ 256 ∧ ∀ n ∈ i.B ++ i.O, n ≤ 128 := by
  unfold mayI at h
  split at h
  · have h := of_decide_eq_true h
    simp only [inoL, List.cons.injEq, and_true] at h
    obtain ⟨h0, h1, h2, h3, h4, h5, h6, h7, h8, h9, h10, h11, h12, h13, h14⟩ := h
    refine ⟨by omega, by omega, by omega, fun n hn => ?_⟩
    simp only [InoT.B, InoT.O, List.cons_append, List.nil_append, List.mem_cons, List.not_mem_nil, or_false] at hn
    omega
  · split at h
    · rw [Bool.and_eq_true] at h
      have hb := mFile_blocks h.1
      have hF := h.1
      unfold mFile fileHead fileO okO at hF
      simp only [Bool.and_eq_true, decide_eq_true_eq] at hF
      refine ⟨by omega, by omega, by omega, fun n hn => ?_⟩
      simp only [InoT.B, InoT.O, List.cons_append, List.nil_append, List.mem_cons, List.not_mem_nil, or_false] at hn
      omega
    · split at h
      · rw [Bool.and_eq_true] at h
        have hb := mDir_blocks h.1
        have hF := h.1
        unfold mDir dirHead noO at hF
        simp only [Bool.and_eq_true, decide_eq_true_eq, List.cons.injEq, and_true] at hF
        refine ⟨by omega, by omega, by omega, fun n hn => ?_⟩
        simp only [InoT.B, InoT.O, List.cons_append, List.nil_append, List.mem_cons, List.not_mem_nil, or_false] at hn
        omega
      · cases h
theorem foldF_snoc (H : List UInt8) (l : List Int) (x : Int) : foldF H (ones (l ++ [x])) = putF (foldF H (ones l)) x 1 := by simp [foldF, ones]

set_option maxHeartbeats 4000000 in
set_option maxRecDepth 100000 in
theorem putIno_any (i : InoT) (w : World) : Calls Try.prog 8 #[inoV i] w (PutA w (putL i) (putE i)) := by
  have HC := fun w1 => mayIno_any i w1
  cases hm : mayI i
  · have h1 : putL i = [] := by unfold putL; rw [hm]; rfl
    have h2 : putE i = 1 := by unfold putE; rw [hm]; rfl
    rw [h1, h2]
    rw [hm] at HC
    obtain ⟨k, l, s, b0, b1, b2, b3, o0, o1, o2, o3, o4, o5, o6, o7⟩ := i
    unfold inoV inoC at *
    have HC := hid HC
    have HB : Hid (Below w.heap.size w (w.alloc (.cells #[.int .i64 k, .int .i64 l, .int .i64 s, .int .i64 b0, .int .i64 b1, .int .i64 b2, .int .i64 b3, .int .i64 o0, .int .i64 o1, .int .i64 o2, .int .i64 o3, .int .i64 o4, .int .i64 o5, .int .i64 o6, .int .i64 o7] 25))) := (Below.refl w.heap.size w).alloc (Nat.le_refl _) _
    clear hm h1 h2
    go_enter Try.func8, Try.ntmps8
    go_wp2_with (go_at_call 11; refine (HC.out _).mono ?_; rintro e w4 ⟨rfl, b4⟩; have B4 := hid (kept_trans HB.out b4); clear b4)
    refine bodyPost_ret (results_tmp2 rfl _ _ _) rfl ?_
    exact ⟨none, 0, rfl, Own.nil _ _ _ _, B4.out⟩
  · by_cases hz : inoL i = zeroL
    · have h1 : putL i = List.replicate 64 0 := by unfold putL; rw [hm, if_pos hz]; rfl
      have h2 : putE i = 0 := by unfold putE; rw [hm]; rfl
      rw [h1, h2]
      rw [hm] at HC
      obtain ⟨k, l, s, b0, b1, b2, b3, o0, o1, o2, o3, o4, o5, o6, o7⟩ := i
      have E := eqIno k l s b0 b1 b2 b3 o0 o1 o2 o3 o4 o5 o6 o7 0 0 0 0 0 0 0 0 0 0 0 0 0 0 0
      have hd : decide ([k, l, s, b0, b1, b2, b3, o0, o1, o2, o3, o4, o5, o6, o7] = [0, 0, 0, 0, 0, 0, 0, 0, 0, 0, 0, 0, 0, 0, 0]) = true := decide_eq_true hz
      rw [hd] at E
      clear hz hd
      unfold inoV inoC at *
      have HC := hid HC
      have K0 : Hid (Blk (w.alloc (.cells #[.int .i64 k, .int .i64 l, .int .i64 s, .int .i64 b0, .int .i64 b1, .int .i64 b2, .int .i64 b3, .int .i64 o0, .int .i64 o1, .int .i64 o2, .int .i64 o3, .int .i64 o4, .int .i64 o5, .int .i64 o6, .int .i64 o7] 25)) w.heap.size 25 [.int .i64 k, .int .i64 l, .int .i64 s, .int .i64 b0, .int .i64 b1, .int .i64 b2, .int .i64 b3, .int .i64 o0, .int .i64 o1, .int .i64 o2, .int .i64 o3, .int .i64 o4, .int .i64 o5, .int .i64 o6, .int .i64 o7]) := heap_alloc_new w _
      have HB : Hid (Below w.heap.size w (w.alloc (.cells #[.int .i64 k, .int .i64 l, .int .i64 s, .int .i64 b0, .int .i64 b1, .int .i64 b2, .int .i64 b3, .int .i64 o0, .int .i64 o1, .int .i64 o2, .int .i64 o3, .int .i64 o4, .int .i64 o5, .int .i64 o6, .int .i64 o7] 25))) := (Below.refl w.heap.size w).alloc (Nat.le_refl _) _
      clear hm h1 h2
      go_enter Try.func8, Try.ntmps8
      go_wp2_with (first
        | (go_at_call 11; refine (HC.out _).mono ?_; rintro e w4 ⟨rfl, b4⟩; have B4 := hid (kept_trans HB.out b4); have k4 := K0.out.mono b4
           have z0 : w4.cell? ⟨w.heap.size, 0, none⟩ = some (.int .i64 k) := Blk.cell k4 (i := 0) (by simp)
           have z1 : w4.cell? ⟨w.heap.size, 1, none⟩ = some (.int .i64 l) := Blk.cell k4 (i := 1) (by simp)
           have z2 : w4.cell? ⟨w.heap.size, 2, none⟩ = some (.int .i64 s) := Blk.cell k4 (i := 2) (by simp)
           have z3 : w4.cell? ⟨w.heap.size, 3, none⟩ = some (.int .i64 b0) := Blk.cell k4 (i := 3) (by simp)
           have z4 : w4.cell? ⟨w.heap.size, 4, none⟩ = some (.int .i64 b1) := Blk.cell k4 (i := 4) (by simp)
           have z5 : w4.cell? ⟨w.heap.size, 5, none⟩ = some (.int .i64 b2) := Blk.cell k4 (i := 5) (by simp)
           have z6 : w4.cell? ⟨w.heap.size, 6, none⟩ = some (.int .i64 b3) := Blk.cell k4 (i := 6) (by simp)
           have z7 : w4.cell? ⟨w.heap.size, 7, none⟩ = some (.int .i64 o0) := Blk.cell k4 (i := 7) (by simp)
           have z8 : w4.cell? ⟨w.heap.size, 8, none⟩ = some (.int .i64 o1) := Blk.cell k4 (i := 8) (by simp)
           have z9 : w4.cell? ⟨w.heap.size, 9, none⟩ = some (.int .i64 o2) := Blk.cell k4 (i := 9) (by simp)
           have z10 : w4.cell? ⟨w.heap.size, 10, none⟩ = some (.int .i64 o3) := Blk.cell k4 (i := 10) (by simp)
           have z11 : w4.cell? ⟨w.heap.size, 11, none⟩ = some (.int .i64 o4) := Blk.cell k4 (i := 11) (by simp)
           have z12 : w4.cell? ⟨w.heap.size, 12, none⟩ = some (.int .i64 o5) := Blk.cell k4 (i := 12) (by simp)
           have z13 : w4.cell? ⟨w.heap.size, 13, none⟩ = some (.int .i64 o6) := Blk.cell k4 (i := 13) (by simp)
           have z14 : w4.cell? ⟨w.heap.size, 14, none⟩ = some (.int .i64 o7) := Blk.cell k4 (i := 14) (by simp)
           clear k4 b4)
        | (at_make; refine wpl_make rfl (.const (.int .i64 64)) (.const (.int .i64 64)) rfl Try.underlying26 info8 rfl (n := 64) rfl rfl rfl rfl (by omega) (by omega) ?_; intro w5 k5 b5; have O5 := hid (blk_own1 (B := w.heap.size) k5 B4.out.size (by rw [List.length_replicate]; unfold maxLen; omega)); have B5 := hid (kept_trans B4.out b5); clear k5 b5))
      refine bodyPost_ret (results_tmp2 rfl _ _ _) rfl ?_
      refine ⟨_, _, rfl, ?_, B5.out⟩
      unfold OwnB
      rw [List.map_replicate, List.length_replicate]
      have q := O5.out
      rw [List.length_replicate] at q
      exact q
    · have h1 : putL i = putI i := by unfold putL; rw [hm, if_pos rfl, if_neg hz]
      have h2 : putE i = 0 := by unfold putE; rw [hm]; rfl
      rw [h1, h2]
      rw [hm] at HC
      have hd : decide (inoL i = zeroL) = false := decide_eq_false hz
      have hXl := inoX_le i
      have hYl := inoY_len i
      have hIl := putI_len i
      have hI : putI i = putF (inoY i) (crcF (inoY i) : Nat) 4 := rfl
      have hY : inoY i = inoX i ++ List.replicate (60 - (inoX i).length) 0 := rfl
      have hX : inoX i = foldF (inoH i) (ones (i.B ++ i.O)) := rfl
      have hH : inoH i = putF (putF (putF [] i.k 1) i.l 1) i.s 2 := rfl
      have hL12 : (i.B ++ i.O).length = 12 := rfl
      obtain ⟨uk, ul, us, uBO⟩ := mayI_up hm
      generalize putI i = R at *
      generalize inoY i = Y at *
      generalize inoX i = X at *
      generalize hHH : inoH i = H at *
      obtain ⟨k, l, s, b0, b1, b2, b3, o0, o1, o2, o3, o4, o5, o6, o7⟩ := i
      have E := eqIno k l s b0 b1 b2 b3 o0 o1 o2 o3 o4 o5 o6 o7 0 0 0 0 0 0 0 0 0 0 0 0 0 0 0
      have hd2 : decide ([k, l, s, b0, b1, b2, b3, o0, o1, o2, o3, o4, o5, o6, o7] = [0, 0, 0, 0, 0, 0, 0, 0, 0, 0, 0, 0, 0, 0, 0]) = false := hd
      rw [hd2] at E
      clear hz hd hd2 h1 h2 hm hHH
      unfold inoV inoC at *
      simp only [InoT.B, InoT.O] at *
      obtain ⟨BO, hBO⟩ : ∃ BO, BO = [b0, b1, b2, b3] ++ [o0, o1, o2, o3, o4, o5, o6, o7] := ⟨_, rfl⟩
      rw [← hBO] at hL12 hX uBO
      have P1 := fun w1 => put_any none 0 [] k 1 w1 (Row.nil _ _) (by simp) (by omega)
      have l1 := putF_le1 [] k
      have l2 := putF_le1 (putF [] k 1) l
      have l3 := putF_le2 (putF (putF [] k 1) l 1) s
      rw [← hH] at l3
      have P2 := fun a c w1 r => put_any a c (putF [] k 1) l 1 w1 r (by have : ([] : List UInt8).length = 0 := rfl; omega) (by omega)
      have P3 := fun a c w1 r => put_any a c (putF (putF [] k 1) l 1) s 2 w1 r (by have : ([] : List UInt8).length = 0 := rfl; omega) (by omega)
      rw [← hH] at P3
      rw [show ([] : List UInt8).length = 0 from rfl] at l1
      generalize putF (putF [] k 1) l 1 = X2 at *
      generalize putF [] k 1 = X1 at *
      have HH4 : H.length ≤ 4 := by omega
      have HC := hid HC; have P1 := hid P1; have P2 := hid P2; have P3 := hid P3
      have HX := hid hX; have HY := hid hY; have HI := hid hI; have HBO := hid hBO; have UBO := hid uBO
      clear hX hY hI hH hBO uBO
      have K0 : Hid (Blk (w.alloc (.cells #[.int .i64 k, .int .i64 l, .int .i64 s, .int .i64 b0, .int .i64 b1, .int .i64 b2, .int .i64 b3, .int .i64 o0, .int .i64 o1, .int .i64 o2, .int .i64 o3, .int .i64 o4, .int .i64 o5, .int .i64 o6, .int .i64 o7] 25)) w.heap.size 25 [.int .i64 k, .int .i64 l, .int .i64 s, .int .i64 b0, .int .i64 b1, .int .i64 b2, .int .i64 b3, .int .i64 o0, .int .i64 o1, .int .i64 o2, .int .i64 o3, .int .i64 o4, .int .i64 o5, .int .i64 o6, .int .i64 o7]) := heap_alloc_new w _
      have HB : Hid (Below w.heap.size w (w.alloc (.cells #[.int .i64 k, .int .i64 l, .int .i64 s, .int .i64 b0, .int .i64 b1, .int .i64 b2, .int .i64 b3, .int .i64 o0, .int .i64 o1, .int .i64 o2, .int .i64 o3, .int .i64 o4, .int .i64 o5, .int .i64 o6, .int .i64 o7] 25))) := (Below.refl w.heap.size w).alloc (Nat.le_refl _) _
      go_enter Try.func8, Try.ntmps8
      go_wp2_with (first
        | (go_at_call 11; refine (HC.out _).mono ?_; rintro e w4 ⟨rfl, b4⟩; have B4 := hid (kept_trans HB.out b4); have K4 := hid (K0.out.mono b4); have k4 := K4.out
           have z0 : w4.cell? ⟨w.heap.size, 0, none⟩ = some (.int .i64 k) := Blk.cell k4 (i := 0) (by simp)
           have z1 : w4.cell? ⟨w.heap.size, 1, none⟩ = some (.int .i64 l) := Blk.cell k4 (i := 1) (by simp)
           have z2 : w4.cell? ⟨w.heap.size, 2, none⟩ = some (.int .i64 s) := Blk.cell k4 (i := 2) (by simp)
           have z3 : w4.cell? ⟨w.heap.size, 3, none⟩ = some (.int .i64 b0) := Blk.cell k4 (i := 3) (by simp)
           have z4 : w4.cell? ⟨w.heap.size, 4, none⟩ = some (.int .i64 b1) := Blk.cell k4 (i := 4) (by simp)
           have z5 : w4.cell? ⟨w.heap.size, 5, none⟩ = some (.int .i64 b2) := Blk.cell k4 (i := 5) (by simp)
           have z6 : w4.cell? ⟨w.heap.size, 6, none⟩ = some (.int .i64 b3) := Blk.cell k4 (i := 6) (by simp)
           have z7 : w4.cell? ⟨w.heap.size, 7, none⟩ = some (.int .i64 o0) := Blk.cell k4 (i := 7) (by simp)
           have z8 : w4.cell? ⟨w.heap.size, 8, none⟩ = some (.int .i64 o1) := Blk.cell k4 (i := 8) (by simp)
           have z9 : w4.cell? ⟨w.heap.size, 9, none⟩ = some (.int .i64 o2) := Blk.cell k4 (i := 9) (by simp)
           have z10 : w4.cell? ⟨w.heap.size, 10, none⟩ = some (.int .i64 o3) := Blk.cell k4 (i := 10) (by simp)
           have z11 : w4.cell? ⟨w.heap.size, 11, none⟩ = some (.int .i64 o4) := Blk.cell k4 (i := 11) (by simp)
           have z12 : w4.cell? ⟨w.heap.size, 12, none⟩ = some (.int .i64 o5) := Blk.cell k4 (i := 12) (by simp)
           have z13 : w4.cell? ⟨w.heap.size, 13, none⟩ = some (.int .i64 o6) := Blk.cell k4 (i := 13) (by simp)
           have z14 : w4.cell? ⟨w.heap.size, 14, none⟩ = some (.int .i64 o7) := Blk.cell k4 (i := 14) (by simp)
           clear k4 b4)
        | (go_at_call_of 20 (Value.slice none 0 0); refine (P1.out _).mono ?_; rintro e w5 ⟨a5, c5, rfl, o5, b5⟩; have B5 := hid (kept_trans B4.out b5); have K5 := hid (K4.out.mono b5); have k5 := K5.out; have O5 := hid o5.row
           have y1 : w5.cell? ⟨w.heap.size, 1, none⟩ = some (.int .i64 l) := Blk.cell k5 (i := 1) (by simp)
           clear k5 b5 o5))
      refine (P2.out a5 c5 w5 O5.out).mono ?_
      rintro e w6 ⟨a6, c6, rfl, o6, b6⟩
      have B6 := hid (kept_trans B5.out b6); have K6 := hid (K5.out.mono b6); have k6 := K6.out; have O6 := hid o6.row
      have y2 : w6.cell? ⟨w.heap.size, 2, none⟩ = some (.int .i64 s) := Blk.cell k6 (i := 2) (by simp)
      clear k6 b6 o6
      go_wp2_with fail
      refine (P3.out a6 c6 w6 O6.out).mono ?_
      rintro e w7 ⟨a7, c7, rfl, o7, b7⟩
      have B7 := hid (kept_trans B6.out b7); have K7 := hid (K6.out.mono b7); have O7 := hid (show OwnB w7 w.heap.size a7 c7 H from Own.low o7 B6.out.size)
      clear b7 o7
      go_wp2_with fail
      have bx := B7.out.size
      have hlt := K7.out.lt
      have c7b : ∀ (w' : World) (q : Nat) (v : Value), ([.int .i64 k, .int .i64 l, .int .i64 s, .int .i64 b0, .int .i64 b1, .int .i64 b2, .int .i64 b3, .int .i64 o0, .int .i64 o1, .int .i64 o2, .int .i64 o3, .int .i64 o4, .int .i64 o5, .int .i64 o6, .int .i64 o7] : List Value)[q]? = some v → Below w7.heap.size w7 w' → w'.cell? ⟨w.heap.size, q, none⟩ = some v := fun w' q v hq hb => by
        have q1 := (K7.out.mono hb)
        obtain ⟨hq1, hq2⟩ := List.getElem?_eq_some_iff.1 hq
        rw [q1.cell hq1, hq2]
      have RB4 : ∀ w', Below w7.heap.size w7 w' → RowI w' (some ⟨w.heap.size, 3, none⟩) 4 [b0, b1, b2, b3] := fun w' hb => ⟨rfl, Nat.le_refl _, (by unfold maxLen; omega), (fun h => by cases h), fun _ => ⟨w.heap.size, 3, rfl, Nat.lt_of_lt_of_le hlt hb.size, fun j u hu => by
        refine c7b w' (3 + j) u ?_ hb
        have hj : j < 4 := by have := (List.getElem?_eq_some_iff.1 hu).1; simpa using this
        rcases (by omega : j = 0 ∨ j = 1 ∨ j = 2 ∨ j = 3) with rfl | rfl | rfl | rfl <;> exact hu⟩⟩
      have RO8 : ∀ w', Below w7.heap.size w7 w' → RowI w' (some ⟨w.heap.size, 7, none⟩) 8 [o0, o1, o2, o3, o4, o5, o6, o7] := fun w' hb => ⟨rfl, Nat.le_refl _, (by unfold maxLen; omega), (fun h => by cases h), fun _ => ⟨w.heap.size, 7, rfl, Nat.lt_of_lt_of_le hlt hb.size, fun j u hu => by
        refine c7b w' (7 + j) u ?_ hb
        have hj : j < 8 := by have := (List.getElem?_eq_some_iff.1 hu).1; simpa using this
        rcases (by omega : j = 0 ∨ j = 1 ∨ j = 2 ∨ j = 3 ∨ j = 4 ∨ j = 5 ∨ j = 6 ∨ j = 7) with rfl | rfl | rfl | rfl | rfl | rfl | rfl | rfl <;> exact hu⟩⟩
      have RB4 := hid RB4; have RO8 := hid RO8
      clear c7b
      have hbo2 := HBO.out
      have k8 : Blk (w7.alloc (.cells #[.slice (some ⟨w.heap.size, 3, none⟩) 4 4, .slice (some ⟨w.heap.size, 7, none⟩) 8 8] 43)).drew w7.heap.size 43 [.slice (some ⟨w.heap.size, 3, none⟩) 4 4, .slice (some ⟨w.heap.size, 7, none⟩) 8 8] := Blk.drew (show Blk (w7.alloc (.cells #[.slice (some ⟨w.heap.size, 3, none⟩) 4 4, .slice (some ⟨w.heap.size, 7, none⟩) 8 8] 43)) w7.heap.size 43 [.slice (some ⟨w.heap.size, 3, none⟩) 4 4, .slice (some ⟨w.heap.size, 7, none⟩) 8 8] from heap_alloc_new w7 _)
      have b8 : Below w7.heap.size w7 (w7.alloc (.cells #[.slice (some ⟨w.heap.size, 3, none⟩) 4 4, .slice (some ⟨w.heap.size, 7, none⟩) 8 8] 43)).drew := ((Below.refl _ w7).alloc (Nat.le_refl _) _).drew
      have k8a : (w7.alloc (.cells #[.slice (some ⟨w.heap.size, 3, none⟩) 4 4, .slice (some ⟨w.heap.size, 7, none⟩) 8 8] 43)).drew.cell? ⟨w7.heap.size, 0, none⟩ = some (.slice (some ⟨w.heap.size, 3, none⟩) 4 4) := Blk.cell k8 (i := 0) (by simp)
      have k8b : (w7.alloc (.cells #[.slice (some ⟨w.heap.size, 3, none⟩) 4 4, .slice (some ⟨w.heap.size, 7, none⟩) 8 8] 43)).drew.cell? ⟨w7.heap.size, 1, none⟩ = some (.slice (some ⟨w.heap.size, 7, none⟩) 8 8) := Blk.cell k8 (i := 1) (by simp)
      have HCC := hid (concat_two w7.heap.size [b0, b1, b2, b3] [o0, o1, o2, o3, o4, o5, o6, o7] (some ⟨w.heap.size, 3, none⟩) (some ⟨w.heap.size, 7, none⟩) 4 8 (w7.alloc (.cells #[.slice (some ⟨w.heap.size, 3, none⟩) 4 4, .slice (some ⟨w.heap.size, 7, none⟩) 8 8] 43)).drew rfl rfl k8.lt k8a k8b (RB4.out _ b8) (RO8.out _ b8))
      have B8 := hid b8
      clear k8 k8a k8b b8
      go_region_with (go_at_call 21; refine (HCC.out).mono ?_; rintro e w9 ⟨a9, c9, rfl, o9, b9⟩; have C9 := hid (show Below w7.heap.size w7 w9 from below_trans B8.out b9 B8.out.size); have Z9 := hid (show RowI w9 a9 c9 BO from by have q := o9.row; rw [← hbo2] at q; unfold RowI; rw [hL12]; exact q); clear o9 b9)
      all_goals
        have O9 := hid (show OwnB w9 w.heap.size a7 c7 H from O7.out.mono C9.out)
        have B9 := hid (kept_trans B7.out C9.out)
        clear C9 RB4 RO8 hbo2 HBO y1 y2 E HCC B8
        go_wp2_with fail
        simp only [List.getElem_toArray, List.getElem_cons_succ, List.getElem_cons_zero, Act.put, List.setIfInBounds_toArray, List.set_cons_zero, List.set_cons_succ]
        go_loopw [4, 32] (fun b i wr => ∃ (j m c : Nat) (a : Option Addr) (T : List UInt8), j ≤ 12 ∧ i = .int .i64 j ∧ b = .slice a m c ∧ T.length = m ∧ m ≤ 4 + j ∧ T = foldF H (ones (BO.take j)) ∧ OwnB wr w.heap.size a c T ∧ Below w9.heap.size w9 wr) (fun _ i _ => 12 - (intOf i).toNat)
        case atStart => exact ⟨0, H.length, c7, a7, H, by omega, rfl, rfl, rfl, by omega, rfl, O9.out, Below.refl _ _⟩
        case round =>
        obtain ⟨j, m, c, a, T, hj, rfl, rfl, hTm, hm4, hT, oT, bT⟩ := hrel
        have HTM := hid hTm; have HT := hid hT; have OT := hid oT; have BT := hid bT
        by_cases hj12 : j < 12
        · obtain ⟨g9, off9, rfl, hg9, hca⟩ := rowI_cells Z9.out (by omega)
          have ca := (bT.cell (p := ⟨g9, off9 + j, none⟩) hg9).trans (hca j (by omega))
          clear hca
          have hx := UBO.out (BO.getD j 0) (by rw [List.getD_eq_getElem?_getD, List.getElem?_eq_getElem (by omega)]; exact List.getElem_mem _)
          have hsn : foldF H (ones (BO.take (j + 1))) = putF T (BO.getD j 0) 1 := by
            rw [hT, ← foldF_snoc, List.getD_eq_getElem?_getD, List.getElem?_eq_getElem (by omega), List.take_succ_eq_append_getElem (by omega)]
            rfl
          have HPT := put_any a c T (BO.getD j 0) 1 wr oT.row (by omega) (by omega)
          rw [hTm] at HPT
          have hple := putF_le1 T (BO.getD j 0)
          rw [← hsn] at HPT hple
          have HSN := hid hsn
          generalize BO.getD j 0 = x at *
          generalize hT2 : foldF H (ones (BO.take (j + 1))) = T2 at *
          have HT2 := hid hT2
          clear hT2
          have HPT := hid HPT
          have ij : (j : Int) < 12 := by omega
          have dj : decide ((j : Int) < 12) = true := decide_eq_true ij
          clear oT bT hT hTm hsn
          have hrow : (j : Int) < (12 : Int) := ij
          go_wp2_with (go_at_call 20; refine (HPT.out).mono ?_; rintro e w10 ⟨a10, c10, rfl, o10, b10⟩)
          go_roundw
          case rel => exact ⟨j + 1, T2.length, c10, a10, T2, by omega, by go_num, rfl, rfl, by have := HTM.out; omega, HT2.out.symm, Own.low o10 (Nat.le_trans B9.out.size BT.out.size), below_trans BT.out b10 BT.out.size⟩
          case measure => simp [intOf]; omega
        · obtain rfl : j = 12 := by omega
          have hTX : T = X := by rw [hT, HX.out, List.take_of_length_le (by omega)]
          subst hTX
          have dj : decide ((12 : Int) < 12) = false := by decide
          have ez : IntKind.i64.wrap (60 - (m : Int)) = ((60 - m : Nat) : Int) := by rw [show (60 - (m : Int)) = ((60 - m : Nat) : Int) by omega]; exact IntWalk.i64_in _ (by omega)
          have hYY := HY.out
          rw [hTm] at hYY
          have HYY := hid hYY
          have hcl := crcF_lt Y
          have HSum := fun a c w1 r => sum_any a c Y w1 r
          rw [hYl] at HSum
          have HPut := fun a c w1 r => put_any a c Y (crcF Y : Nat) 4 w1 r (by omega) (by omega)
          rw [hYl, ← HI.out] at HPut
          have hm16 : m ≤ 16 := by omega
          generalize crcF Y = z at *
          have ezz : IntKind.i64.wrap (z : Int) = z := IntWalk.i64_in _ (by omega)
          have HSum := hid HSum; have HPut := hid HPut
          have t2 : True := trivial
          have hsz := hid (Nat.le_trans B9.out.size BT.out.size)
          have OT2 : Hid (Own wr w.heap.size 5 1 a m c (T.map byteV)) := by have q := OT.out; unfold OwnB at q; rw [HTM.out] at q; exact q
          clear oT bT hT hTm hYY HT
          go_wp2_with (at_builtin; have _t := t2; refine wpl_append_zeros rfl (.tmp 40) (.tmp 43) rfl Try.underlying26 Try.underlying3 (z := .int .u8 0) (bytes := 1) (by kernel_rfl) rfl rfl w.heap.size (k := 60 - m) rfl rfl (by omega) OT2.out (by omega) (by omega) hsz.out ?_; clear t2; intro a12 c12 w12 o12 g12 b12)
          rw [show m + (60 - m) = 60 by omega] at o12
          rw [show m + (60 - m) = 60 by omega]
          have O12 : Hid (RowB w12 a12 c12 Y) := by
            have q := o12.row
            have e : Y.map byteV = T.map byteV ++ List.replicate (60 - m) (.int .u8 0) := by rw [HYY.out, List.map_append, List.map_replicate]; rfl
            unfold RowB
            rw [hYl, e]
            exact q
          have B12 := hid (below_trans (below_trans B9.out BT.out B9.out.size) b12 (Nat.le_refl _))
          refine (HSum.out a12 c12 w12 O12.out).mono ?_
          rintro e w13 ⟨rfl, b13⟩
          go_wp2_with fail
          refine (HPut.out a12 c12 w13 (O12.out.mono b13)).mono ?_
          rintro e w14 ⟨a14, c14, rfl, o14, b14⟩
          have F14 := hid (show OwnB w14 w.heap.size a14 c14 R from Own.low o14 (Nat.le_trans B12.out.size b13.size))
          have G14 := hid (kept_trans (kept_trans B12.out b13) b14)
          clear o14 b14 b13
          go_wp2_with fail
          refine bodyPost_ret (results_tmp2 rfl _ _ _) rfl ?_
          exact ⟨a14, c14, by rw [hIl]; rfl, F14.out, G14.out⟩

end Go.Proofs.Ytnmblbkbiehodaa
