import Derived.Test.YtngfpndikjbioaaClogS
namespace Go.Proofs.Ytngfpndikjbioaa
open Go.RowKit
set_option linter.unusedSimpArgs false
set_option linter.unusedVariables false

theorem fold1 (X : List UInt8) (n k : Int) : foldF X [(n, k)] = putF X n k := rfl
theorem str_len {F X : List UInt8} {s : ByteArray} (h : X = F ++ s.data.toList) : F.length + s.size = X.length := by
  rw [h, List.length_append]; simp
theorem str_own {w : World} {g : Nat} {a : Option Addr} {c : Nat} {F X : List UInt8} {s : ByteArray} (h : X = F ++ s.data.toList) (o : Own w g 5 1 a (F.length + s.size) c (F.map byteV ++ s.data.toList.map byteV)) : OwnB w g a c X := by
  rw [← List.map_append, ← h, str_len h] at o
  exact o

set_option maxHeartbeats 2000000 in
theorem enc_any (c i : Int) (t : Bool) (o : Int) (s : ByteArray) (w : World) :
    Calls Try.prog 10 #[recV c i t o s] w fun en w' => ∃ a cc, en = .returned (.tuple #[.slice a (recL c i t o s).length cc, .int .i64 (if recMay c i t o s then 0 else 1)]) ∧ OwnB w' w.heap.size a cc (recL c i t o s) ∧ Below w.heap.size w w' := by
  have hmay := fun w1 => recMay_any c i t o s w1
  unfold recV at *
  by_cases hb : recMay c i t o s = true
  · have hL : recL c i t o s = padTo8 (recY c i t o s) := by unfold recL; rw [if_pos hb]
    have hE : (if recMay c i t o s then (0 : Int) else 1) = 0 := if_pos hb
    have hbd := recMay_iff hb
    rw [hL, hE]
    have HB := hid hb; have HM := hid hmay
    have hsz : s.size ≤ 64 := hbd.2.2.2.2.2.2.1
    obtain ⟨q1, q2, q3, q4, q5, q6, _, q8, _⟩ := hbd
    have lX : (recX c i t o s).length ≤ 200 := by
      have h1 := foldF_length_le [] (recF c i t o s.size)
      have h2 : s.data.toList.length = s.size := by simp
      simp only [recX, List.length_append, h2]
      simp [recF] at h1 ⊢; omega
    have lY : (recY c i t o s).length ≤ 208 := by have := putF_length_le (recX c i t o s) (crcF (recX c i t o s) : Nat) 4; unfold recY; omega
    have hcl := crcF_lt (recX c i t o s)
    have h9 : ∀ f ∈ recF c i t o s.size, f.1 ≤ 9223372036854775807 := by
      intro f hf; simp [recF] at hf
      rcases hf with rfl | rfl | rfl | rfl | rfl
      · simp; omega
      · simp; omega
      · cases t <;> simp
      · simp; omega
      · simp; omega
    have H9 := hid h9
    have HX := hid (show recX c i t o s = foldF [] (recF c i t o s.size) ++ s.data.toList from rfl)
    have HY := hid (show recY c i t o s = putF (recX c i t o s) (crcF (recX c i t o s) : Nat) 4 from rfl)
    have t1 : True := trivial
    have t2 : True := trivial
    clear hb hL hE hmay h9
    cases t
    · skip
      go_enter Try.func10, Try.ntmps10
      go_wp2_with fail
      refine (HM.out _).mono ?_
      rintro en w1 ⟨rfl, b1⟩
      rw [HB.out]
      have H0 : Blk (w.alloc (.cells #[.int .i64 c, .int .i64 i, .bool false, .int .i64 o, .string s] 23)) w.heap.size 23 [.int .i64 c, .int .i64 i, .bool false, .int .i64 o, .string s] := heap_alloc_new w _
      have H1 := Blk.mono H0 b1
      have k0 := Blk.cell H1 (i := 0) (by simp)
      have k1 := Blk.cell H1 (i := 1) (by simp)
      have k2 := Blk.cell H1 (i := 2) (by simp)
      have k3 := Blk.cell H1 (i := 3) (by simp)
      have k4 := Blk.cell H1 (i := 4) (by simp)
      simp only [List.getElem_cons_zero, List.getElem_cons_succ] at k0 k1 k2 k3 k4
      have hB1 : w.heap.size < w1.heap.size := Nat.lt_of_lt_of_le (by simp) b1.size
      have B1 := hid (below_trans ((Below.refl _ w).alloc (Nat.le_refl _) _) b1 (by simp))
      have HH1 := hid H1
      clear H0 H1 b1 HM
      go_wp2_with fail
      refine (cput_any none 0 [] _ _ (recF c i false o s.size) _ (Row.nil _ _) (by simp) (row_fields16 w1 (recF c i false o s.size) 54 (by simp [recF])) (by simp [recF]) (by simp [recF]) H9.out).mono ?_
      rintro en w2 ⟨a2, c2, rfl, o2, b2⟩
      have b12 := below_trans ((Below.refl w1.heap.size w1).alloc (Nat.le_refl _) (.cells (fieldCells (recF c i false o s.size)).toArray 54)) b2 (by simp)
      have B2 := hid (below_trans B1.out b12 B1.out.size)
      have K2 := Blk.mono HH1.out b12
      have k4' := Blk.cell K2 (i := 4) (by simp)
      simp only [List.getElem_cons_zero, List.getElem_cons_succ] at k4'
      have o2' := Own.low o2 (show w1.heap.size ≤ _ from by simp)
      have hs12 := b12.size
      clear k0 k1 k2 k3 k4 o2 b2 b12 HH1 K2 H9
      have lF : (foldF [] (recF c i false o s.size)).length ≤ 200 := by
        have := HX.out
        have h2 := congrArg List.length this
        rw [List.length_append] at h2
        omega
      generalize hF : foldF [] (recF c i false o s.size) = F at *
      go_wp2_with (first
        | (at_builtin; have _t := t1; refine wpl_append_str rfl (.tmp 28) (.tmp 30) rfl Try.underlying25 Try.underlying9 (by kernel_rfl) w1.heap.size rfl rfl o2' (by omega) hs12 ?_; clear t1; intro a3 c3 w3 o3 _ b3; have _o3 := str_own HX.out o3; rw [str_len HX.out]))
      have B3 := hid (below_trans B2.out b3 (Nat.le_of_lt (Nat.lt_of_lt_of_le hB1 (Nat.le_refl _))))
      have hs13 := Nat.le_trans hs12 b3.size
      have HO3 := hid _o3
      clear o3 b3 B2 k4' o2' _o3 HX hF
      generalize hXX : recX c i false o s = X at *
      refine (sum_any a3 c3 X w3 HO3.out.row).mono ?_
      rintro en w4 ⟨rfl, b4⟩
      generalize crcF X = z at *
      have B4 := hid (below_trans B3.out b4 B3.out.size)
      have hs14 := Nat.le_trans hs13 b4.size
      have r4 := Row.mono HO3.out.row b4
      clear B3 b4 HO3
      go_wp2_with fail
      refine (cput_any a3 c3 X _ _ [((z : Int), 4)] _ (Row.alloc r4 _) (by omega) (row_fields16 w4 [((z : Int), 4)] 54 (by simp)) (by simp) (by simp) (by simp; omega)).mono ?_
      rintro en w5 ⟨a5, c5, rfl, o5, b5⟩
      have b45 := below_trans ((Below.refl w4.heap.size w4).alloc (Nat.le_refl _) (.cells (fieldCells [((z : Int), 4)]).toArray 54)) b5 (by simp)
      have B5 := hid (below_trans B4.out b45 B4.out.size)
      have hYf := (fold1 X (z : Int) 4).trans HY.out.symm
      rw [hYf] at o5 ⊢
      clear hYf
      have o5' := Own.low o5 (show w.heap.size ≤ _ from Nat.le_trans B4.out.size (by simp))
      clear o5 b5 b45 B4 r4
      have hup := up8 (recY c i false o s).length (by omega)
      generalize hYY : recY c i false o s = Y at *
      have HYY := hid hYY; have HXX := hid hXX
      clear hYY hXX HY
      have HU := hid (fun w1 => up_any (Y.length : Int) 8 w1)
      rw [hup] at HU
      have hple : (8 - Y.length % 8) % 8 ≤ 7 := by omega
      generalize hp : (8 - Y.length % 8) % 8 = p at *
      have HPP := hid hp; clear hp hup
      go_wp2_with fail
      refine (HU.out w5).mono ?_
      rintro en w6 ⟨rfl, rfl⟩
      have hB5 := B5.out.size
      go_wp2_with (first
        | (at_builtin; have _t := t2; refine wpl_append_zeros rfl (.tmp 39) (.tmp 45) rfl Try.underlying25 Try.underlying3 (z := .int .u8 0) (bytes := 1) (by kernel_rfl) rfl rfl w.heap.size (k := p) rfl rfl (by omega) o5' (by omega) (by omega) hB5 ?_; clear t2; intro a7 c7 w7 o7 _ b7))
      have hl7 : Y.length + p = (padTo8 (recY c i false o s)).length := by rw [HYY.out, ← HPP.out]; simp [padTo8]
      have o8 : OwnB w7 w.heap.size a7 c7 (padTo8 (recY c i false o s)) := by
        rw [HYY.out]; rw [← HPP.out] at o7; exact pad8_own o7
      have HL7 := hid hl7
      clear hl7 o7
      go_ret2
      exact ⟨a7, c7, by rw [← HL7.out]; rfl, o8, below_trans B5.out b7 (Nat.le_refl _)⟩
    · skip
      go_enter Try.func10, Try.ntmps10
      go_wp2_with fail
      refine (HM.out _).mono ?_
      rintro en w1 ⟨rfl, b1⟩
      rw [HB.out]
      have H0 : Blk (w.alloc (.cells #[.int .i64 c, .int .i64 i, .bool true, .int .i64 o, .string s] 23)) w.heap.size 23 [.int .i64 c, .int .i64 i, .bool true, .int .i64 o, .string s] := heap_alloc_new w _
      have H1 := Blk.mono H0 b1
      have k0 := Blk.cell H1 (i := 0) (by simp)
      have k1 := Blk.cell H1 (i := 1) (by simp)
      have k2 := Blk.cell H1 (i := 2) (by simp)
      have k3 := Blk.cell H1 (i := 3) (by simp)
      have k4 := Blk.cell H1 (i := 4) (by simp)
      simp only [List.getElem_cons_zero, List.getElem_cons_succ] at k0 k1 k2 k3 k4
      have hB1 : w.heap.size < w1.heap.size := Nat.lt_of_lt_of_le (by simp) b1.size
      have B1 := hid (below_trans ((Below.refl _ w).alloc (Nat.le_refl _) _) b1 (by simp))
      have HH1 := hid H1
      clear H0 H1 b1 HM
      go_wp2_with fail
      refine (cput_any none 0 [] _ _ (recF c i true o s.size) _ (Row.nil _ _) (by simp) (row_fields16 w1 (recF c i true o s.size) 54 (by simp [recF])) (by simp [recF]) (by simp [recF]) H9.out).mono ?_
      rintro en w2 ⟨a2, c2, rfl, o2, b2⟩
      have b12 := below_trans ((Below.refl w1.heap.size w1).alloc (Nat.le_refl _) (.cells (fieldCells (recF c i true o s.size)).toArray 54)) b2 (by simp)
      have B2 := hid (below_trans B1.out b12 B1.out.size)
      have K2 := Blk.mono HH1.out b12
      have k4' := Blk.cell K2 (i := 4) (by simp)
      simp only [List.getElem_cons_zero, List.getElem_cons_succ] at k4'
      have o2' := Own.low o2 (show w1.heap.size ≤ _ from by simp)
      have hs12 := b12.size
      clear k0 k1 k2 k3 k4 o2 b2 b12 HH1 K2 H9
      have lF : (foldF [] (recF c i true o s.size)).length ≤ 200 := by
        have := HX.out
        have h2 := congrArg List.length this
        rw [List.length_append] at h2
        omega
      generalize hF : foldF [] (recF c i true o s.size) = F at *
      go_wp2_with (first
        | (at_builtin; have _t := t1; refine wpl_append_str rfl (.tmp 28) (.tmp 30) rfl Try.underlying25 Try.underlying9 (by kernel_rfl) w1.heap.size rfl rfl o2' (by omega) hs12 ?_; clear t1; intro a3 c3 w3 o3 _ b3; have _o3 := str_own HX.out o3; rw [str_len HX.out]))
      have B3 := hid (below_trans B2.out b3 (Nat.le_of_lt (Nat.lt_of_lt_of_le hB1 (Nat.le_refl _))))
      have hs13 := Nat.le_trans hs12 b3.size
      have HO3 := hid _o3
      clear o3 b3 B2 k4' o2' _o3 HX hF
      generalize hXX : recX c i true o s = X at *
      refine (sum_any a3 c3 X w3 HO3.out.row).mono ?_
      rintro en w4 ⟨rfl, b4⟩
      generalize crcF X = z at *
      have B4 := hid (below_trans B3.out b4 B3.out.size)
      have hs14 := Nat.le_trans hs13 b4.size
      have r4 := Row.mono HO3.out.row b4
      clear B3 b4 HO3
      go_wp2_with fail
      refine (cput_any a3 c3 X _ _ [((z : Int), 4)] _ (Row.alloc r4 _) (by omega) (row_fields16 w4 [((z : Int), 4)] 54 (by simp)) (by simp) (by simp) (by simp; omega)).mono ?_
      rintro en w5 ⟨a5, c5, rfl, o5, b5⟩
      have b45 := below_trans ((Below.refl w4.heap.size w4).alloc (Nat.le_refl _) (.cells (fieldCells [((z : Int), 4)]).toArray 54)) b5 (by simp)
      have B5 := hid (below_trans B4.out b45 B4.out.size)
      have hYf := (fold1 X (z : Int) 4).trans HY.out.symm
      rw [hYf] at o5 ⊢
      clear hYf
      have o5' := Own.low o5 (show w.heap.size ≤ _ from Nat.le_trans B4.out.size (by simp))
      clear o5 b5 b45 B4 r4
      have hup := up8 (recY c i true o s).length (by omega)
      generalize hYY : recY c i true o s = Y at *
      have HYY := hid hYY; have HXX := hid hXX
      clear hYY hXX HY
      have HU := hid (fun w1 => up_any (Y.length : Int) 8 w1)
      rw [hup] at HU
      have hple : (8 - Y.length % 8) % 8 ≤ 7 := by omega
      generalize hp : (8 - Y.length % 8) % 8 = p at *
      have HPP := hid hp; clear hp hup
      go_wp2_with fail
      refine (HU.out w5).mono ?_
      rintro en w6 ⟨rfl, rfl⟩
      have hB5 := B5.out.size
      go_wp2_with (first
        | (at_builtin; have _t := t2; refine wpl_append_zeros rfl (.tmp 39) (.tmp 45) rfl Try.underlying25 Try.underlying3 (z := .int .u8 0) (bytes := 1) (by kernel_rfl) rfl rfl w.heap.size (k := p) rfl rfl (by omega) o5' (by omega) (by omega) hB5 ?_; clear t2; intro a7 c7 w7 o7 _ b7))
      have hl7 : Y.length + p = (padTo8 (recY c i true o s)).length := by rw [HYY.out, ← HPP.out]; simp [padTo8]
      have o8 : OwnB w7 w.heap.size a7 c7 (padTo8 (recY c i true o s)) := by
        rw [HYY.out]; rw [← HPP.out] at o7; exact pad8_own o7
      have HL7 := hid hl7
      clear hl7 o7
      go_ret2
      exact ⟨a7, c7, by rw [← HL7.out]; rfl, o8, below_trans B5.out b7 (Nat.le_refl _)⟩
  · have hb' : recMay c i t o s = false := by simpa using hb
    have hL : recL c i t o s = [] := by unfold recL; rw [if_neg hb]
    have hE : (if recMay c i t o s then (0 : Int) else 1) = 1 := if_neg hb
    rw [hL, hE]
    have HB := hid hb'; have HM := hid hmay
    clear hb hL hE hb' hmay
    go_enter Try.func10, Try.ntmps10
    go_wp2_with fail
    refine (HM.out _).mono ?_
    rintro en w1 ⟨rfl, b1⟩
    rw [HB.out]
    go_wp2_with fail
    go_ret2
    exact ⟨none, 0, rfl, Own.nil _ _ _ _, below_trans ((Below.refl _ w).alloc (Nat.le_refl _) _) b1 (by simp)⟩

end Go.Proofs.Ytngfpndikjbioaa
