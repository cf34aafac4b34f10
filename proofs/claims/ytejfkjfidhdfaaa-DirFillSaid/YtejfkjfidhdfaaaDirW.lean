/- A directory's names: sorted. -/
import Derived.Test.YtejfkjfidhdfaaaDirK
import Derived.Test.YtejfkjfidhdfaaaPthA
import Derived.Test.YtejfkjfidhdfaaaShelfS
import Derived.Sort.OwnSorted
import Derived.Sort.KeysCollected
import Derived.Sort.Walk0
namespace Go.Proofs.Ytejfkjfidhdfaaa
open Go.RowKit Go.Shelf
set_option linter.unusedSimpArgs false
set_option linter.unusedVariables false

/-- texts, rising -/
def sortS (L : List ByteArray) : List ByteArray := ((L.map (·.data.toList)).mergeSort (fun x y => decide (x ≤ y))).map strB
theorem sortS_len (L : List ByteArray) : (sortS L).length = L.length := by unfold sortS; simp
theorem map_strV (L : List ByteArray) : L.map strV = (L.map (·.data.toList)).map encStr := by
  rw [List.map_map]; rfl
theorem sortS_strV (L : List ByteArray) : (sortS L).map strV = ((L.map (·.data.toList)).mergeSort (fun x y => decide (x ≤ y))).map encStr := by
  unfold sortS; rw [List.map_map]; rfl

theorem sort_any (a : Option Addr) (c : Nat) (L : List ByteArray) (w : World) (B : Nat) (h : Own w B 9 1 a L.length c (L.map strV)) (hB : B ≤ w.heap.size) (hn : L.length ≤ 1000) :
    Calls Try.prog 35 #[.slice a L.length c] w fun e w' => e = .returned (.tuple #[]) ∧ Own w' B 9 1 a L.length c ((sortS L).map strV) ∧ Below B w w' := by
  have h' := h
  rcases h.2 with ⟨hnil, h0⟩ | ⟨g, cap, cur, hv, hbase, hb, h1, h2, h3, h4⟩
  · have hl : L = [] := List.eq_nil_of_length_eq_zero h0
    subst hl
    exact (slices_Sort_none a c w).mono fun e w' q => ⟨q.1, by rw [q.2, show sortS [] = [] by unfold sortS; simp]; exact h', by rw [q.2]; exact Below.refl _ _⟩
  · cases hv
    have hlen : (L.map (·.data.toList)).length = L.length := by simp
    have hh : Sort.Holds encStr w g 0 (L.map (·.data.toList)).toArray := holds_of_block hb (by
      rw [hlen, ← map_strV]
      simpa using h4)
    have hg : g < w.heap.size := (Array.getElem?_eq_some_iff.1 hb).1
    have hs := slices_Sort_string g 0 c (L.map (·.data.toList)) w hh hg (by rw [hlen]; omega)
    rw [hlen] at hs
    refine hs.mono fun e w' q => ?_
    obtain ⟨q1, n, os, rfl⟩ := q
    refine ⟨q1, ?_, ?_⟩
    · have := ownsRow_sorted (n := n) (os := os) (ss := L.map (·.data.toList)) (ts := (L.map (·.data.toList)).mergeSort (fun x y => decide (x ≤ y))) (by simp) hbase hb (by rw [hlen]; exact h1) h2 h3
      rw [hlen] at this
      rw [sortS_strV]
      exact this
    · exact (Below.refl _ w).grown (grownBy_sorted _) hB (fun q hq => by cases hq; exact hbase)

/-- the names of a table -/
def nmT (t : List EntT) : List ByteArray := (t.map (·.nm)).filter (fun n => decide (n ≠ ⟨#[]⟩))
theorem nmT_snoc0 {t : List EntT} {j : Nat} (hj : j < t.length) (h : t[j].nm = ⟨#[]⟩) : nmT (t.take (j + 1)) = nmT (t.take j) := by
  unfold nmT
  rw [List.take_succ_eq_append_getElem hj, List.map_append, List.filter_append]
  simp [h]
theorem nmT_snoc1 {t : List EntT} {j : Nat} (hj : j < t.length) (h : ¬ t[j].nm = ⟨#[]⟩) : nmT (t.take (j + 1)) = nmT (t.take j) ++ [t[j].nm] := by
  unfold nmT
  rw [List.take_succ_eq_append_getElem hj, List.map_append, List.filter_append]
  simp [h]
theorem nmT_len (t : List EntT) : (nmT t).length ≤ t.length := by
  unfold nmT
  have := List.length_filter_le (fun n => decide (n ≠ (⟨#[]⟩ : ByteArray))) (t.map (·.nm))
  simpa using this
theorem run_ixT {o : Oper} (x y : Operand) (ho : o.op = .index 26 x y) (ρ : Operand → Value) (t : List EntT) (hx : ρ x = .agg (tabC t).toArray) (j : Nat) (hy : ρ y = .int .i64 j) (hj : j < 16) (w : World) :
    (execOp ρ o).run Try.prog w = .ok (.value (.agg ((tabC t).toArray.extract (j * 2) (j * 2 + 2)))) w := by
  unfold execOp
  rw [ho]
  have h1 : ((0 : Int) ≤ j ∧ (j : Int) < ((16 : Nat) : Int)) := by omega
  simp [Instr.index, hx, hy, run_underlying Try.underlying26, asIntOf, part, go_sem, h1]
  intro h; omega
theorem tabC_ix (t : List EntT) (j : Nat) (hj : j < t.length) : (tabC t).toArray.extract (j * 2) (j * 2 + 2) = #[.string t[j].nm, .int .i64 t[j].ino] := by
  obtain ⟨h0, h1⟩ := tabC_get t j hj
  apply Array.ext'
  rw [Array.toList_extract]
  show ((tabC t).extract _ _) = _
  rw [List.extract_eq_take_drop, show j * 2 + 2 - j * 2 = 2 by omega]
  apply List.ext_getElem?
  intro i
  match i with
  | 0 => rw [List.getElem?_take, if_pos (by omega), List.getElem?_drop, show j * 2 + 0 = 2 * j by omega, h0]; rfl
  | 1 => rw [List.getElem?_take, if_pos (by omega), List.getElem?_drop, show j * 2 + 1 = 2 * j + 1 by omega, h1]; rfl
  | i + 2 => rw [List.getElem?_take, if_neg (by omega)]; rfl
theorem wpl_ixT {w : World} {ops : Array Oper} {rest : List Oper} {o : Oper} {act : Act} {Q : Exit → Act → World → Prop} (hgd : o.guard = none) (x y : Operand)
    (ho : o.op = .index 26 x y) (t : List EntT) (hx : act.eval x = .agg (tabC t).toArray) (j : Nat) (hy : act.eval y = .int .i64 j) (hj : j < 16) (nm : ByteArray) (ino : Int)
    (hv : (tabC t).toArray.extract (j * 2) (j * 2 + 2) = #[.string nm, .int .i64 ino])
    (h : wpList Try.prog ops Q rest (act.put o.dst (.agg #[.string nm, .int .i64 ino])) w) : wpList Try.prog ops Q (o :: rest) act w :=
  wpl_runTo hgd _ _ (run_ixT x y ho _ t hx j hy hj w) (by rw [hv]; exact h)

set_option maxHeartbeats 4000000 in
theorem tnames_any (t : List EntT) (ht : t.length = 16) (w : World) :
    Calls Try.prog 23 #[.agg (tabC t).toArray] w fun e w' => ∃ a c, e = .returned (.slice a (sortS (nmT t)).length c) ∧ RowS w' a c (sortS (nmT t)) ∧ Below w.heap.size w w' := by
  have HT := hid ht
  have K0 := hid (blk_newO (W := w) rfl 26 (tabC t))
  have B0 := hid (albO w (.cells (tabC t).toArray 26))
  have hsz : (w.alloc (.cells (tabC t).toArray 26)).heap.size = w.heap.size + 1 := by simp
  have HSZ := hid hsz
  clear ht hsz
  go_enter Try.func23, Try.ntmps23
  go_wp2_with (with_reducible refine wpl_loadT rfl _ rfl w.heap.size rfl t HT.out K0.out ?_)
  go_loopw [3, 7] (fun o i wr => ∃ (j m : Nat) (a1 : Option Addr) (c1 : Nat), j ≤ 16 ∧ i = .int .i64 j ∧ o = .slice a1 m c1 ∧ m = (nmT (t.take j)).length ∧ m ≤ j ∧ Own wr (w.heap.size + 1) 9 1 a1 m c1 ((nmT (t.take j)).map strV) ∧ Below w.heap.size w wr ∧ w.heap.size + 1 ≤ wr.heap.size) (fun _ i _ => 16 - (intOf i).toNat)
  case atStart => exact ⟨0, 0, none, 0, by omega, rfl, rfl, rfl, by omega, Own.nil _ _ _ _, B0.out, by rw [HSZ.out]; exact Nat.le_refl _⟩
  case round =>
    obtain ⟨j, m, a1, c1, hj, rfl, rfl, hm, hmj, ho, hbl, hsz⟩ := hrel
    clear K0 B0 HSZ
    have HO := hid ho; have HBL := hid hbl; have HM := hid hm
    clear ho hbl hm
    by_cases hj16 : j < 16
    · have hjt : j < t.length := by rw [HT.out]; exact hj16
      have ij : (j : Int) < 16 := by omega
      have dj : decide ((j : Int) < 16) = true := decide_eq_true ij
      have hix := tabC_ix t j hjt
      have h0 := fun h => nmT_snoc0 hjt h
      have h1 := fun h => nmT_snoc1 hjt h
      have HIX := hid hix; have H0 := hid h0; have H1 := hid h1
      clear hix h0 h1
      generalize t[j].nm = nm at *
      generalize t[j].ino = ino at *
      by_cases hn : nm = ⟨#[]⟩
      · have HE := hid (H0.out hn)
        subst hn
        have he := isEmpty_t
        go_wp2_with (with_reducible refine wpl_ixT rfl _ _ rfl t rfl j rfl hj16 _ ino HIX.out ?_)
        go_roundw
        case rel => exact ⟨j + 1, m, a1, c1, by omega, by go_num, rfl, by rw [HE.out]; exact HM.out, by omega, by rw [HE.out]; exact HO.out.alloc _, HBL.out.alloc HBL.out.size _, by simp; omega⟩
        case measure => simp [intOf]; omega
      · have HE := hid (H1.out hn)
        have he := isEmpty_fD hn
        clear hn
        have R1 := hid (row_blkO (blk_newO (W := wr.alloc (.cells #[.string nm, .int .i64 ino] 24)) (n := wr.heap.size + 1) (by simp) 9 [.string nm]) 1 1 rfl (by omega))
        have HO2 := hid (HO.out.alloc (.cells #[.string nm, .int .i64 ino] 24))
        have B2 := hid (HBL.out.alloc HBL.out.size (.cells #[.string nm, .int .i64 ino] 24))
        go_wp2_with (first
          | (with_reducible refine wpl_ixT rfl _ _ rfl t rfl j rfl hj16 _ ino HIX.out ?_)
          | (at_builtin; (refine wpl_append rfl (.tmp 13) (.tmp 16) rfl ES (w.heap.size + 1) rfl rfl (HO2.out.alloc (.cells #[.string nm] 9)) R1.out (by intro u hu; simp only [List.mem_cons, List.not_mem_nil, or_false] at hu; subst hu; rfl) (by omega) (by omega) (by simp; omega) ?_); intro a2 c2 w2 o2 g2 b2; have O2 := hid o2; have b3 := b2.size; have B3 := hid ((B2.out.alloc B2.out.size (.cells #[.string nm] 9)).trans (b2.mono (by omega))); have z2 : w.heap.size + 1 ≤ w2.heap.size := by (simp at b3; omega)
             clear o2 g2 b2 b3))
        go_roundw
        case rel => exact ⟨j + 1, m + 1, a2, c2, by omega, by go_num, rfl, by rw [HE.out, List.length_append, ← HM.out]; rfl, by omega, by rw [HE.out, List.map_append]; exact O2.out, B3.out, z2⟩
        case measure => simp [intOf]; omega
    · obtain rfl : j = 16 := by omega
      have dj : decide (((16 : Nat) : Int) < 16) = false := by decide
      rw [List.take_of_length_le (by rw [HT.out]; omega)] at HO HM
      have hm' := HM.out
      subst hm'
      have HS := hid (sort_any a1 c1 (nmT t) wr (w.heap.size + 1) HO.out hsz (by omega))
      have hsl := sortS_len (nmT t)
      clear hmj
      go_wp2_with (go_at_call 35; refine HS.out.mono ?_; rintro e w3 ⟨rfl, o3, b3⟩; have O3 := hid o3; have B3 := hid (HBL.out.trans (b3.mono (by omega))); clear o3 b3)
      go_ret
      exact ⟨a1, c1, by rw [hsl]; rfl, by have := O3.out.row; unfold RowS; rw [hsl]; exact this, B3.out⟩
end Go.Proofs.Ytejfkjfidhdfaaa
