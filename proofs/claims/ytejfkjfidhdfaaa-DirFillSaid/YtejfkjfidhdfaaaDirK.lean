/- The statements of stage 12: which entry may be; the entries of a table; lists that are the same. -/
import Derived.Test.YtejfkjfidhdfaaaDirJ
import Derived.Test.YtejfkjfidhdfaaaNameB
namespace Go.Proofs.Ytejfkjfidhdfaaa
open Go.RowKit Go.Shelf
set_option linter.unusedSimpArgs false
set_option linter.unusedVariables false

theorem bcellN {W w1 : World} (hb : Below W.heap.size W w1) : (∀ b o, b < W.heap.size → w1.cell? ⟨b, o, none⟩ = W.cell? ⟨b, o, none⟩) ∧ (∀ b o, b < W.heap.size → w1.frozen? ⟨b, o, none⟩ = W.frozen? ⟨b, o, none⟩) :=
  ⟨fun b o h => hb.cell (p := ⟨b, o, none⟩) h, fun b o h => hb.frozen (p := ⟨b, o, none⟩) h⟩
/-- may an entry be? -/
def mayE (n : ByteArray) (i : Int) : Bool := decide (n = ⟨#[]⟩ ∧ i = 0) || (mayN n && decide (1 ≤ i ∧ i ≤ 32))
theorem mayE_cases (n : ByteArray) (i : Int) : ((n = ⟨#[]⟩ ∧ i = 0) ∧ mayE n i = true) ∨ (¬ (n = ⟨#[]⟩ ∧ i = 0) ∧
    ((mayN n = false ∧ mayE n i = false) ∨ (mayN n = true ∧ ((i < 1 ∧ mayE n i = false) ∨ ((1 ≤ i ∧ i ≤ 32) ∧ mayE n i = true) ∨ ((1 ≤ i ∧ 32 < i) ∧ mayE n i = false))))) := by
  by_cases h : n = ⟨#[]⟩ ∧ i = 0
  · exact .inl ⟨h, by unfold mayE; rw [decide_eq_true h]; rfl⟩
  · refine .inr ⟨h, ?_⟩
    have e : mayE n i = (mayN n && decide (1 ≤ i ∧ i ≤ 32)) := by unfold mayE; rw [decide_eq_false h]; simp
    rw [e]
    cases mayN n with
    | false => exact .inl ⟨rfl, rfl⟩
    | true =>
      refine .inr ⟨rfl, ?_⟩
      rcases (by omega : i < 1 ∨ (1 ≤ i ∧ i ≤ 32) ∨ (1 ≤ i ∧ 32 < i)) with g | g | g
      · exact .inl ⟨g, by simp; omega⟩
      · exact .inr (.inl ⟨g, by simp; omega⟩)
      · exact .inr (.inr ⟨g, by simp; omega⟩)

set_option maxHeartbeats 1000000 in
theorem dirMay_any (n : ByteArray) (i : Int) (w : World) : Calls Try.prog 20 #[.agg #[.string n, .int .i64 i]] w fun e w' => e = .returned (.bool (mayE n i)) ∧ Below w.heap.size w w' := by
  have E := eqEntD n ⟨#[]⟩ i 0
  have HM := hid (fun w1 => mayN_any n w1)
  have hal := hid (albO w (.cells #[.string n, .int .i64 i] 24))
  rcases mayE_cases n i with ⟨h, hk⟩ | ⟨h, ⟨hm, hk⟩ | ⟨hm, ⟨g, hk⟩ | ⟨g, hk⟩ | ⟨g, hk⟩⟩⟩
  all_goals rw [hk]; clear hk
  · rw [decide_eq_true h] at E
    clear h
    go_enter Try.func20, Try.ntmps20
    go_wp2_with fail
    go_ret
    exact ⟨rfl, hal.out⟩
  · rw [decide_eq_false h] at E
    rw [hm] at HM
    clear h hm
    go_enter Try.func20, Try.ntmps20
    go_wp2_with (go_at_call 34; refine (HM.out _).mono ?_; rintro e w1 ⟨rfl, b1⟩; have B1 := hid (kept_trans hal.out b1); clear b1)
    go_ret
    exact ⟨rfl, B1.out⟩
  · rw [decide_eq_false h] at E
    rw [hm] at HM
    clear h hm
    have d1 : decide (1 ≤ i) = false := decide_eq_false (by omega)
    go_enter Try.func20, Try.ntmps20
    go_wp2_with (go_at_call 34; refine (HM.out _).mono ?_; rintro e w1 ⟨rfl, b1⟩; obtain ⟨c1, f1⟩ := bcellN b1; have c2 := (c1 w.heap.size 1 (by simp)).trans (by exact (blk_newO (W := w) rfl 24 [.string n, .int .i64 i]).cell (i := 1) (by simp)); have B1 := hid (kept_trans hal.out b1); clear b1 c1 f1; simp only [List.getElem_cons_succ, List.getElem_cons_zero] at c2)
    go_ret
    exact ⟨rfl, B1.out⟩
  · rw [decide_eq_false h] at E
    rw [hm] at HM
    clear h hm
    have d1 : decide (1 ≤ i) = true := decide_eq_true (by omega)
    have d2 : decide (i ≤ 32) = true := decide_eq_true (by omega)
    go_enter Try.func20, Try.ntmps20
    go_wp2_with (go_at_call 34; refine (HM.out _).mono ?_; rintro e w1 ⟨rfl, b1⟩; obtain ⟨c1, f1⟩ := bcellN b1; have c2 := (c1 w.heap.size 1 (by simp)).trans (by exact (blk_newO (W := w) rfl 24 [.string n, .int .i64 i]).cell (i := 1) (by simp)); have B1 := hid (kept_trans hal.out b1); clear b1 c1 f1; simp only [List.getElem_cons_succ, List.getElem_cons_zero] at c2)
    go_ret
    exact ⟨rfl, B1.out⟩
  · rw [decide_eq_false h] at E
    rw [hm] at HM
    clear h hm
    have d1 : decide (1 ≤ i) = true := decide_eq_true (by omega)
    have d2 : decide (i ≤ 32) = false := decide_eq_false (by omega)
    go_enter Try.func20, Try.ntmps20
    go_wp2_with (go_at_call 34; refine (HM.out _).mono ?_; rintro e w1 ⟨rfl, b1⟩; obtain ⟨c1, f1⟩ := bcellN b1; have c2 := (c1 w.heap.size 1 (by simp)).trans (by exact (blk_newO (W := w) rfl 24 [.string n, .int .i64 i]).cell (i := 1) (by simp)); have B1 := hid (kept_trans hal.out b1); clear b1 c1 f1; simp only [List.getElem_cons_succ, List.getElem_cons_zero] at c2)
    go_ret
    exact ⟨rfl, B1.out⟩

set_option maxHeartbeats 1000000 in
theorem refMay12_any (n : ByteArray) (i : Int) (w : World) : Calls Try.prog 21 #[.agg #[.string n, .int .i64 i]] w fun e w' => e = .returned (.bool (mayE n i)) ∧ Below w.heap.size w w' := by
  have HM := hid (fun w1 => mayNRef_any n w1)
  have hal := hid (albO w (.cells #[.string n, .int .i64 i] 24))
  rcases mayE_cases n i with ⟨⟨rfl, rfl⟩, hk⟩ | ⟨h, hr⟩
  · rw [hk]; clear hk
    have het := emptyN_t
    go_enter Try.func21, Try.ntmps21
    go_wp2_with fail
    go_ret
    exact ⟨rfl, hal.out⟩
  have hn : (n.toList.isEmpty && (i == 0)) = false := by
    rw [← decide_eq_emptyBytes]
    by_cases h1 : n = ⟨#[]⟩
    · have : ¬ i = 0 := fun h2 => h ⟨h1, h2⟩
      simp [this]
    · rw [decide_eq_false (show ¬ n = ByteArray.empty from h1)]; rfl
  have cse : n.toList.isEmpty = false ∨ (n.toList.isEmpty = true ∧ (i == 0) = false) := by
    cases hq : n.toList.isEmpty with
    | false => exact .inl rfl
    | true => rw [hq] at hn; exact .inr ⟨rfl, by simpa using hn⟩
  clear hn h
  rcases cse with he | ⟨he, hi0⟩
  all_goals
    rcases hr with ⟨hm, hk⟩ | ⟨hm, ⟨g, hk⟩ | ⟨g, hk⟩ | ⟨g, hk⟩⟩
    all_goals rw [hk]; clear hk; rw [hm] at HM; clear hm
    · go_enter Try.func21, Try.ntmps21
      go_wp2_with (go_at_call 31; refine (HM.out _).mono ?_; rintro e w1 ⟨rfl, rfl⟩)
      go_ret
      exact ⟨rfl, hal.out⟩
    · have d1 : decide (1 ≤ i) = false := decide_eq_false (by omega)
      go_enter Try.func21, Try.ntmps21
      go_wp2_with (go_at_call 31; refine (HM.out _).mono ?_; rintro e w1 ⟨rfl, rfl⟩)
      go_ret
      exact ⟨rfl, hal.out⟩
    · have d1 : decide (1 ≤ i) = true := decide_eq_true (by omega)
      have d2 : decide (i ≤ 32) = true := decide_eq_true (by omega)
      go_enter Try.func21, Try.ntmps21
      go_wp2_with (go_at_call 31; refine (HM.out _).mono ?_; rintro e w1 ⟨rfl, rfl⟩)
      go_ret
      exact ⟨rfl, hal.out⟩
    · have d1 : decide (1 ≤ i) = true := decide_eq_true (by omega)
      have d2 : decide (i ≤ 32) = false := decide_eq_false (by omega)
      go_enter Try.func21, Try.ntmps21
      go_wp2_with (go_at_call 31; refine (HM.out _).mono ?_; rintro e w1 ⟨rfl, rfl⟩)
      go_ret
      exact ⟨rfl, hal.out⟩

theorem setSnocE (t : List EntT) {k : Nat} (h : k < t.length) : t.take (k + 1) = t.take k ++ [t[k]] := by
  rw [List.take_succ_eq_append_getElem h]

set_option maxHeartbeats 1000000 in
set_option maxRecDepth 100000 in
theorem entries_any (t : List EntT) (ht : t.length = 16) (w : World) :
    Calls Try.prog 19 #[.agg (tabC t).toArray] w fun e w' => ∃ g c', e = .returned (.slice (some ⟨g, 0, none⟩) 16 c') ∧ Own w' w.heap.size 24 2 (some ⟨g, 0, none⟩) 16 c' (tabC t) ∧ Below w.heap.size w w' := by
  have HT := hid ht
  have K0 := hid (blk_newO (W := w) rfl 26 (tabC t))
  have B0 := hid (albO w (.cells (tabC t).toArray 26))
  have hsz : (w.alloc (.cells (tabC t).toArray 26)).heap.size = w.heap.size + 1 := by simp
  have HSZ := hid hsz
  clear ht hsz
  go_enter Try.func19, Try.ntmps19
  go_wp2_with fail
  go_loopw [3, 4] (fun o i wr => ∃ (k : Nat) (a1 : Option Addr) (c1 : Nat), k ≤ 16 ∧ i = .int .i64 k ∧ o = .slice a1 k c1 ∧ Own wr (w.heap.size + 1) 24 2 a1 k c1 (tabC (t.take k)) ∧ Blk wr w.heap.size 26 (tabC t) ∧ Below w.heap.size w wr ∧ w.heap.size + 1 ≤ wr.heap.size) (fun _ i _ => 16 - (intOf i).toNat)
  case atStart => exact ⟨0, none, 0, by omega, rfl, rfl, Own.nil _ _ _ _, K0.out, B0.out, by rw [HSZ.out]; exact Nat.le_refl _⟩
  case round =>
    obtain ⟨k, a1, c1, hk, rfl, rfl, ho, hb0, hbl, hsz⟩ := hrel
    clear K0 B0 HSZ
    have HO := hid ho; have HB0 := hid hb0; have HBL := hid hbl
    clear ho hb0 hbl
    by_cases hk16 : k < 16
    · have hkt : k < t.length := by rw [HT.out]; exact hk16
      have hsn := setSnocE t hkt
      have ik : (k : Int) < 16 := by omega
      have dk : decide ((k : Int) < 16) = true := decide_eq_true ik
      have ck := tabC_get t k hkt
      obtain ⟨hq0, hv0⟩ := List.getElem?_eq_some_iff.1 ck.1
      obtain ⟨hq1, hv1⟩ := List.getElem?_eq_some_iff.1 ck.2
      have c0 : wr.cell? ⟨w.heap.size, k * 2, none⟩ = some (.string t[k].nm) := by rw [Nat.mul_comm k 2, HB0.out.cell (i := 2 * k) hq0, hv0]
      have c1' : wr.cell? ⟨w.heap.size, k * 2 + 1, none⟩ = some (.int .i64 t[k].ino) := by rw [Nat.mul_comm k 2, HB0.out.cell (i := 2 * k + 1) hq1, hv1]
      have he : t[k] = ⟨t[k].nm, t[k].ino⟩ := rfl
      rw [he] at hsn
      have HSN := hid hsn
      clear hsn ck hq0 hq1 hv0 hv1 he
      generalize t[k].nm = nm at *
      generalize t[k].ino = ino at *
      go_wp2_with (first
        | (at_builtin; have o4 := HO.out.alloc (.cells #[.string nm, .int .i64 ino] 24); have r4 := row_blkO (blk_newO (W := wr) rfl 24 [.string nm, .int .i64 ino]) 2 1 rfl (by omega)
           refine wpl_append rfl (.tmp 9) (.tmp 13) rfl ET (w.heap.size + 1) rfl rfl o4 r4 (entC_one ⟨nm, ino⟩) (by omega) (by omega) (by simp; omega) ?_
           intro a5 c5 w5 o5 g5 b5
           have b6 := (HBL.out.alloc HBL.out.size (.cells #[.string nm, .int .i64 ino] 24)).trans (b5.mono (by omega))
           have h6 := (HB0.out.mono (albO _ (.cells #[.string nm, .int .i64 ino] 24))).below b5 (by omega)
           have z6 : w.heap.size + 1 ≤ w5.heap.size := by have := b5.size; simp at this; omega
           have O6 := hid o5; have B6 := hid b6; have H6 := hid h6
           clear o4 r4 o5 g5 b5 b6 h6))
      go_roundw
      case rel => exact ⟨k + 1, a5, c5, by omega, by go_num, rfl, by have := O6.out; rw [HSN.out, tabC_append, tabC_one']; exact this, H6.out, B6.out, z6⟩
      case measure => simp [intOf]; omega
    · obtain rfl : k = 16 := by omega
      rw [List.take_of_length_le (by rw [HT.out]; omega)] at HO
      have dk : decide (((16 : Nat) : Int) < 16) = false := by decide
      obtain ⟨g, rfl⟩ := own_someO HO.out (by omega)
      go_wp2_with fail
      go_ret
      exact ⟨g, c1, rfl, HO.out.low (by omega), HBL.out⟩

set_option maxHeartbeats 1000000 in
theorem sameE_any (t : List EntT) (ht : t.length = 16) (a b : Option Addr) (c d : Nat) (w : World) (ha : Row w 2 a 16 c (tabC t)) (hb : Row w 2 b 16 d (tabC t)) :
    Calls Try.prog 18 #[.slice a 16 c, .slice b 16 d] w fun e w' => e = .returned (.bool true) ∧ Below w.heap.size w w' := by
  have HT := hid ht
  have HA := hid (show RowE w a c t by unfold RowE; rw [ht]; exact ha)
  have HB := hid (show RowE w b d t by unfold RowE; rw [ht]; exact hb)
  clear ha hb ht
  go_enter Try.func18, Try.ntmps18
  go_wp2_with fail
  go_loopw [5] (fun i wr => ∃ k : Nat, k ≤ 16 ∧ i = .int .i64 k ∧ Below w.heap.size w wr) (fun i _ => 16 - (intOf i).toNat)
  case atStart => exact ⟨0, by omega, rfl, Below.refl _ _⟩
  case round =>
    obtain ⟨k, hk, rfl, hbl⟩ := hrel
    by_cases hk16 : k < 16
    · have hkt : k < t.length := by rw [HT.out]; exact hk16
      obtain ⟨ba, oa, rfl, hba, hca⟩ := rowE_cells (HA.out.mono hbl) (by omega)
      obtain ⟨bb, ob, rfl, hbb, hcb⟩ := rowE_cells (HB.out.mono hbl) (by omega)
      obtain ⟨a0, a1⟩ := hca k hkt
      obtain ⟨b0, b1⟩ := hcb k hkt
      have E := eqEntD t[k].nm t[k].nm t[k].ino t[k].ino
      rw [decide_eq_true ⟨rfl, rfl⟩] at E
      have ik : (k : Int) < 16 := by omega
      have dk : decide ((k : Int) < 16) = true := decide_eq_true ik
      clear hca hcb
      generalize t[k].nm = nm at *
      generalize t[k].ino = ino at *
      have HBL := hid hbl
      clear hbl
      go_wp2
      go_quiet (fail)
      go_wp2
      go_roundw
      case rel => exact ⟨k + 1, by omega, by go_num, bel_drewN HBL.out _⟩
      case measure => simp [intOf]; omega
    · obtain rfl : k = 16 := by omega
      have dk : decide (((16 : Nat) : Int) < 16) = false := by decide
      go_wp2_with fail
      go_ret
      exact ⟨rfl, hbl⟩
end Go.Proofs.Ytejfkjfidhdfaaa
