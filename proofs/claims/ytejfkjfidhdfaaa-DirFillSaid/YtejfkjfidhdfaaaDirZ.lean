/- A block of a table: used? Texts that are the same. -/
import Derived.Test.YtejfkjfidhdfaaaDirY
import Derived.Test.YtejfkjfidhdfaaaDirM
namespace Go.Proofs.Ytejfkjfidhdfaaa
open Go.RowKit Go.Shelf
set_option linter.unusedSimpArgs false
set_option linter.unusedVariables false

set_option maxHeartbeats 1000000 in
theorem sameS12_any (L : List ByteArray) (a b : Option Addr) (c d : Nat) (w : World) (ha : RowS w a c L) (hb : RowS w b d L) :
    Calls Try.prog 22 #[.slice a L.length c, .slice b L.length d] w fun e w' => e = .returned (.bool true) ∧ Below w.heap.size w w' := by
  have HA := hid ha; have HB := hid hb
  have hl := rowS_len ha
  clear ha hb
  go_enter Try.func22, Try.ntmps22
  go_wp2_with fail
  go_loopw [5] (fun i wr => ∃ k : Nat, k ≤ L.length ∧ i = .int .i64 k ∧ Below w.heap.size w wr) (fun i _ => L.length - (intOf i).toNat)
  case atStart => exact ⟨0, by omega, rfl, Below.refl _ _⟩
  case round =>
    obtain ⟨k, hk, rfl, hbl⟩ := hrel
    by_cases hk16 : k < L.length
    · obtain ⟨ba, oa, rfl, hba, hca⟩ := rowS_cells (HA.out.mono hbl) (by omega)
      obtain ⟨bb, ob, rfl, hbb, hcb⟩ := rowS_cells (HB.out.mono hbl) (by omega)
      have a0 := hca k hk16
      have b0 := hcb k hk16
      have ik : (k : Int) < L.length := by omega
      have dk : decide ((k : Int) < (L.length : Int)) = true := decide_eq_true ik
      clear hca hcb
      generalize L[k] = x at *
      have HBL := hid hbl
      clear hbl
      go_wp2
      go_quiet (fail)
      go_wp2
      go_roundw
      case rel => exact ⟨k + 1, by omega, by go_num, bel_drewN HBL.out _⟩
      case measure => simp [intOf]; omega
    · obtain rfl : k = L.length := by omega
      have dk : decide ((L.length : Int) < (L.length : Int)) = false := decide_eq_false (by omega)
      go_wp2_with fail
      go_ret
      exact ⟨rfl, hbl⟩

def nzE (e : EntT) : Bool := !decide (e.nm = ⟨#[]⟩ ∧ e.ino = 0)
def usedT (t : List EntT) (k : Int) : Bool := decide (0 ≤ k ∧ k < 4) && ((t.drop (4 * k.toNat)).take 4).any nzE
theorem any_snocE {es : List EntT} {j : Nat} (hj : j < es.length) : (es.take (j + 1)).any nzE = ((es.take j).any nzE || nzE es[j]) := by
  rw [List.take_succ_eq_append_getElem hj, List.any_append]; simp

set_option maxHeartbeats 1000000 in
set_option maxRecDepth 100000 in
theorem tused_any (t : List EntT) (ht : t.length = 16) (k : Int) (w : World) : Calls Try.prog 25 #[.agg (tabC t).toArray, .int .i64 k] w fun e w' => e = .returned (.bool (usedT t k)) ∧ Below w.heap.size w w' := by
  have HT := hid ht
  have K0 := hid (blk_newO (W := w) rfl 26 (tabC t))
  have B0 := hid (albO w (.cells (tabC t).toArray 26))
  have SZ := hid (show (w.alloc (.cells (tabC t).toArray 26)).heap.size = w.heap.size + 1 by simp)
  clear ht
  by_cases hk : 0 ≤ k ∧ k < 4
  · obtain ⟨q, rfl⟩ : ∃ q : Nat, k = q := ⟨k.toNat, by omega⟩
    have hq : q < 4 := by omega
    have hr : usedT t (q : Int) = ((t.drop (4 * q)).take 4).any nzE := by unfold usedT; rw [decide_eq_true hk]; rfl
    have HIB := fun w1 => isBlock_any (q : Int) w1
    rw [decide_eq_true hk] at HIB
    have HIB := hid HIB
    have q4 : (q : Int) < 4 := by omega
    clear hk
    obtain ⟨es, hes⟩ : ∃ es, es = (t.drop (4 * q)).take 4 := ⟨_, rfl⟩
    rw [← hes] at hr
    rw [hr]
    have hel : es.length = 4 := by rw [hes, List.length_take, List.length_drop, HT.out]; omega
    have hget : ∀ j (h : j < es.length), ∃ h' : 4 * q + j < t.length, es[j] = t[4 * q + j] := fun j h => ⟨by rw [HT.out]; omega, by subst hes; simp⟩
    have HG := hid hget; have HEL := hid hel
    clear hes hget hel hr
    have hsl := fun w1 => slice_tab w.heap.size q hq w1
    obtain ⟨r, hr⟩ : ∃ r, r = es.any nzE := ⟨_, rfl⟩
    rw [← hr]
    have HR := hid hr
    clear hr
    go_enter Try.func25, Try.ntmps25
    go_wp2_with (go_at_call 36; refine (HIB.out _).mono ?_; rintro e w1 ⟨rfl, rfl⟩)
    go_loopw [17] (fun i wr => ∃ (j : Nat), j ≤ 4 ∧ i = .int .i64 j ∧ (es.take j).any nzE = false ∧ Blk wr w.heap.size 26 (tabC t) ∧ Below w.heap.size w wr) (fun i _ => 4 - (intOf i).toNat)
    case atStart => exact ⟨0, by omega, rfl, rfl, K0.out, B0.out⟩
    case round =>
      obtain ⟨j, hj, rfl, hno, hb0, hbl⟩ := hrel
      clear K0 B0 SZ hsl
      have HB0 := hid hb0; have HBL := hid hbl; have HNO := hid hno
      clear hb0 hbl hno
      by_cases hj4 : j < 4
      · have ij : (j : Int) < 4 := by omega
        have dj : decide ((j : Int) < 4) = true := decide_eq_true ij
        have hje : j < es.length := by rw [HEL.out]; exact hj4
        obtain ⟨ht4, hte⟩ := HG.out j hje
        have ck := tabC_get t (4 * q + j) ht4
        obtain ⟨hq0, hv0⟩ := List.getElem?_eq_some_iff.1 ck.1
        obtain ⟨hq1, hv1⟩ := List.getElem?_eq_some_iff.1 ck.2
        have c0 : wr.cell? ⟨w.heap.size, 8 * q + j * 2, none⟩ = some (.string es[j].nm) := by rw [hte, show 8 * q + j * 2 = 2 * (4 * q + j) by omega, HB0.out.cell (i := 2 * (4 * q + j)) hq0, hv0]
        have c1' : wr.cell? ⟨w.heap.size, 8 * q + j * 2 + 1, none⟩ = some (.int .i64 es[j].ino) := by rw [hte, show 8 * q + j * 2 + 1 = 2 * (4 * q + j) + 1 by omega, HB0.out.cell (i := 2 * (4 * q + j) + 1) hq1, hv1]
        have hsn := any_snocE hje
        rw [HNO.out, Bool.false_or] at hsn
        have hyes : nzE es[j] = true → es.any nzE = true := fun h => List.any_eq_true.2 ⟨es[j], List.getElem_mem _, h⟩
        have E := eqEntD es[j].nm ⟨#[]⟩ es[j].ino 0
        have hnz : nzE es[j] = !decide (es[j].nm = ⟨#[]⟩ ∧ es[j].ino = 0) := rfl
        rw [hnz] at hsn hyes
        have HSN := hid hsn; have HY := hid hyes
        clear hsn hyes hte ck hq0 hq1 hv0 hv1 hnz
        generalize es[j].nm = nm at *
        generalize es[j].ino = ino at *
        have HB1 := hid (HB0.out.mono (albO wr (.cells #[.string nm, .int .i64 ino] 24)))
        have HL1 := hid (HBL.out.alloc HBL.out.size (.cells #[.string nm, .int .i64 ino] 24))
        by_cases hz : nm = ⟨#[]⟩ ∧ ino = 0
        · rw [decide_eq_true hz] at E HSN
          clear hz
          go_wp2_with fail
          go_roundw
          case rel => exact ⟨j + 1, by omega, by go_num, HSN.out, HB1.out, HL1.out⟩
          case measure => simp [intOf]; omega
        · rw [decide_eq_false hz] at E HY
          have HF := hid (HR.out.trans (HY.out rfl))
          clear hz
          go_wp2_with fail
          go_ret
          exact ⟨ret_bool HF.out.symm, HL1.out⟩
      · obtain rfl : j = 4 := by omega
        have dj : decide (((4 : Nat) : Int) < 4) = false := by decide
        rw [List.take_of_length_le (by rw [HEL.out]; omega)] at HNO
        have HF := hid (HR.out.trans HNO.out)
        go_wp2_with fail
        go_ret
        exact ⟨ret_bool HF.out.symm, HBL.out⟩
  · have hr : usedT t k = false := by unfold usedT; rw [decide_eq_false hk]; rfl
    rw [hr]
    have HIB := fun w1 => isBlock_any k w1
    rw [decide_eq_false hk] at HIB
    have HIB := hid HIB
    clear hk hr
    go_enter Try.func25, Try.ntmps25
    go_wp2_with (go_at_call 36; refine (HIB.out _).mono ?_; rintro e w1 ⟨rfl, rfl⟩)
    go_ret
    exact ⟨rfl, B0.out⟩
end Go.Proofs.Ytejfkjfidhdfaaa
