/- Slices of ints. -/
import Derived.Test.YtcgekooahahjpaaLib
namespace Go.Proofs.Ytcgekooahahjpaa
open Go.RowKit
set_option linter.unusedSimpArgs false
set_option linter.unusedVariables false

/-- an int as the model holds it -/
def iV (n : Int) : Value := .int .i64 n
abbrev RowI (w : World) (a : Option Addr) (c : Nat) (A : List Int) : Prop := Row w 1 a A.length c (A.map iV)
theorem rowI_len {w : World} {a : Option Addr} {c : Nat} {A : List Int} (h : RowI w a c A) : A.length ≤ 9223372036854775807 := by
  have h1 := h.2.1; have h2 := h.2.2.1; unfold maxLen at h2; omega
/-- From the shell's word on a slice of ints that came in to ours. -/
theorem rowI_of {w : World} {a : Option Addr} {len cap : Nat} {zs : List Int}
    (h : (a = none ∧ len = 0 ∧ cap = 0 ∧ zs = []) ∨
      ∃ x, a = some x ∧ len ≤ cap ∧ cap ≤ maxLen ∧ zs.length = cap ∧ (∀ i, i < zs.length → w.cell? (x.add i) = some (.int .i64 (zs.getD i 0))) ∧ ∀ n ∈ zs, (Lit.int .i64 n).wf = true) :
    ∃ xs : List Int, len = xs.length ∧ RowI w a cap xs := by
  rcases h with ⟨rfl, rfl, rfl, _⟩ | ⟨x, rfl, h1, h2, h3, h4, h5⟩
  · exact ⟨[], rfl, Row.nil _ _⟩
  · refine ⟨zs.take len, by simp; omega, by simp, by simp; omega, h2, (fun h => by cases h), fun hn => ?_⟩
    have hn' : 0 < zs.length := by simp at hn; omega
    have c0 := h4 0 hn'
    have hsp : x.spot = none := by
      unfold World.cell? Addr.add at c0
      cases hs : x.spot with
      | none => rfl
      | some q => simp [hs] at c0; split at c0 <;> simp_all
    have hx : x = ⟨x.block, x.off, none⟩ := by cases x; simp at hsp; simp [hsp]
    refine ⟨x.block, x.off, by rw [← hx], World.block_lt_of_cell? w x (u := .int .i64 (zs.getD 0 0)) (by simpa [Addr.add] using c0), fun j u hu => ?_⟩
    have hj : j < (zs.take len).length := by
      have := (List.getElem?_eq_some_iff.1 hu).1
      simpa using this
    have hj2 : j < zs.length := by simp at hj; omega
    have hc := h4 j hj2
    have ea : x.add j = ⟨x.block, x.off + j, none⟩ := by
      unfold Addr.add
      split
      · subst j; rw [Nat.add_zero, ← hx]
      · rfl
    rw [ea] at hc
    rw [hc]
    have hjl : j < len := by simp at hj; omega
    simp [List.getElem?_take, hjl, hj2, iV] at hu
    rw [← hu]; simp [hj2]
theorem rowI_cells {w : World} {a : Option Addr} {c : Nat} {A : List Int} (h : RowI w a c A) (hn : 0 < A.length) :
    ∃ b off, a = some ⟨b, off, none⟩ ∧ b < w.heap.size ∧ ∀ i, i < A.length → w.cell? ⟨b, off + i, none⟩ = some (.int .i64 (A.getD i 0)) := by
  obtain ⟨b, off, e, hlt, hc⟩ := h.at hn
  exact ⟨b, off, e, hlt, fun i hi => hc i _ (by simp [hi, iV])⟩
theorem listI_ext {A B : List Int} (h : A.length = B.length) (k : ∀ i, i < B.length → A.getD i 0 = B.getD i 0) : A = B := by
  apply List.ext_getElem h
  intro i h1 h2
  have := k i h2
  simpa [h1, h2] using this

set_option maxHeartbeats 1000000 in
theorem sameInts_any (a b : Option Addr) (c d : Nat) (xs ys : List Int) (w : World) (ha : RowI w a c xs) (hb : RowI w b d ys) :
    Calls Try.prog 31 #[.slice a xs.length c, .slice b ys.length d] w fun e w' => e = .returned (.bool (decide (xs = ys))) ∧ Below w.heap.size w w' := by
  have hl := rowI_len ha
  have hm := rowI_len hb
  by_cases hne : xs.length = ys.length
  · rw [hne]
    have hne2 := hid hne
    clear hne
    go_enter Try.func31, Try.ntmps31
    go_wp2
    go_loopw [5] (fun i wr => ∃ j : Nat, j ≤ ys.length ∧ i = .int .i64 j ∧ (∀ i, i < j → xs.getD i 0 = ys.getD i 0) ∧ Below w.heap.size w wr)
      (fun i _ => ys.length - (intOf i).toNat)
    case atStart => exact ⟨0, Nat.zero_le _, rfl, fun i h => absurd h (by omega), Below.refl _ _⟩
    case round =>
      obtain ⟨j, hj, rfl, hp, hbel⟩ := hrel
      have HP := hid hp; clear hp
      by_cases hlt : j < ys.length
      · obtain ⟨ba, oa, rfl, hba, hca⟩ := rowI_cells (ha.mono hbel) (by have := hne2.out; omega)
        obtain ⟨bb, ob, rfl, hbb, hcb⟩ := rowI_cells (hb.mono hbel) (by omega)
        have ca := hca j (by have := hne2.out; omega)
        have cb := hcb j hlt
        clear hca hcb ha hb
        have hlt' : (j : Int) < (ys.length : Int) := by omega
        generalize hxa : xs.getD j 0 = xj at *
        generalize hyb : ys.getD j 0 = yj at *
        have HX0 := hid hxa; have HY0 := hid hyb
        clear hxa hyb
        by_cases hxy : xj = yj
        · have HX := hid hxy
          rw [hxy] at ca
          clear hxy
          go_wp2
          go_quiet (fail)
          go_wp2
          go_roundw
          case rel => exact ⟨j + 1, by omega, by go_num, fun i hi => (by rcases Nat.lt_succ_iff_lt_or_eq.1 hi with h | rfl; exact HP.out i h; rw [HX0.out, HY0.out]; exact HX.out), bel_drewN hbel _⟩
          case measure => simp [intOf]; omega
        · have hxy' : (xj != yj) = true := by simp; omega
          have HX := hid hxy
          clear hxy
          go_wp2
          go_quiet (fail)
          go_wp2
          go_ret
          exact ⟨ret_bool (decide_eq_false (by rintro rfl; exact HX.out (HX0.out.symm.trans HY0.out))).symm, bel_drewN hbel _⟩
      · obtain rfl : j = ys.length := by omega
        go_wp2
        go_ret
        exact ⟨ret_bool (decide_eq_true (listI_ext hne2.out HP.out)).symm, hbel⟩
  · go_enter Try.func31, Try.ntmps31
    go_wp2
    go_ret
    exact ⟨ret_bool (by simp; intro h; exact hne (by rw [h])), Below.refl _ _⟩

end Go.Proofs.Ytcgekooahahjpaa
