/- A slice of slices of bytes that came in. -/
import Derived.Test.YtoagjlaoboldgaaLib
import Derived.Deep.Matrix
namespace Go.Proofs.Ytoagjlaoboldgaa
open Go.RowKit
set_option linter.unusedSimpArgs false
set_option linter.unusedVariables false

/-- slices of bytes that can be read: each its address, its capacity, its bytes -/
def RowBB (w : World) (a : Option Addr) (c : Nat) (l : List (Option Addr × Nat × List UInt8)) : Prop :=
  Row w 1 a l.length c (l.map fun p => .slice p.1 p.2.2.length p.2.1) ∧ ∀ p ∈ l, RowB w p.1 p.2.1 p.2.2

theorem rowBB_of {w : World} {x : Addr} {len cap base : Nat} {A : Nat → Option Addr} {L C : Nat → Nat} {Z : Nat → List Int} (hl : len ≤ cap) (hm : cap ≤ maxLen)
    (h : ∀ r, r < cap → w.cell? (x.add r) = some (.slice (A r) (L r) (C r)) ∧ L r ≤ C r ∧ C r ≤ maxLen ∧ (Z r).length = C r ∧ (∀ n ∈ Z r, (Lit.int .u8 n).wf = true) ∧ (A r = none → C r = 0) ∧
        ∀ a', A r = some a' → base ≤ a'.block ∧ ∀ c, c < C r → w.cell? (a'.add c) = some (.int .u8 ((Z r).getD c 0))) :
    ∃ l, len = List.length l ∧ RowBB w (some x) cap l := by
  have each : ∀ r, r < cap → ∃ xs : List UInt8, L r = xs.length ∧ RowB w (A r) (C r) xs := fun r hr => by
    obtain ⟨h1, h2, h3, h4, h5, h6, h7⟩ := h r hr
    cases ha : A r with
    | none =>
      have hc := h6 ha
      exact rowB_of (zs := []) (.inl ⟨rfl, by omega, hc, rfl⟩)
    | some a' => exact rowB_of (zs := Z r) (.inr ⟨a', rfl, h2, h3, h4, fun i hi => (h7 a' ha).2 i (by omega), h5⟩)
  have pick : ∀ n, n ≤ cap → ∃ l : List (Option Addr × Nat × List UInt8), l.length = n ∧ (∀ j p, l[j]? = some p → w.cell? (x.add j) = some (.slice p.1 p.2.2.length p.2.1)) ∧ ∀ p ∈ l, RowB w p.1 p.2.1 p.2.2 := by
    intro n
    induction n with
    | zero => intro _; exact ⟨[], rfl, by simp, by simp⟩
    | succ n ih =>
      intro hn
      obtain ⟨l, e, hc, hr⟩ := ih (by omega)
      obtain ⟨xs, e1, e2⟩ := each n (by omega)
      refine ⟨l ++ [(A n, C n, xs)], by simp [e], fun j p hj => ?_, fun p hp => ?_⟩
      · rw [List.getElem?_append] at hj
        split at hj
        · exact hc j p hj
        · next hge =>
          have hj0 : j = n := by
            have := (List.getElem?_eq_some_iff.1 hj).1
            simp at this; omega
          subst hj0
          rw [e, Nat.sub_self] at hj
          simp at hj; subst hj
          rw [(h j (by omega)).1, e1]
      · rcases List.mem_append.1 hp with h1 | h1
        · exact hr p h1
        · simp at h1; subst h1; exact e2
  obtain ⟨l, e, hc, hr⟩ := pick len hl
  refine ⟨l, e.symm, ⟨by simp, by omega, hm, (fun h => by cases h), fun hn => ?_⟩, hr⟩
  have hn' : 0 < len := by omega
  have c0 := (h 0 (by omega)).1
  have hsp : x.spot = none := by
    unfold World.cell? Addr.add at c0
    cases hs : x.spot with
    | none => rfl
    | some q => simp [hs] at c0; split at c0 <;> simp_all
  have hx : x = ⟨x.block, x.off, none⟩ := by cases x; simp at hsp; simp [hsp]
  refine ⟨x.block, x.off, by rw [← hx], World.block_lt_of_cell? w x (u := .slice (A 0) (L 0) (C 0)) (by simpa [Addr.add] using c0), fun j u hu => ?_⟩
  rw [List.getElem?_map] at hu
  cases hj : l[j]? with
  | none => rw [hj] at hu; simp at hu
  | some p =>
    rw [hj] at hu; simp at hu; subst hu
    have := hc j p hj
    have ea : x.add j = ⟨x.block, x.off + j, none⟩ := by
      unfold Addr.add
      split
      · subst j; rw [Nat.add_zero, ← hx]
      · rfl
    rwa [ea] at this

theorem RowBB.mono {w w' : World} {a : Option Addr} {c : Nat} {l : List (Option Addr × Nat × List UInt8)} (h : RowBB w a c l) (hb : Below w.heap.size w w') : RowBB w' a c l :=
  ⟨h.1.mono hb, fun p hp => (h.2 p hp).mono hb⟩

end Go.Proofs.Ytoagjlaoboldgaa
