/- What the parts are (pure), and the document's words on them. -/
import Derived.Test.YtikakpdbokcbnaaLayF
namespace Go.Proofs.Ytikakpdbokcbnaa
open Go.RowKit
set_option linter.unusedSimpArgs false
set_option linter.unusedVariables false

def kindsP (p : PartT) : Prop := (p.k = 1 ∧ p.n = 0 ∧ p.a = 0 ∧ p.s = 64) ∨ (p.k = 2 ∧ 1 ≤ p.n ∧ p.n ≤ 8 ∧ p.a = 64 + (p.n - 1) * 64 ∧ p.s = 64) ∨ (p.k = 3 ∧ p.n = 0 ∧ p.a = 576 ∧ p.s = 64) ∨ (p.k = 4 ∧ 1 ≤ p.n ∧ p.n ≤ 32 ∧ p.a = 640 + (p.n - 1) * 64 ∧ p.s = 64) ∨ (p.k = 5 ∧ p.n = 0 ∧ p.a = 2688 ∧ p.s = 4096) ∨ (p.k = 6 ∧ 1 ≤ p.n ∧ p.n ≤ 8 ∧ p.a = 6784 + (p.n - 1) * 1024 ∧ p.s = 1024) ∨ (p.k = 7 ∧ 1 ≤ p.n ∧ p.n ≤ 128 ∧ p.a = 14976 + (p.n - 1) * 64 ∧ p.s = 64)
instance (p : PartT) : Decidable (kindsP p) := by unfold kindsP; infer_instance
theorem parts_kinds : ∀ p ∈ partsL, kindsP p := by decide +kernel
theorem part_ext {p q : PartT} (h0 : p.k = q.k) (h1 : p.n = q.n) (h2 : p.a = q.a) (h3 : p.s = q.s) : p = q := by
  cases p; cases q; simp only at *; subst h0 h1 h2 h3; rfl
def apartB (p q : PartT) : Bool := decide (p.a + p.s ≤ q.a) || decide (q.a + q.s ≤ p.a) || (decide (p.k = q.k) && decide (p.n = q.n))
theorem parts_apartB : (partsL.all fun p => partsL.all fun q => apartB p q) = true := by decide +kernel
theorem parts_same {p q : PartT} (hp : p ∈ partsL) (hq : q ∈ partsL) (hk : p.k = q.k) (hn : p.n = q.n) : p = q := by
  have h1 := parts_kinds p hp
  have h2 := parts_kinds q hq
  unfold kindsP at h1 h2
  rw [← hk, ← hn] at h2
  refine part_ext hk hn ?_ ?_ <;> omega
theorem parts_one {p q : PartT} (hp : p ∈ partsL) (hq : q ∈ partsL) {at_ : Int} (h1 : inF p at_ 1 = true) (h2 : inF q at_ 1 = true) : p = q := by
  have h := List.all_eq_true.1 (List.all_eq_true.1 parts_apartB p hp) q hq
  unfold inF at h1 h2
  have h1 := of_decide_eq_true h1
  have h2 := of_decide_eq_true h2
  unfold apartB at h
  simp only [Bool.or_eq_true, Bool.and_eq_true, decide_eq_true_eq] at h
  rcases h with (h | h) | ⟨h, h'⟩
  · omega
  · omega
  · exact parts_same hp hq h h'
theorem ofP_some {q : PartT} (hq : q ∈ partsL) {at_ : Int} (h : inF q at_ 1 = true) : ofP at_ = some q := by
  unfold ofP
  cases hf : partsL.find? (fun x => inF x at_ 1) with
  | none => exact absurd h (by rw [List.find?_eq_none] at hf; exact hf q hq)
  | some x => rw [parts_one (List.mem_of_find?_eq_some hf) hq (List.find?_some (p := fun x => inF x at_ 1) hf) h]
theorem ofP_mem {q : PartT} {at_ : Int} (h : ofP at_ = some q) : q ∈ partsL ∧ inF q at_ 1 = true := ⟨List.mem_of_find?_eq_some h, List.find?_some (p := fun x => inF x at_ 1) h⟩
theorem findP_mem {q : PartT} {kd nm : Int} (h : findP kd nm = some q) : q ∈ partsL ∧ q.k = kd ∧ q.n = nm := by
  have h1 := List.find?_some h
  exact ⟨List.mem_of_find?_eq_some h, of_decide_eq_true h1⟩
theorem findP_some {q : PartT} (hq : q ∈ partsL) : findP q.k q.n = some q := by
  cases hf : findP q.k q.n with
  | none =>
    unfold findP at hf
    rw [List.find?_eq_none] at hf
    exact absurd (decide_eq_true ⟨rfl, rfl⟩) (hf q hq)
  | some x =>
    obtain ⟨h1, h2, h3⟩ := findP_mem hf
    rw [parts_same h1 hq h2 h3]
theorem findP_none {kd nm : Int} (h : ∀ p : PartT, kindsP p → p.k = kd → p.n = nm → False) : findP kd nm = none := by
  cases hf : findP kd nm with
  | none => rfl
  | some x =>
    obtain ⟨h1, h2, h3⟩ := findP_mem hf
    exact (h x (parts_kinds x h1) h2 h3).elim
theorem mem_row {k T s : Int} {c : Nat} {n : Int} (h1 : 1 ≤ n) (h2 : n ≤ c) : (⟨k, n, T + (n - 1) * s, s⟩ : PartT) ∈ rowL k T s c := by
  unfold rowL
  rw [List.mem_map]
  refine ⟨(n - 1).toNat, by rw [List.mem_range]; omega, ?_⟩
  have : ((n - 1).toNat : Int) = n - 1 := by omega
  rw [this]
  refine part_ext rfl ?_ rfl rfl
  show n - 1 + 1 = n
  omega
theorem ofP_none {at_ : Int} (h : ∀ p : PartT, kindsP p → inF p at_ 1 = true → False) : ofP at_ = none := by
  cases hf : ofP at_ with
  | none => rfl
  | some x =>
    obtain ⟨h1, h2⟩ := ofP_mem hf
    exact (h x (parts_kinds x h1) h2).elim
theorem mem_1 : (⟨1, 0, 0, 64⟩ : PartT) ∈ partsL := by unfold partsL; exact List.mem_append.2 (.inl (List.mem_append.2 (.inl (List.mem_append.2 (.inl (List.mem_append.2 (.inl (List.mem_append.2 (.inl (List.mem_append.2 (.inl (List.mem_append.2 (.inr (List.mem_singleton.2 rfl))))))))))))))
theorem mem_2 {n : Int} (h1 : 1 ≤ n) (h2 : n ≤ 8) : (⟨2, n, 64 + (n - 1) * 64, 64⟩ : PartT) ∈ partsL := by unfold partsL; exact List.mem_append.2 (.inl (List.mem_append.2 (.inl (List.mem_append.2 (.inl (List.mem_append.2 (.inl (List.mem_append.2 (.inl (List.mem_append.2 (.inr (mem_row h1 h2))))))))))))
theorem mem_3 : (⟨3, 0, 576, 64⟩ : PartT) ∈ partsL := by unfold partsL; exact List.mem_append.2 (.inl (List.mem_append.2 (.inl (List.mem_append.2 (.inl (List.mem_append.2 (.inl (List.mem_append.2 (.inr (List.mem_singleton.2 rfl))))))))))
theorem mem_4 {n : Int} (h1 : 1 ≤ n) (h2 : n ≤ 32) : (⟨4, n, 640 + (n - 1) * 64, 64⟩ : PartT) ∈ partsL := by unfold partsL; exact List.mem_append.2 (.inl (List.mem_append.2 (.inl (List.mem_append.2 (.inl (List.mem_append.2 (.inr (mem_row h1 h2))))))))
theorem mem_5 : (⟨5, 0, 2688, 4096⟩ : PartT) ∈ partsL := by unfold partsL; exact List.mem_append.2 (.inl (List.mem_append.2 (.inl (List.mem_append.2 (.inr (List.mem_singleton.2 rfl))))))
theorem mem_6 {n : Int} (h1 : 1 ≤ n) (h2 : n ≤ 8) : (⟨6, n, 6784 + (n - 1) * 1024, 1024⟩ : PartT) ∈ partsL := by unfold partsL; exact List.mem_append.2 (.inl (List.mem_append.2 (.inr (mem_row h1 h2))))
theorem mem_7 {n : Int} (h1 : 1 ≤ n) (h2 : n ≤ 128) : (⟨7, n, 14976 + (n - 1) * 64, 64⟩ : PartT) ∈ partsL := by unfold partsL; exact List.mem_append.2 (.inr (mem_row h1 h2))
theorem parts_64 : ∀ p ∈ partsL, p.a % 64 = 0 := by decide +kernel
def wholeB (p : PartT) : Bool := if p.a + p.s = 23168 then (ofP 23168).isNone else match ofP (p.a + p.s) with | none => false | some q => decide (q.a = p.a + p.s)
theorem parts_whole : partsL.all wholeB = true := by decide +kernel

end Go.Proofs.Ytikakpdbokcbnaa
