import Derived.Test.YtnmblbkbiehodaaInoG
namespace Go.Proofs.Ytnmblbkbiehodaa
open Go.RowKit Go.WideShapes
set_option linter.unusedSimpArgs false
set_option linter.unusedVariables false

theorem tw_iff (n0 n1 n2 n3 : Nat) : tw n0 n1 n2 n3 = true ↔ (n1 ≠ 0 ∧ n1 = n0) ∨ (n2 ≠ 0 ∧ (n2 = n1 ∨ n2 = n0)) ∨ (n3 ≠ 0 ∧ (n3 = n2 ∨ n3 = n1 ∨ n3 = n0)) := by
  unfold tw twC
  simp only [Bool.or_eq_true, Bool.and_eq_true, bne_iff_ne, decide_eq_true_eq, List.mem_cons, List.not_mem_nil, or_false, and_false, false_or, or_assoc]
/-- what the document's May looks for -/
def goodB (i : InoT) : Prop := (0 ≤ i.b0 ∧ i.b0 ≤ 128) ∧ (0 ≤ i.b1 ∧ i.b1 ≤ 128) ∧ (0 ≤ i.b2 ∧ i.b2 ≤ 128) ∧ (0 ≤ i.b3 ∧ i.b3 ≤ 128)
def goodD (i : InoT) : Prop := ¬ (i.b0 ≠ 0 ∧ i.b0 = i.b1) ∧ ¬ (i.b0 ≠ 0 ∧ i.b0 = i.b2) ∧ ¬ (i.b1 ≠ 0 ∧ i.b1 = i.b2) ∧ ¬ (i.b0 ≠ 0 ∧ i.b0 = i.b3) ∧ ¬ (i.b1 ≠ 0 ∧ i.b1 = i.b3) ∧ ¬ (i.b2 ≠ 0 ∧ i.b2 = i.b3)
def goodO1 (k n : Int) : Prop := 0 ≤ n ∧ n ≤ 8 ∧ (k ≠ 1 → n = 0)
def goodO (i : InoT) : Prop := goodO1 i.k i.o0 ∧ goodO1 i.k i.o1 ∧ goodO1 i.k i.o2 ∧ goodO1 i.k i.o3 ∧ goodO1 i.k i.o4 ∧ goodO1 i.k i.o5 ∧ goodO1 i.k i.o6 ∧ goodO1 i.k i.o7
def goodF1 (j n s : Int) : Prop := (n ≠ 0 ↔ j < s)
def goodF (i : InoT) : Prop := goodF1 0 i.b0 i.s ∧ goodF1 64 i.b1 i.s ∧ goodF1 128 i.b2 i.s ∧ goodF1 192 i.b3 i.s
theorem okB_iff (j n s : Int) : okB j n s = true ↔ goodF1 j n s ∧ 0 ≤ n ∧ n ≤ 128 := by
  unfold okB goodF1
  rw [Bool.and_eq_true, decide_eq_true_eq, beq_iff_eq]
  by_cases h1 : j < s <;> by_cases h2 : n = 0 <;> simp [h1, h2]
theorem okO_iff (n : Int) : okO n = true ↔ 0 ≤ n ∧ n ≤ 8 := by unfold okO; rw [decide_eq_true_eq]
theorem twI_iff {i : InoT} (hB : goodB i) : twI i = false ↔ goodD i := by
  unfold goodB at hB
  have h := tw_iff i.b0.toNat i.b1.toNat i.b2.toNat i.b3.toNat
  have e : twI i = tw i.b0.toNat i.b1.toNat i.b2.toNat i.b3.toNat := rfl
  rw [e]
  unfold goodD
  cases ht : tw i.b0.toNat i.b1.toNat i.b2.toNat i.b3.toNat
  · rw [ht] at h
    simp only [Bool.false_eq_true, false_iff, not_or] at h
    simp only [true_iff]
    omega
  · rw [ht] at h
    simp only [true_iff] at h
    simp only [Bool.true_eq_false, false_iff]
    omega
theorem mayI_file {i : InoT} (hk : i.k = 1) : mayI i = true ↔ (0 ≤ i.l ∧ i.l ≤ 20 ∧ 0 ≤ i.s ∧ i.s ≤ 256) ∧ goodB i ∧ goodD i ∧ goodO i ∧ goodF i := by
  have hM : mayI i = (mFile i && !twI i) := by unfold mayI; rw [if_neg (by omega), if_pos hk]
  rw [hM, Bool.and_eq_true]
  unfold mFile fileHead fileB fileO
  simp only [Bool.and_eq_true, decide_eq_true_eq, okB_iff, okO_iff, Bool.not_eq_true']
  constructor
  · rintro ⟨⟨⟨h1, h2⟩, h3⟩, h4⟩
    have hB : goodB i := by unfold goodB; omega
    refine ⟨h1, hB, (twI_iff hB).1 h4, ?_, ?_⟩
    · unfold goodO goodO1; omega
    · exact ⟨h2.1.1.1.1, h2.1.1.2.1, h2.1.2.1, h2.2.1⟩
  · rintro ⟨h1, hB, hD, hO, hF⟩
    have h4 := (twI_iff hB).2 hD
    unfold goodB at hB
    unfold goodO goodO1 at hO
    unfold goodF at hF
    exact ⟨⟨⟨h1, ⟨⟨⟨⟨hF.1, hB.1⟩, ⟨hF.2.1, hB.2.1⟩⟩, ⟨hF.2.2.1, hB.2.2.1⟩⟩, ⟨hF.2.2.2, hB.2.2.2⟩⟩⟩, by omega⟩, h4⟩
theorem mayI_dir {i : InoT} (hk : i.k = 2) : mayI i = true ↔ (i.l = 1 ∧ 0 ≤ i.s ∧ i.s ≤ 16) ∧ goodB i ∧ goodD i ∧ goodO i := by
  have hM : mayI i = (mDir i && !twI i) := by unfold mayI; rw [if_neg (by omega), if_neg (by omega), if_pos hk]
  rw [hM, Bool.and_eq_true]
  unfold mDir dirHead noO okN
  simp only [Bool.and_eq_true, decide_eq_true_eq, Bool.not_eq_true', List.cons.injEq, and_true]
  constructor
  · rintro ⟨⟨⟨h1, h2⟩, h3⟩, h4⟩
    have hB : goodB i := by unfold goodB; omega
    refine ⟨h1, hB, (twI_iff hB).1 h4, ?_⟩
    unfold goodO goodO1; omega
  · rintro ⟨h1, hB, hD, hO⟩
    have h4 := (twI_iff hB).2 hD
    unfold goodB at hB
    unfold goodO goodO1 at hO
    exact ⟨⟨⟨h1, by omega⟩, by omega⟩, h4⟩
theorem mayI_else {i : InoT} (h1 : i.k ≠ 1) (h2 : i.k ≠ 2) : mayI i = decide (inoL i = zeroL) := by
  unfold mayI
  by_cases h0 : i.k = 0
  · rw [if_pos h0]; rfl
  · rw [if_neg h0, if_neg h1, if_neg h2]
    symm
    refine decide_eq_false (fun h => h0 ?_)
    unfold inoL zeroL at h
    simp only [List.cons.injEq] at h
    exact h.1
/-- what May says, once all that the document asks first has been looked for -/
theorem mayI_good {i : InoT} (h : mayI i = true) : goodB i ∧ goodD i ∧ goodO i ∧ (i.k = 1 → goodF i) := by
  by_cases h1 : i.k = 1
  · obtain ⟨_, a, b, c, d⟩ := (mayI_file h1).1 h
    exact ⟨a, b, c, fun _ => d⟩
  · by_cases h2 : i.k = 2
    · obtain ⟨_, a, b, c⟩ := (mayI_dir h2).1 h
      exact ⟨a, b, c, fun e => absurd e h1⟩
    · rw [mayI_else h1 h2, decide_eq_true_eq] at h
      unfold inoL zeroL at h
      simp only [List.cons.injEq, and_true] at h
      unfold goodB goodD goodO goodO1
      refine ⟨by omega, by omega, by omega, fun e => absurd e h1⟩

end Go.Proofs.Ytnmblbkbiehodaa
