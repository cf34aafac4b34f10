import Derived.Test.YtnmblbkbiehodaaInoN
namespace Go.Proofs.Ytnmblbkbiehodaa
open Go.RowKit Go.WideShapes
set_option linter.unusedSimpArgs false
set_option linter.unusedVariables false

theorem putF_1 {xs : List UInt8} {n : Int} (h0 : 0 ≤ n) (h1 : n < 256) : putF xs n 1 = xs ++ [UInt8.ofNat n.toNat] := by
  obtain ⟨m, rfl⟩ := Int.eq_ofNat_of_zero_le h0
  have hf : fitsB (m : Int) 1 = true := by unfold fitsB; simp; omega
  unfold putF
  rw [if_pos hf]
  simp [le]
theorem putF_2 {xs : List UInt8} {n : Int} (h0 : 0 ≤ n) (h1 : n < 65536) : putF xs n 2 = xs ++ [UInt8.ofNat n.toNat, UInt8.ofNat (n.toNat / 256)] := by
  obtain ⟨m, rfl⟩ := Int.eq_ofNat_of_zero_le h0
  have hf : fitsB (m : Int) 2 = true := by unfold fitsB; simp; omega
  unfold putF
  rw [if_pos hf]
  simp [le]
theorem ones_bytes (l : List Int) (H : List UInt8) (h : ∀ n ∈ l, 0 ≤ n ∧ n < 256) : foldF H (ones l) = H ++ l.map fun n => UInt8.ofNat n.toNat := by
  induction l generalizing H with
  | nil => simp [foldF, ones]
  | cons n l ih =>
    have h1 := h n (by simp)
    have h2 := ih (putF H n 1) (fun x hx => h x (by simp [hx]))
    have e : foldF H (ones (n :: l)) = foldF (putF H n 1) (ones l) := rfl
    rw [e, h2, putF_1 h1.1 h1.2]
    simp
theorem mayI_kind {i : InoT} (h : mayI i = true) : 0 ≤ i.k ∧ i.k ≤ 2 ∧ 0 ≤ i.l ∧ i.l ≤ 20 ∧ 0 ≤ i.s ∧ i.s ≤ 256 := by
  have hu := mayI_up h
  by_cases h1 : i.k = 1
  · have := ((mayI_file h1).1 h).1
    omega
  · by_cases h2 : i.k = 2
    · have := ((mayI_dir h2).1 h).1
      omega
    · rw [mayI_else h1 h2, decide_eq_true_eq] at h
      unfold inoL zeroL at h
      simp only [List.cons.injEq, and_true] at h
      omega
/-- an inode's first sixteen bytes -/
theorem inoX_bytes {i : InoT} (h : mayI i = true) : inoX i = [UInt8.ofNat i.k.toNat, UInt8.ofNat i.l.toNat, UInt8.ofNat i.s.toNat, UInt8.ofNat (i.s.toNat / 256)] ++ (i.B ++ i.O).map fun n => UInt8.ofNat n.toNat := by
  have hk := mayI_kind h
  have hu := (mayI_up h).2.2.2
  obtain ⟨hB, _, hO, _⟩ := mayI_good h
  have hlow : ∀ n ∈ i.B ++ i.O, 0 ≤ n ∧ n < 256 := by
    intro n hn
    have h1 := hu n hn
    unfold goodB at hB
    unfold goodO goodO1 at hO
    simp only [InoT.B, InoT.O, List.cons_append, List.nil_append, List.mem_cons, List.not_mem_nil, or_false] at hn
    refine ⟨?_, by omega⟩
    rcases hn with e | e | e | e | e | e | e | e | e | e | e | e <;> rw [e]
    · exact hB.1.1
    · exact hB.2.1.1
    · exact hB.2.2.1.1
    · exact hB.2.2.2.1
    · exact hO.1.1
    · exact hO.2.1.1
    · exact hO.2.2.1.1
    · exact hO.2.2.2.1.1
    · exact hO.2.2.2.2.1.1
    · exact hO.2.2.2.2.2.1.1
    · exact hO.2.2.2.2.2.2.1.1
    · exact hO.2.2.2.2.2.2.2.1
  unfold inoX
  rw [ones_bytes _ _ hlow]
  unfold inoH
  rw [putF_1 hk.1 (by omega), putF_1 hk.2.2.1 (by omega), putF_2 hk.2.2.2.2.1 (by omega)]
  simp

end Go.Proofs.Ytnmblbkbiehodaa
