/- A directory's names: the document's. -/
import Derived.Test.YtejfkjfidhdfaaaDirW
namespace Go.Proofs.Ytejfkjfidhdfaaa
open Go.RowKit Go.Shelf
set_option linter.unusedSimpArgs false
set_option linter.unusedVariables false

/-- which text comes first -/
def ltS (x y : ByteArray) : Bool := decide (x.data.toList < y.data.toList)
theorem less_ltS (x y : ByteArray) : Op.bytesLess x.toList y.toList = ltS x y := by
  rw [bytesLess_eq, ByteArray.toList_eq, ByteArray.toList_eq]; rfl
def insS (x : ByteArray) : List ByteArray → List ByteArray
  | [] => [x]
  | y :: r => if ltS x y then x :: y :: r else y :: insS x r
def stepI (x : ByteArray) (s : List ByteArray × Bool) (y : ByteArray) : List ByteArray × Bool := if !s.2 && ltS x y then (s.1 ++ [x, y], true) else (s.1 ++ [y], s.2)
def stI (x : ByteArray) (S : List ByteArray) (j : Nat) : List ByteArray × Bool := (S.take j).foldl (stepI x) ([], false)
theorem stI_succ (x : ByteArray) (S : List ByteArray) {j : Nat} (hj : j < S.length) : stI x S (j + 1) = stepI x (stI x S j) S[j] := by
  unfold stI
  rw [List.take_succ_eq_append_getElem hj, List.foldl_append]; rfl
theorem fold_true (x : ByteArray) : ∀ (S A : List ByteArray), S.foldl (stepI x) (A, true) = (A ++ S, true)
  | [], A => by simp
  | y :: r, A => by
    show r.foldl (stepI x) (stepI x (A, true) y) = _
    rw [show stepI x (A, true) y = (A ++ [y], true) from rfl, fold_true x r]
    simp
def endI (x : ByteArray) (s : List ByteArray × Bool) : List ByteArray := if s.2 then s.1 else s.1 ++ [x]
theorem fold_false (x : ByteArray) : ∀ (S A : List ByteArray), endI x (S.foldl (stepI x) (A, false)) = A ++ insS x S
  | [], A => rfl
  | y :: r, A => by
    show endI x (r.foldl (stepI x) (stepI x (A, false) y)) = _
    cases h : ltS x y with
    | true =>
      rw [show stepI x (A, false) y = (A ++ [x, y], true) by unfold stepI; simp [h], fold_true]
      unfold endI insS
      simp [h]
    | false =>
      rw [show stepI x (A, false) y = (A ++ [y], false) by unfold stepI; simp [h], fold_false x r]
      show _ = A ++ (if ltS x y then x :: y :: r else y :: insS x r)
      rw [h]; simp
theorem endI_all (x : ByteArray) (S : List ByteArray) : endI x (stI x S S.length) = insS x S := by
  unfold stI
  rw [List.take_length, fold_false]; rfl
theorem stI_len (x : ByteArray) (S : List ByteArray) : ∀ j, j ≤ S.length → (stI x S j).1.length ≤ j + 1 ∧ ((stI x S j).2 = false → (stI x S j).1.length = j)
  | 0, _ => by simp [stI]
  | j + 1, h => by
    have ih := stI_len x S j (by omega)
    rw [stI_succ x S (by omega)]
    unfold stepI
    split
    · rename_i hc
      have h2 : (stI x S j).2 = false := by simp at hc; exact hc.1
      have := ih.2 h2
      simp; omega
    · simp
      exact ⟨by omega, fun h2 => ih.2 h2⟩
theorem insS_perm (x : ByteArray) : ∀ S, (insS x S).Perm (x :: S)
  | [] => List.Perm.refl _
  | y :: r => by
    unfold insS
    split
    · exact List.Perm.refl _
    · exact ((insS_perm x r).cons y).trans (List.Perm.swap x y r)
theorem insS_len (x : ByteArray) (S : List ByteArray) : (insS x S).length = S.length + 1 := by
  rw [(insS_perm x S).length_eq]; rfl
def leS (x y : ByteArray) : Prop := x.data.toList ≤ y.data.toList
theorem insS_sorted (x : ByteArray) : ∀ S, S.Pairwise leS → (insS x S).Pairwise leS
  | [], _ => by simp [insS]
  | y :: r, h => by
    have h1 := List.pairwise_cons.1 h
    unfold insS
    split
    · rename_i hl
      have hl' : x.data.toList < y.data.toList := by simpa [ltS] using hl
      have hle : leS x y := List.le_of_lt hl'
      refine List.pairwise_cons.2 ⟨fun z hz => ?_, h⟩
      rcases List.mem_cons.1 hz with rfl | hz
      · exact hle
      · exact List.le_trans hle (h1.1 z hz)
    · rename_i hl
      have hl' : ¬ x.data.toList < y.data.toList := by simpa [ltS] using hl
      refine List.pairwise_cons.2 ⟨fun z hz => ?_, insS_sorted x r h1.2⟩
      rcases List.mem_cons.1 ((insS_perm x r).mem_iff.1 hz) with rfl | hz
      · exact List.not_lt.1 hl'
      · exact h1.1 z hz
def isort (L : List ByteArray) : List ByteArray := L.foldl (fun acc x => insS x acc) []
theorem isort_snoc (L : List ByteArray) (x : ByteArray) : isort (L ++ [x]) = insS x (isort L) := by
  unfold isort; rw [List.foldl_append]; rfl
theorem isort_fold : ∀ (L A : List ByteArray), A.Pairwise leS → (L.foldl (fun acc x => insS x acc) A).Pairwise leS ∧ (L.foldl (fun acc x => insS x acc) A).Perm (A ++ L)
  | [], A, h => ⟨h, by simp⟩
  | x :: r, A, h => by
    have ih := isort_fold r (insS x A) (insS_sorted x A h)
    refine ⟨ih.1, ih.2.trans ?_⟩
    refine ((insS_perm x A).append_right r).trans ?_
    exact (List.perm_middle (a := x) (l₁ := A) (l₂ := r)).symm
theorem isort_len (L : List ByteArray) : (isort L).length = L.length := by
  have := (isort_fold L [] List.Pairwise.nil).2.length_eq
  simpa [isort] using this
theorem isort_eq (L : List ByteArray) : isort L = sortS L := by
  obtain ⟨h1, h2⟩ := isort_fold L [] List.Pairwise.nil
  have tr : ∀ a b c : List UInt8, decide (a ≤ b) = true → decide (b ≤ c) = true → decide (a ≤ c) = true := fun a b c h1 h2 => by simp only [decide_eq_true_eq] at *; exact List.le_trans h1 h2
  have to : ∀ a b : List UInt8, (decide (a ≤ b) || decide (b ≤ a)) = true := fun a b => by simp only [Bool.or_eq_true, decide_eq_true_eq]; exact List.le_total a b
  have e : (isort L).map (·.data.toList) = (L.map (·.data.toList)).mergeSort (fun x y => decide (x ≤ y)) := by
    refine List.Perm.eq_of_pairwise (le := fun a b => decide (a ≤ b) = true) (fun a b _ _ h1 h2 => ?_) ?_ (List.pairwise_mergeSort tr to _) ?_
    · simp only [decide_eq_true_eq] at h1 h2
      exact List.le_antisymm h1 h2
    · rw [List.pairwise_map]
      exact h1.imp (fun h => by rw [decide_eq_true_iff]; exact h)
    · exact (h2.map _).trans (by simpa using (List.mergeSort_perm (L.map (·.data.toList)) (fun x y => decide (x ≤ y))).symm)
  unfold sortS
  rw [← e, List.map_map]
  have : (strB ∘ fun (x : ByteArray) => x.data.toList) = id := by funext x; rfl
  rw [this, List.map_id]
end Go.Proofs.Ytejfkjfidhdfaaa
