/- Paths: the pieces of a text; where a slash stands (strings.Index). -/
import Derived.Test.YtejfkjfidhdfaaaNameB
import Derived.Test.YtejfkjfidhdfaaaLibO
import Derived.Lib.Bytealg
import Derived.Laws.Externs
import Derived.Lib.IndexLaws
namespace Go.Proofs.Ytejfkjfidhdfaaa
open Go.RowKit Go.Shelf
set_option linter.unusedSimpArgs false
set_option linter.unusedVariables false

/-- the first slash -/
def slash (l : List UInt8) : Option Nat := l.findIdx? (fun b => b == 47)
/-- the pieces between slashes -/
def pieces : List UInt8 → List (List UInt8)
  | [] => [[]]
  | b :: l => if b == 47 then [] :: pieces l else match pieces l with
    | p :: r => (b :: p) :: r
    | [] => [[b]]
theorem pieces_cons (b : UInt8) (l : List UInt8) : pieces (b :: l) = if b == 47 then [] :: pieces l else match pieces l with
    | p :: r => (b :: p) :: r
    | [] => [[b]] := by rw [pieces]
theorem pieces_ne (l : List UInt8) : pieces l ≠ [] := by
  cases l with
  | nil => simp [pieces]
  | cons b l =>
    unfold pieces
    split
    · simp
    · split <;> simp
theorem pieces_none : ∀ {l : List UInt8}, (∀ b ∈ l, b ≠ 47) → pieces l = [l]
  | [], _ => rfl
  | b :: l, h => by
    have hb : (b == 47) = false := by simpa using h b (by simp)
    have ih := pieces_none (l := l) (fun x hx => h x (by simp [hx]))
    unfold pieces
    rw [hb, ih]; rfl
theorem pieces_at : ∀ (p r : List UInt8), (∀ b ∈ p, b ≠ 47) → pieces (p ++ 47 :: r) = p :: pieces r
  | [], r, _ => by
    show pieces (47 :: r) = _
    rw [pieces_cons]; rfl
  | b :: p, r, h => by
    have hb : (b == 47) = false := by simpa using h b (by simp)
    have ih := pieces_at p r (fun x hx => h x (by simp [hx]))
    show pieces (b :: (p ++ 47 :: r)) = _
    rw [pieces_cons, hb, ih]; rfl
theorem pieces_le : ∀ l : List UInt8, (pieces l).length ≤ l.length + 1
  | [] => by simp [pieces]
  | b :: l => by
    have ih := pieces_le l
    unfold pieces
    split
    · simp; omega
    · split
      · rename_i h; rw [h] at ih; simp at ih ⊢; omega
      · simp
/-- a text out of bytes -/
def strB (l : List UInt8) : ByteArray := ⟨l.toArray⟩
theorem strB_list (s : ByteArray) : strB s.data.toList = s := rfl
theorem strB_data (l : List UInt8) : (strB l).data.toList = l := rfl
theorem strB_size (l : List UInt8) : (strB l).size = l.length := by show l.toArray.size = _; simp
theorem ext_str (s : ByteArray) (a b : Nat) : s.extract a b = strB ((s.data.toList.drop a).take (b - a)) := by
  apply ByteArray.ext
  rw [ByteArray.data_extract]
  apply Array.ext'
  rw [Array.toList_extract]
  show (s.data.toList.extract a b) = _
  rw [List.extract_eq_take_drop]; rfl

/-- the slash: at a place, or nowhere -/
theorem slash_cases (l : List UInt8) : (Lib.indexByte l 47 = -1 ∧ ∀ b ∈ l, b ≠ 47) ∨ (∃ k : Nat, Lib.indexByte l 47 = k ∧ k < l.length ∧ (∀ b ∈ l.take k, b ≠ 47) ∧ l = l.take k ++ 47 :: l.drop (k + 1)) := by
  have hge := Lib.indexByte_ge l 47
  by_cases h : Lib.indexByte l 47 = -1
  · refine .inl ⟨h, fun b hb e => ?_⟩
    obtain ⟨i, hi, rfl⟩ := List.getElem_of_mem hb
    exact Lib.indexByte_none h i (by rw [List.getElem?_eq_getElem hi, e])
  · obtain ⟨k, hk⟩ : ∃ k : Nat, Lib.indexByte l 47 = k := ⟨(Lib.indexByte l 47).toNat, by omega⟩
    obtain ⟨h1, h2⟩ := Lib.indexByte_some hk
    obtain ⟨h3, h4⟩ := List.getElem?_eq_some_iff.1 h1
    refine .inr ⟨k, hk, h3, fun b hb e => ?_, ?_⟩
    · obtain ⟨i, hi, rfl⟩ := List.getElem_of_mem hb
      rw [List.length_take] at hi
      rw [List.getElem_take] at e
      exact h2 i (by omega) (by rw [List.getElem?_eq_getElem (by omega), e])
    · rw [← h4, List.getElem_cons_drop, List.take_append_drop]

/-- strings in cells -/
def strV (x : ByteArray) : Value := .string x
theorem strV_one (L : List ByteArray) : ∀ u ∈ L.map strV, u.oneCell' = true := by
  intro u hu; simp at hu; obtain ⟨x, _, rfl⟩ := hu; rfl
abbrev RowS (w : World) (a : Option Addr) (c : Nat) (L : List ByteArray) : Prop := Row w 1 a L.length c (L.map strV)
abbrev OwnS (w : World) (B : Nat) (a : Option Addr) (c : Nat) (L : List ByteArray) : Prop := Own w B 9 1 a L.length c (L.map strV)
theorem ES : ElemT Try.prog 40 9 1 16 := elemT Try.underlying40 (z := .string ⟨#[]⟩) (by kernel_rfl) rfl (by omega)
theorem rowS_cells {w : World} {a : Option Addr} {c : Nat} {L : List ByteArray} (h : RowS w a c L) (hn : 0 < L.length) :
    ∃ b off, a = some ⟨b, off, none⟩ ∧ b < w.heap.size ∧ ∀ i (hi : i < L.length), w.cell? ⟨b, off + i, none⟩ = some (.string L[i]) := by
  obtain ⟨b, off, e, hlt, hc⟩ := h.at hn
  exact ⟨b, off, e, hlt, fun i hi => hc i _ (by simp [hi, strV])⟩
theorem rowS_len {w : World} {a : Option Addr} {c : Nat} {L : List ByteArray} (h : RowS w a c L) : L.length ≤ 9223372036854775807 := by
  have h1 := h.2.1; have h2 := h.2.2.1; unfold maxLen at h2; omega
