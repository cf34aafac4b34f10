/- The statements of stage 12: texts that are handed in; DirFill. -/
import Derived.Test.YtejfkjfidhdfaaaDirZc
namespace Go.Proofs.Ytejfkjfidhdfaaa
open Go.RowKit Go.Shelf Go.WideShapes Go.ChangeShapes Go.Deep
set_option linter.unusedSimpArgs false
set_option linter.unusedVariables false

theorem open_strL {H : Type} {enc : TypeId × Value → H} {W : World} {base : Nat} {held : Bool} {a : Option Addr} {n c : Nat} {d : DataW H} {p : List MemPlace}
    (h : DataW.Trod enc Try.prog W base (fun _ => true) held 40 (.slice a n c) d p) : ∃ L : List ByteArray, n = L.length ∧ RowS W a c L := by
  obtain ⟨fuel, hf⟩ := h
  rcases open_strs Try.underlying40 Try.underlying9 (by kernel_rfl) hf with ⟨hcs, _⟩ | ⟨x, len, cap, m, Sx, hcs, _, hl, hm, hmm, _, hi⟩
  · simp [Value.cells] at hcs
    obtain ⟨rfl, rfl, rfl⟩ := hcs
    exact ⟨[], rfl, Row.nil _ _⟩
  · simp [Value.cells] at hcs
    obtain ⟨rfl, rfl, rfl⟩ := hcs
    have hnm : n ≤ m := by rw [hmm]; split <;> omega
    refine ⟨(List.range n).map Sx, by simp, by simp, by simpa using hl, hm, (fun h => by cases h), fun hn => ?_⟩
    have hn' : 0 < n := by simpa using hn
    have hq := (hi 0 (by omega)).1
    rw [show x.add 0 = x from by unfold Addr.add; simp] at hq
    have hsp := spot_noneS hq
    obtain ⟨b, off, sp⟩ := x
    simp at hsp
    subst hsp
    refine ⟨b, off, rfl, World.block_lt_of_cell? W _ hq, fun j u hu => ?_⟩
    have hj := (List.getElem?_eq_some_iff.1 hu).1
    simp only [List.length_map, List.length_range] at hj
    have h1 := (hi j (by omega)).1
    rw [add_plain] at h1
    simp only [List.getElem?_map, List.getElem?_range hj, Option.map_some, Option.some.injEq] at hu
    rw [h1, ← hu]; rfl
end Go.Proofs.Ytejfkjfidhdfaaa
