/- A table that is filled (pure). -/
import Derived.Test.YtejfkjfidhdfaaaDirZa
namespace Go.Proofs.Ytejfkjfidhdfaaa
open Go.RowKit Go.Shelf
set_option linter.unusedSimpArgs false
set_option linter.unusedVariables false

theorem placesP_all (f : Nat) {i : Nat} (h : i < 16) : i ∈ placesP f := by
  unfold placesP
  rw [List.mem_map]
  exact ⟨(i + 16 - f % 16) % 16, by rw [List.mem_range]; omega, by omega⟩
theorem nmT_app (A B : List EntT) : nmT (A ++ B) = nmT A ++ nmT B := by unfold nmT; rw [List.map_append, List.filter_append]
theorem nmT_cons0 (e : EntT) (B : List EntT) (h : e.nm = ⟨#[]⟩) : nmT (e :: B) = nmT B := by unfold nmT; simp [h]
theorem nmT_cons1 (e : EntT) (B : List EntT) (h : ¬ e.nm = ⟨#[]⟩) : nmT (e :: B) = e.nm :: nmT B := by unfold nmT; simp [h]
theorem nmT_set (t : List EntT) (x : Nat) (hx : x < t.length) (h0 : t[x].nm = ⟨#[]⟩) (s : ByteArray) (i : Int) (hs : ¬ s = ⟨#[]⟩) : (nmT (t.set x ⟨s, i⟩)).Perm (s :: nmT t) := by
  have h1 : t.set x ⟨s, i⟩ = t.take x ++ ⟨s, i⟩ :: t.drop (x + 1) := List.set_eq_take_append_cons_drop.trans (by rw [if_pos hx])
  have h2 : t = t.take x ++ t[x] :: t.drop (x + 1) := by rw [List.getElem_cons_drop, List.take_append_drop]
  rw [h1, nmT_app, nmT_cons1 _ _ hs]
  have h3 : nmT t = nmT (t.take x) ++ nmT (t.drop (x + 1)) := by
    conv => lhs; rw [h2]
    rw [nmT_app, nmT_cons0 _ _ h0]
  rw [h3]
  exact List.perm_middle
theorem nmT_mem {t : List EntT} {h : ByteArray} (hm : h ∈ nmT t) : ¬ h = ⟨#[]⟩ ∧ ∃ i, ∃ hi : i < t.length, t[i].nm = h := by
  unfold nmT at hm
  rw [List.mem_filter] at hm
  obtain ⟨h1, h2⟩ := hm
  obtain ⟨e, he, rfl⟩ := List.mem_map.1 h1
  obtain ⟨i, hi, rfl⟩ := List.getElem_of_mem he
  exact ⟨by simpa using h2, i, hi, rfl⟩
theorem find_in {t : List EntT} (ht : t.length = 16) {h : ByteArray} (hm : h ∈ nmT t) : ∃ x : Nat, findT t h = x ∧ ∃ hx : x < t.length, t[x].nm = h := by
  obtain ⟨hne, i, hi, he⟩ := nmT_mem hm
  unfold findT
  rw [if_neg hne]
  cases hf : (placesP (hashF h.data.toList)).find? (hitT t h) with
  | none =>
    have := List.find?_eq_none.1 hf i (placesP_all _ (by omega))
    exact absurd (by unfold hitT; simp [hi, he]) this
  | some x =>
    have hx16 := placesP_lt _ x (List.mem_of_find?_eq_some hf)
    have hh := List.find?_some hf
    refine ⟨x, rfl, by omega, ?_⟩
    unfold hitT at hh
    simpa [show x < t.length by omega] using hh

/-- a table with just these names -/
def InvT (t : List EntT) (H : List ByteArray) : Prop := t.length = 16 ∧ (nmT t).Perm H ∧ (∀ e ∈ t, e.nm = ⟨#[]⟩ → e.ino = 0) ∧ ∀ h ∈ H, h.size ≤ 1000
theorem InvT.len {t : List EntT} {H : List ByteArray} (h : InvT t H) : H.length ≤ 16 := by
  have h1 := nmT_len t
  rw [h.2.1.length_eq, h.1] at h1
  exact h1
theorem InvT.set {t : List EntT} {H : List ByteArray} (h : InvT t H) {x : Nat} (hx : x < t.length) (h0 : t[x].nm = ⟨#[]⟩) {s : ByteArray} (i : Int) (hs : ¬ s = ⟨#[]⟩) (hz : s.size ≤ 1000) : InvT (t.set x ⟨s, i⟩) (H ++ [s]) := by
  refine ⟨by rw [List.length_set]; exact h.1, ?_, ?_, ?_⟩
  · exact (nmT_set t x hx h0 s i hs).trans ((h.2.1.cons s).trans (List.perm_append_singleton s H).symm)
  · intro e he hn
    rcases List.mem_or_eq_of_mem_set he with he | rfl
    · exact h.2.2.1 e he hn
    · exact absurd hn hs
  · intro y hy
    rcases List.mem_append.1 hy with hy | hy
    · exact h.2.2.2 y hy
    · rw [List.mem_singleton.1 hy]; exact hz
theorem InvT.place {t : List EntT} {H : List ByteArray} (h : InvT t H) (s : ByteArray) : (placeT t s = -1 ∧ H.length = 16) ∨ (∃ x : Nat, placeT t s = x ∧ (∃ hx : x < t.length, t[x].nm = ⟨#[]⟩) ∧ H.length < 16) := by
  unfold placeT
  cases hf : (placesP (hashF s.data.toList)).find? (freeT t) with
  | none =>
    refine .inl ⟨rfl, ?_⟩
    have hall : ∀ n ∈ t.map (·.nm), decide (n ≠ (⟨#[]⟩ : ByteArray)) = true := by
      intro n hn
      obtain ⟨e, he, rfl⟩ := List.mem_map.1 hn
      obtain ⟨i, hi, rfl⟩ := List.getElem_of_mem he
      rw [decide_eq_true_iff]
      intro h0
      have := List.find?_eq_none.1 hf i (placesP_all _ (by have := h.1; omega))
      have hz := h.2.2.1 _ he h0
      exact absurd (by unfold freeT; simp [hi, h0, hz]) this
    have h1 : nmT t = t.map (·.nm) := List.filter_eq_self.2 hall
    rw [← h.2.1.length_eq, h1, List.length_map, h.1]
  | some x =>
    have hx16 := placesP_lt _ x (List.mem_of_find?_eq_some hf)
    have hh := List.find?_some hf
    have hx : x < t.length := by rw [h.1]; exact hx16
    have h0 : t[x].nm = ⟨#[]⟩ := by
      unfold freeT at hh
      simp [hx] at hh
      exact hh.1
    refine .inr ⟨x, rfl, ⟨hx, h0⟩, ?_⟩
    have := (h.set hx h0 (s := ⟨#[1]⟩) 0 (by decide) (by decide)).len
    rw [List.length_append] at this
    simp at this
    omega
theorem InvT.find {t : List EntT} {H : List ByteArray} (h : InvT t H) {y : ByteArray} (hy : y ∈ H) : ∃ x : Nat, findT t y = x ∧ ∃ hx : x < t.length, t[x].nm = y := find_in h.1 (h.2.1.mem_iff.2 hy)
theorem InvT.zero : InvT zeroT [] := by
  refine ⟨zero_len, ?_, ?_, by simp⟩
  · have : nmT zeroT = [] := by unfold nmT zeroT; simp
    rw [this]
  · intro e he _
    unfold zeroT at he
    rw [(List.mem_replicate.1 he).2]
end Go.Proofs.Ytejfkjfidhdfaaa
