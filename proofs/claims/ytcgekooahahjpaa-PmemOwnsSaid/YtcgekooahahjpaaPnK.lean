/- A row of one's own, written over. -/
import Derived.Test.YtcgekooahahjpaaPnC
namespace Go.Proofs.Ytcgekooahahjpaa
open Go.RowKit
set_option linter.unusedSimpArgs false
set_option linter.unusedVariables false

theorem own_put {w : World} {B : Nat} {e : TypeId} {g n c : Nat} {cs : List Value} (h : Own w B e 1 (some ⟨g, 0, none⟩) n c cs) {k : Nat} (hk : k < n) :
    (∃ v, w.cell? ⟨g, k, none⟩ = some v) ∧ w.frozen? ⟨g, k, none⟩ = false ∧ B ≤ g ∧ ∀ v, ∃ cs', Own (w.setCell ⟨g, k, none⟩ v) B e 1 (some ⟨g, 0, none⟩) n c cs' := by
  obtain ⟨L, hb, hl, hB, ht, hn, hc⟩ := Own.blk h
  refine ⟨Blk.someCell hb (by omega), Blk.frozen hb k, hB, fun v => ⟨_, Own.of_blk (Blk.set hb k v) hB hn hc (by simpa using hl)⟩⟩
theorem own_base {w : World} {B : Nat} {e : TypeId} {sz n c b off : Nat} {cs : List Value} (h : Own w B e sz (some ⟨b, off, none⟩) n c cs) : B ≤ b := by
  rcases h.2 with hn | ⟨b', cap, cur, hv, hb, _⟩
  · obtain ⟨h1, _⟩ := hn; cases h1
  · cases hv; exact hb
theorem below_set {B : Nat} {w w' : World} (h : Below B w w') {g : Nat} (hg : B ≤ g) (hB : B ≤ w.heap.size) (i : Nat) (v : Value) : Below B w (w'.setCell ⟨g, i, none⟩ v) := by
  have t : Turns (fun k => B ≤ k) w (w'.setCell ⟨g, i, none⟩ v) := Turns.setIn (X := fun k => B ≤ k) (Turns.of_belowB h) hg i v
  exact ⟨t.os, t.tape, t.output, t.size, fun k hk => t.block k (Nat.lt_of_lt_of_le hk hB) (by omega)⟩
/-- the memories' blocks lie below -/
def AllLt (K : MemK) (B : Nat) : Prop := (∀ k, K.all k → k < B) ∧ K.gm < B ∧ K.gr < B
theorem Both.allLt {w : World} {B : Nat} {K : MemK} {M : MemM} (h : Both w B K M) : AllLt K w.heap.size := by
  obtain ⟨_, _, _, _, _, _, gl, _, _, _⟩ := mem_apart h.1
  exact ⟨fun k hk => h.lt k hk, gl, h.2.1.2.2.1.lt⟩
theorem Both.high {w w' : World} {B B0 : Nat} {K : MemK} {M : MemM} (h : Both w B K M) (hl : AllLt K B0) (t : Turns (fun k => B0 ≤ k) w w') : Both w' B K M :=
  h.turns t (fun k hk _ => ⟨fun q => by have := hl.1 k q; omega, fun q => by have := hl.2.1; omega, fun q => by have := hl.2.2; omega⟩)
theorem AllLt.mono {K : MemK} {B B' : Nat} (h : AllLt K B) (hb : B ≤ B') : AllLt K B' := ⟨fun k q => Nat.lt_of_lt_of_le (h.1 k q) hb, Nat.lt_of_lt_of_le h.2.1 hb, Nat.lt_of_lt_of_le h.2.2 hb⟩
theorem Turns.high {B0 B : Nat} {w w' : World} (t : Turns (fun k => B0 ≤ k) w w') (h : B ≤ w.heap.size) (hb : B ≤ B0) : Below B w w' := t.below h (fun k hk => Nat.le_trans hb hk)
end Go.Proofs.Ytcgekooahahjpaa
