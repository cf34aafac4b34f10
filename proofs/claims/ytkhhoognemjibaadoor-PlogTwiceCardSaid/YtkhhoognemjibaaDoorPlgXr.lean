/- Records that are handed in. -/
import Derived.Test.YtkhhoognemjibaaDoorPlgX
import Derived.Test.YtkhhoognemjibaaDoorPlgMc
namespace Go.Proofs.YtkhhoognemjibaaDoor
open Go.RowKit Go.WideShapes Go.ChangeShapes Go.Deep
set_option linter.unusedSimpArgs false
set_option linter.unusedVariables false
set_option maxRecDepth 100000

theorem spot_noneS {w : World} {x a : Addr} {n c : Nat} (h : w.cell? x = some (.slice (some a) n c)) : x.spot = none := by
  unfold World.cell? at h
  cases hs : x.spot with
  | none => rfl
  | some q => simp [hs] at h; split at h <;> simp_all
theorem spot_noneN {w : World} {x : Addr} {n c : Nat} (h : w.cell? x = some (.slice none n c)) : x.spot = none := by
  unfold World.cell? at h
  cases hs : x.spot with
  | none => rfl
  | some q => simp [hs] at h; split at h <;> simp_all
structure RecsIn (W : World) (a : Option Addr) (c : Nat) (rs : List (Option Addr × Nat × List PtM)) : Prop where
  o : Row W 1 a rs.length c (rs.map recV)
  i : ∀ r ∈ rs, RowPt W r.1 r.2.1 r.2.2 ∧ inPts r.2.2
theorem RecsIn.mono {W W' : World} {a : Option Addr} {c : Nat} {rs : List (Option Addr × Nat × List PtM)} (h : RecsIn W a c rs) (b : Below W.heap.size W W') : RecsIn W' a c rs := ⟨Row.mono h.o b, fun r hr => ⟨Row.mono (h.i r hr).1 b, (h.i r hr).2⟩⟩
theorem open_recsP {H : Type} {enc : TypeId × Value → H} {W : World} {base : Nat} {held : Bool} {a : Option Addr} {n c : Nat} {d : DataW H} {p : List MemPlace}
    (h : DataW.Trod enc Tryd.prog W base (fun _ => true) held 41 (.slice a n c) d p) : ∃ rs : List (Option Addr × Nat × List PtM), n = rs.length ∧ RecsIn W a c rs := by
  have kC : Tryd.prog.cellsOf 22 = 1 := by kernel_rfl
  obtain ⟨fuel, hf⟩ := h
  rcases open_slice Tryd.underlying41 hf with ⟨hcs, _⟩ | ⟨x, len, cap, m, q, D, Pl, hcs, _, hl, hm, hmm, _, hi⟩
  · simp [Value.cells] at hcs
    obtain ⟨rfl, rfl, rfl⟩ := hcs
    exact ⟨[], rfl, ⟨Row.nil _ _, fun p h => (by cases h)⟩⟩
  · simp [Value.cells] at hcs
    obtain ⟨rfl, rfl, rfl⟩ := hcs
    have hnm : n ≤ m := by rw [hmm]; split <;> omega
    have one : ∀ i, ∃ v : Option Addr × Nat × List PtM, i < n → W.cell? (x.add (i * 1)) = some (recV v) ∧ RowPt W v.1 v.2.1 v.2.2 ∧ inPts v.2.2 := by
      intro i
      by_cases hlt : i < n
      · obtain ⟨cs', hc, ht⟩ := hi i (by omega)
        rw [kC] at hc
        obtain ⟨a2, c2, L, e, r, k⟩ := open_ptsF ht
        obtain ⟨_, hlen, hat⟩ := World.cells?_some hc
        have h0 := hat 0 (by omega)
        refine ⟨(a2, c2, L), fun _ => ⟨?_, r, k⟩⟩
        subst e
        have e0 : (x.add (i * 1)).add 0 = x.add (i * 1) := by unfold Addr.add; simp
        rw [e0] at h0
        exact h0
      · exact ⟨(none, 0, []), fun h => absurd h hlt⟩
    obtain ⟨f, hfn⟩ := Classical.skolem.1 one
    refine ⟨(List.range n).map f, by simp, ⟨⟨by simp, by simpa using hl, hm, (fun h => by cases h), fun hn => ?_⟩, fun r hr => ?_⟩⟩
    · have hn' : 0 < n := by simpa using hn
      have hq := (hfn 0 hn').1
      have e : x.add (0 * 1) = x := by unfold Addr.add; simp
      rw [e] at hq
      have hsp : x.spot = none := by
        unfold recV at hq
        cases hx : (f 0).1 with
        | none => rw [hx] at hq; exact spot_noneN hq
        | some y => rw [hx] at hq; exact spot_noneS hq
      obtain ⟨b, off, sp⟩ := x
      simp at hsp
      subst hsp
      refine ⟨b, off, rfl, World.block_lt_of_cell? W _ hq, fun j u hu => ?_⟩
      have hjl : j < n := by
        have := (List.getElem?_eq_some_iff.1 hu).1
        simpa using this
      have hj := (hfn j hjl).1
      rw [List.getElem?_map, List.getElem?_map, List.getElem?_range hjl] at hu
      simp only [Option.map_some, Option.some.injEq] at hu
      have ea : (⟨b, off, none⟩ : Addr).add (j * 1) = ⟨b, off + j, none⟩ := by unfold Addr.add; simp
      rw [← hu, ← hj, ea]
    · obtain ⟨i, hi, rfl⟩ := List.mem_map.1 hr
      exact (hfn i (List.mem_range.1 hi)).2
theorem recsIn_at {W : World} {a : Option Addr} {c : Nat} {rs : List (Option Addr × Nat × List PtM)} (h : RecsIn W a c rs) {j : Nat} (hj : j < rs.length) :
    ∃ pb po ad cc L, a = some ⟨pb, po, none⟩ ∧ pb < W.heap.size ∧ W.cell? ⟨pb, po + j, none⟩ = some (.slice ad L.length cc) ∧ RowPt W ad cc L ∧ inPts L ∧ rs[j] = (ad, cc, L) := by
  obtain ⟨b, off, e, hlt, hc⟩ := h.o.2.2.2.2 (by omega)
  refine ⟨b, off, rs[j].1, rs[j].2.1, rs[j].2.2, e, hlt, ?_, (h.i _ (List.getElem_mem hj)).1, (h.i _ (List.getElem_mem hj)).2, rfl⟩
  exact hc j _ (by rw [List.getElem?_map, List.getElem?_eq_getElem hj]; rfl)
end Go.Proofs.YtkhhoognemjibaaDoor
