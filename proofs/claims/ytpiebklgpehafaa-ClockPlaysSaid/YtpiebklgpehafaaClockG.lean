import Derived.Test.YtpiebklgpehafaaClockE
import Derived.Deep.Slices
import Derived.Deep.Fields
import Derived.ChangeSame
namespace Go.Proofs.Ytpiebklgpehafaa
open Go.RowKit Go.WideShapes Go.ChangeShapes Go.Deep
set_option linter.unusedSimpArgs false
set_option linter.unusedVariables false

/-- a pass as the statement hands it in -/
structure PassV where
  t : Int
  sa : Option Addr
  sc : Nat
  S : List Int
/-- passes that can be read -/
def RowP (w : World) (a : Option Addr) (c n : Nat) (f : Nat → PassV) : Prop :=
  n ≤ c ∧ c ≤ maxLen ∧ (0 < n → ∃ b off, a = some ⟨b, off, none⟩ ∧ b < w.heap.size ∧ ∀ i, i < n → w.cell? ⟨b, off + i * 2, none⟩ = some (.int .i64 (f i).t) ∧ w.cell? ⟨b, off + i * 2 + 1, none⟩ = some (.slice (f i).sa (f i).S.length (f i).sc)) ∧
    ∀ i, i < n → RowI w (f i).sa (f i).sc (f i).S ∧ -9223372036854775808 ≤ (f i).t ∧ (f i).t ≤ 9223372036854775807
theorem RowP.mono {w w' : World} {a : Option Addr} {c n : Nat} {f : Nat → PassV} (h : RowP w a c n f) (b : Below w.heap.size w w') : RowP w' a c n f := by
  obtain ⟨h1, h2, h3, h4⟩ := h
  refine ⟨h1, h2, fun hn => ?_, fun i hi => ⟨(h4 i hi).1.mono b, (h4 i hi).2⟩⟩
  obtain ⟨bb, off, e, hlt, hc⟩ := h3 hn
  exact ⟨bb, off, e, Nat.lt_of_lt_of_le hlt b.size, fun i hi => ⟨(b.cell (p := ⟨bb, off + i * 2, none⟩) hlt).trans (hc i hi).1, (b.cell (p := ⟨bb, off + i * 2 + 1, none⟩) hlt).trans (hc i hi).2⟩⟩

theorem spot_none {w : World} {x : Addr} {n : Int} (h : w.cell? x = some (.int .i64 n)) : x.spot = none := by
  unfold World.cell? at h
  cases hs : x.spot with
  | none => rfl
  | some q => simp [hs] at h; split at h <;> simp_all

theorem open_passes {H : Type} {enc : TypeId × Value → H} {W : World} {base : Nat} {held : Bool} {a : Option Addr} {n c : Nat} {d : DataW H} {p : List MemPlace}
    (h : DataW.Trod enc Try.prog W base (fun _ => true) held 22 (.slice a n c) d p) : ∃ f, RowP W a c n f := by
  have kC : Try.prog.cellsOf 32 = 2 := by kernel_rfl
  have k1 : Try.prog.cellsOf 3 = 1 := by kernel_rfl
  have k2 : Try.prog.cellsOf 30 = 1 := by kernel_rfl
  obtain ⟨fuel, hf⟩ := h
  rcases open_slice Try.underlying22 hf with ⟨hcs, _⟩ | ⟨x, len, cap, m, q, D, Pl, hcs, _, hl, hm, hmm, _, hi⟩
  · simp [Value.cells] at hcs
    obtain ⟨rfl, rfl, rfl⟩ := hcs
    exact ⟨fun _ => ⟨0, none, 0, []⟩, Nat.le_refl _, Nat.zero_le _, fun h => absurd h (by omega), fun i h => absurd h (by omega)⟩
  · simp [Value.cells] at hcs
    obtain ⟨rfl, rfl, rfl⟩ := hcs
    have hnm : n ≤ m := by rw [hmm]; split <;> omega
    have one : ∀ i, ∃ v : PassV, i < n → W.cell? (x.add (i * 2)) = some (.int .i64 v.t) ∧ W.cell? ((x.add (i * 2)).add 1) = some (.slice v.sa v.S.length v.sc) ∧ RowI W v.sa v.sc v.S ∧ (Lit.int .i64 v.t).wf = true := by
      intro i
      by_cases hlt : i < n
      · obtain ⟨cs', hc, ht⟩ := hi i (by omega)
        rw [kC] at hc
        obtain ⟨_, hlen, hat⟩ := World.cells?_some hc
        obtain ⟨ys, r, _, _, _, hyl, hg⟩ := DataW.trod_struct Try.underlying32 ht
        have hyl' : ys.length = 2 := hyl
        match cs', hlen with
        | [u0, u1], _ =>
          have g0 := hg 0 _ rfl
          have g1 := hg 1 _ rfl
          simp [k1, k2] at g0 g1
          rw [List.getElem?_eq_getElem (by omega)] at g0 g1
          obtain ⟨t, e0, _, w0⟩ := DataW.trod_int Try.underlying3 g0
          simp only [List.cons.injEq, and_true] at e0
          have a0 := hat 0 (by omega)
          have a1 := hat 1 (by omega)
          simp at a0 a1
          have hz : (x.add (i * 2)).add 0 = x.add (i * 2) := by unfold Addr.add; simp
          rcases open_ints Try.underlying30 Try.underlying3 (by kernel_rfl) g1 with ⟨hcs, _⟩ | ⟨y, l, c', zs, hcs, _, hl', hm', hz', _, hcell, hwz⟩
          · simp at hcs
            subst hcs
            refine ⟨⟨t, none, 0, []⟩, fun _ => ⟨?_, a1, Row.nil _ _, w0⟩⟩
            first
              | exact a0.trans (by rw [e0])
              | (rw [hz] at a0; exact a0.trans (by rw [e0]))
          · simp at hcs
            subst hcs
            obtain ⟨S, e1, hr⟩ := rowI_of (w := W) (a := some y) (len := l) (cap := c') (zs := zs) (.inr ⟨_, rfl, hl', hm', by simpa using hz', hcell, hwz⟩)
            refine ⟨⟨t, some y, c', S⟩, fun _ => ⟨?_, by rw [a1, e1], hr, w0⟩⟩
            first
              | exact a0.trans (by rw [e0])
              | (rw [hz] at a0; exact a0.trans (by rw [e0]))
      · exact ⟨⟨0, none, 0, []⟩, fun h => absurd h hlt⟩
    obtain ⟨f, hf⟩ := Classical.skolem.1 one
    refine ⟨f, hl, hm, fun hn => ?_, fun i hi => ⟨(hf i hi).2.2.1, i64_bd (hf i hi).2.2.2⟩⟩
    have hq := (hf 0 hn).1
    rw [Nat.zero_mul, show x.add 0 = x from by unfold Addr.add; simp] at hq
    have hsp := spot_none hq
    obtain ⟨b, off, sp⟩ := x
    simp at hsp
    subst hsp
    refine ⟨b, off, rfl, ?_, fun i hi => ?_⟩
    · have h0 := (hf 0 hn).1
      rw [Addr.add_mid] at h0
      exact World.block_lt_of_cell? W _ h0
    · have h0 := (hf i hi).1
      have h1 := (hf i hi).2.1
      rw [Addr.add_mid] at h0 h1
      rw [Addr.add_mid] at h1
      exact ⟨h0, h1⟩

end Go.Proofs.Ytpiebklgpehafaa
