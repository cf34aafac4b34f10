/- A slot as an argument: opened to its six numbers. -/
import Derived.Test.YtpkmkmkknhnihaaSlotA
import Derived.Lib.SmallJoins
namespace Go.Proofs.Ytpkmkmkknhnihaa
open Go.RowKit Go.ChangeShapes Go.WideShapes Go.Joins
set_option linter.unusedSimpArgs false
set_option linter.unusedVariables false

theorem array6 {α : Type} {cs : Array α} (h : cs.size = 6) : ∃ a b c d e f, cs = #[a, b, c, d, e, f] := by
  obtain ⟨l⟩ := cs
  match l, h with
  | [a, b, c, d, e, f], _ => exact ⟨a, b, c, d, e, f, rfl⟩

theorem trod_at {α : Type} {o : Option α} {l : List α} {j : Nat} (h : o = l[j]?) (hj : j < l.length) : ∃ y, o = some y := ⟨_, h.trans (List.getElem?_eq_getElem hj)⟩

theorem open_slot {H : Type} {enc : TypeId × Value → H} {W : World} {base base' : Nat} {spare : Nat → Bool} {held : Bool} {v : Value} {d : DataW H} {p : List MemPlace}
    (hv : Value.okWide Try.prog W .any base' 26 v) (h : DataW.Trod enc Try.prog W base spare held 26 v d p) :
    ∃ e hd r er i wr : Int, v = slotV e hd r er i wr ∧ (Lit.int .i64 e).wf = true ∧ (Lit.int .i64 hd).wf = true ∧ (Lit.int .i64 r).wf = true ∧ (Lit.int .i64 er).wf = true ∧ (Lit.int .i64 i).wf = true ∧ (Lit.int .i64 wr).wf = true := by
  obtain ⟨cs, rfl, hsz⟩ := okWide_struct Try.underlying26 hv
  have k6 : Try.prog.cellsOf 26 = 6 := by kernel_rfl
  have k2 : Try.prog.cellsOf 24 = 2 := by kernel_rfl
  have k1 : Try.prog.cellsOf 3 = 1 := by kernel_rfl
  have k1' : Try.prog.cellsOf 22 = 1 := by kernel_rfl
  obtain ⟨c0, c1, c2, c3, c4, c5, rfl⟩ := array6 (hsz.trans k6)
  obtain ⟨fuel, hf⟩ := h
  obtain ⟨xs, n, _, hx, hl, hlen, hf⟩ := DataW.trod_struct Try.underlying26 hf
  have hlen' : xs.length = 5 := hlen
  obtain ⟨y0, h0⟩ := trod_at (hf 0 _ rfl) (by omega)
  obtain ⟨y1, h1⟩ := trod_at (hf 1 _ rfl) (by omega)
  obtain ⟨y2, h2⟩ := trod_at (hf 2 _ rfl) (by omega)
  obtain ⟨y3, h3⟩ := trod_at (hf 3 _ rfl) (by omega)
  obtain ⟨y4, h4⟩ := trod_at (hf 4 _ rfl) (by omega)
  simp [Value.cells, k1, k1', k2] at h0 h1 h2 h3 h4
  obtain ⟨xs', n', _, hx', hl', hlen2, hf'⟩ := DataW.trod_struct Try.underlying24 h3
  have hlen2' : xs'.length = 2 := hlen2
  obtain ⟨z0, g0⟩ := trod_at (hf' 0 _ rfl) (by omega)
  obtain ⟨z1, g1⟩ := trod_at (hf' 1 _ rfl) (by omega)
  simp [k1, k1'] at g0 g1
  obtain ⟨n0, e0, _, w0⟩ := DataW.trod_int Try.underlying3 h0
  obtain ⟨n1, e1, _, w1⟩ := DataW.trod_int Try.underlying3 h1
  obtain ⟨n2, e2, _, w2⟩ := DataW.trod_int Try.underlying3 h2
  obtain ⟨n3, e3, _, w3⟩ := DataW.trod_int Try.underlying22 g0
  obtain ⟨n4, e4, _, w4⟩ := DataW.trod_int Try.underlying3 g1
  obtain ⟨n5, e5, _, w5⟩ := DataW.trod_int Try.underlying3 h4
  simp only [List.cons.injEq, and_true] at e0 e1 e2 e3 e4 e5
  subst e0 e1 e2 e3 e4 e5
  exact ⟨n0, n1, n2, n3, n4, n5, rfl, w0, w1, w2, w3, w4, w5⟩

end Go.Proofs.Ytpkmkmkknhnihaa
