import Derived.Test.YtnmblbkbiehodaaInoG
import Derived.Deep.Slices
import Derived.Deep.Fields
import Derived.ChangeSame
import Derived.OpenShut
namespace Go.Proofs.Ytnmblbkbiehodaa
open Go.RowKit Go.WideShapes Go.ChangeShapes Go.Deep
set_option linter.unusedSimpArgs false
set_option linter.unusedVariables false

theorem array15 {α : Type} {cs : Array α} (h : cs.size = 15) : ∃ x0 x1 x2 x3 x4 x5 x6 x7 x8 x9 x10 x11 x12 x13 x14, cs = #[x0, x1, x2, x3, x4, x5, x6, x7, x8, x9, x10, x11, x12, x13, x14] := by
  obtain ⟨l⟩ := cs
  match l, h with
  | [x0, x1, x2, x3, x4, x5, x6, x7, x8, x9, x10, x11, x12, x13, x14], _ => exact ⟨x0, x1, x2, x3, x4, x5, x6, x7, x8, x9, x10, x11, x12, x13, x14, rfl⟩
theorem trod_at11 {α : Type} {o : Option α} {l : List α} {j : Nat} (h : o = l[j]?) (hj : j < l.length) : ∃ y, o = some y := ⟨_, h.trans (List.getElem?_eq_getElem hj)⟩

set_option maxHeartbeats 1000000 in
theorem open_inode {H : Type} {enc : TypeId × Value → H} {W : World} {base base' : Nat} {spare : Nat → Bool} {held : Bool} {v : Value} {d : DataW H} {p : List MemPlace}
    (hv : Value.okWide Try.prog W .any base' 25 v) (h : DataW.Trod enc Try.prog W base spare held 25 v d p) : ∃ i : InoT, v = inoV i := by
  obtain ⟨cs, rfl, hsz⟩ := okWide_struct Try.underlying25 hv
  have k15 : Try.prog.cellsOf 25 = 15 := by kernel_rfl
  have k1 : Try.prog.cellsOf 3 = 1 := by kernel_rfl
  have k4 : Try.prog.cellsOf 22 = 4 := by kernel_rfl
  have k8 : Try.prog.cellsOf 23 = 8 := by kernel_rfl
  obtain ⟨x0, x1, x2, x3, x4, x5, x6, x7, x8, x9, x10, x11, x12, x13, x14, rfl⟩ := array15 (hsz.trans k15)
  obtain ⟨fuel, hf⟩ := h
  obtain ⟨xs, n, _, hx, hl, hlen, hf⟩ := DataW.trod_struct Try.underlying25 hf
  have hlen' : xs.length = 5 := hlen
  obtain ⟨y0, h0⟩ := trod_at11 (hf 0 _ rfl) (by omega)
  obtain ⟨y1, h1⟩ := trod_at11 (hf 1 _ rfl) (by omega)
  obtain ⟨y2, h2⟩ := trod_at11 (hf 2 _ rfl) (by omega)
  obtain ⟨y3, h3⟩ := trod_at11 (hf 3 _ rfl) (by omega)
  obtain ⟨y4, h4⟩ := trod_at11 (hf 4 _ rfl) (by omega)
  simp [Value.cells, k1, k4, k8] at h0 h1 h2 h3 h4
  obtain ⟨m0, e0, _, _⟩ := DataW.trod_int Try.underlying3 h0
  obtain ⟨m1, e1, _, _⟩ := DataW.trod_int Try.underlying3 h1
  obtain ⟨m2, e2, _, _⟩ := DataW.trod_int Try.underlying3 h2
  obtain ⟨ys, q, _, _, _, hly, hi⟩ := DataW.trod_array Try.underlying22 h3
  obtain ⟨zs, q', _, _, _, hlz, hi'⟩ := DataW.trod_array Try.underlying23 h4
  have B : ∀ j (hj : j < 4), ∃ m : Int, [x3, x4, x5, x6][j]'(by simpa using hj) = .int .i64 m := by
    intro j hj
    have h1 := hi j hj
    rw [k1, Nat.mul_one] at h1
    obtain ⟨y, hy⟩ := trod_at11 h1 (by omega)
    obtain ⟨m, e, _, _⟩ := DataW.trod_int Try.underlying3 hy
    refine ⟨m, ?_⟩
    rw [List.drop_eq_getElem_cons (by simpa using hj)] at e
    simpa using e
  have O : ∀ j (hj : j < 8), ∃ m : Int, [x7, x8, x9, x10, x11, x12, x13, x14][j]'(by simpa using hj) = .int .i64 m := by
    intro j hj
    have h1 := hi' j hj
    rw [k1, Nat.mul_one] at h1
    obtain ⟨y, hy⟩ := trod_at11 h1 (by omega)
    obtain ⟨m, e, _, _⟩ := DataW.trod_int Try.underlying3 hy
    refine ⟨m, ?_⟩
    rw [List.drop_eq_getElem_cons (by simpa using hj)] at e
    simpa using e
  obtain ⟨b0, g0⟩ := B 0 (by omega)
  obtain ⟨b1, g1⟩ := B 1 (by omega)
  obtain ⟨b2, g2⟩ := B 2 (by omega)
  obtain ⟨b3, g3⟩ := B 3 (by omega)
  obtain ⟨o0, p0⟩ := O 0 (by omega)
  obtain ⟨o1, p1⟩ := O 1 (by omega)
  obtain ⟨o2, p2⟩ := O 2 (by omega)
  obtain ⟨o3, p3⟩ := O 3 (by omega)
  obtain ⟨o4, p4⟩ := O 4 (by omega)
  obtain ⟨o5, p5⟩ := O 5 (by omega)
  obtain ⟨o6, p6⟩ := O 6 (by omega)
  obtain ⟨o7, p7⟩ := O 7 (by omega)
  simp only [List.cons.injEq, and_true, List.getElem_cons_zero, List.getElem_cons_succ] at e0 e1 e2 g0 g1 g2 g3 p0 p1 p2 p3 p4 p5 p6 p7
  subst e0 e1 e2 g0 g1 g2 g3 p0 p1 p2 p3 p4 p5 p6 p7
  exact ⟨⟨m0, m1, m2, b0, b1, b2, b3, o0, o1, o2, o3, o4, o5, o6, o7⟩, rfl⟩

end Go.Proofs.Ytnmblbkbiehodaa
