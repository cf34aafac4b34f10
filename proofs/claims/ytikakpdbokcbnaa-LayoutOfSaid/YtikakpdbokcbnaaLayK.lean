/- LayoutOf, LayoutIn. -/
import Derived.Test.YtikakpdbokcbnaaLayJ
import Derived.Lib.SmallJoins
namespace Go.Proofs.Ytikakpdbokcbnaa
open Go.RowKit Go.ChangeShapes Go.WideShapes Go.Joins
set_option linter.unusedSimpArgs false
set_option linter.unusedVariables false

theorem array4p {α : Type} {cs : Array α} (h : cs.size = 4) : ∃ a b c d, cs = #[a, b, c, d] := by
  obtain ⟨l⟩ := cs
  match l, h with
  | [a, b, c, d], _ => exact ⟨a, b, c, d, rfl⟩
theorem trod_atp {α : Type} {o : Option α} {l : List α} {j : Nat} (h : o = l[j]?) (hj : j < l.length) : ∃ y, o = some y := ⟨_, h.trans (List.getElem?_eq_getElem hj)⟩
theorem open_part {H : Type} {enc : TypeId × Value → H} {W : World} {base base' : Nat} {spare : Nat → Bool} {held : Bool} {v : Value} {d : DataW H} {p : List MemPlace}
    (hv : Value.okWide Try.prog W .any base' 23 v) (h : DataW.Trod enc Try.prog W base spare held 23 v d p) :
    ∃ k n a s : Int, v = .agg #[.int .i64 k, .int .i64 n, .int .i64 a, .int .i64 s] ∧ ((Lit.int .i64 k).wf = true ∧ (Lit.int .i64 n).wf = true ∧ (Lit.int .i64 a).wf = true ∧ (Lit.int .i64 s).wf = true) := by
  obtain ⟨cs, rfl, hsz⟩ := okWide_struct Try.underlying23 hv
  have k6 : Try.prog.cellsOf 23 = 4 := by kernel_rfl
  have k1 : Try.prog.cellsOf 3 = 1 := by kernel_rfl
  obtain ⟨c0, c1, c2, c3, rfl⟩ := array4p (hsz.trans k6)
  obtain ⟨fuel, hf⟩ := h
  obtain ⟨xs, n, _, hx, hl, hlen, hf⟩ := DataW.trod_struct Try.underlying23 hf
  have hlen' : xs.length = 4 := hlen
  obtain ⟨y0, h0⟩ := trod_atp (hf 0 _ rfl) (by omega)
  obtain ⟨y1, h1⟩ := trod_atp (hf 1 _ rfl) (by omega)
  obtain ⟨y2, h2⟩ := trod_atp (hf 2 _ rfl) (by omega)
  obtain ⟨y3, h3⟩ := trod_atp (hf 3 _ rfl) (by omega)
  simp [Value.cells, k1] at h0 h1 h2 h3
  obtain ⟨n0, e0, _, w0⟩ := DataW.trod_int Try.underlying3 h0
  obtain ⟨n1, e1, _, w1⟩ := DataW.trod_int Try.underlying3 h1
  obtain ⟨n2, e2, _, w2⟩ := DataW.trod_int Try.underlying3 h2
  obtain ⟨n3, e3, _, w3⟩ := DataW.trod_int Try.underlying3 h3
  simp only [List.cons.injEq, and_true] at e0 e1 e2 e3
  subst e0 e1 e2 e3
  exact ⟨n0, n1, n2, n3, rfl, w0, w1, w2, w3⟩

theorem in_of {k n a s at_ : Int} {b : Bool} (hb : inF ⟨k, n, a, s⟩ at_ 1 = b) (w : World) (ha : wfI a) (hs : wfI s) (hat : wfI at_) :
    Calls Try.prog 12 #[.agg #[.int .i64 k, .int .i64 n, .int .i64 a, .int .i64 s], .int .i64 at_, .int .i64 1] w fun e w' => e = .returned (.bool b) ∧ Below w.heap.size w w' := by
  have q := in_any k n a s at_ 1 w ha hs hat (by unfold wfI; omega)
  rw [hb] at q
  exact q

set_option maxHeartbeats 8000000 in
set_option maxRecDepth 100000 in
theorem LayoutOf_walk (w : World) (at_ : Int) (wat : (Lit.int .i64 at_).wf = true) (kd : Int) (wk : (Lit.int .i64 kd).wf = true) (nm : Int) (wn : (Lit.int .i64 nm).wf = true) :
    Calls Try.prog 4 #[.int .i64 at_, .int .i64 kd, .int .i64 nm] w fun e w' => e = .returned (.bool true) ∧ Below w.heap.size w w' := by
  have hat : wfI at_ := i64_bd wat
  have HR := fun w1 => refOf_any at_ w1 hat
  clear wat wk wn
  cases ho : ofP at_ with
  | none =>
    have HO := hid (fun w1 => of_no hat ho w1)
    rw [ho] at HR
    have HR : Hid (∀ w1 : World, Calls Try.prog 11 #[.int .i64 at_] w1 fun e w' => e = .returned (.tuple #[.int .i64 0, .int .i64 0]) ∧ w1 = w') := HR
    cases hf : findP kd nm with
    | none =>
      have HF := hid (fun w1 => find_no hf w1)
      clear ho hf
      go_enter Try.func4, Try.ntmps4
      go_wp2_with fail
      refine (HO.out _).mono ?_
      rintro e w1 ⟨rfl, b1⟩
      have HB1 : Hid (Below w.heap.size w (w1.alloc (.cells #[.int .i64 0, .int .i64 0, .int .i64 0, .int .i64 0] 23))) := b1.alloc b1.size _
      have K1 : Hid (Blk (w1.alloc (.cells #[.int .i64 0, .int .i64 0, .int .i64 0, .int .i64 0] 23)) w1.heap.size 23 [.int .i64 0, .int .i64 0, .int .i64 0, .int .i64 0]) := heap_alloc_new w1 _
      clear b1
      have z0 : (w1.alloc (.cells #[.int .i64 0, .int .i64 0, .int .i64 0, .int .i64 0] 23)).cell? ⟨w1.heap.size, 0, none⟩ = some (.int .i64 0) := K1.out.cell (i := 0) (by simp)
      have z1 : (w1.alloc (.cells #[.int .i64 0, .int .i64 0, .int .i64 0, .int .i64 0] 23)).cell? ⟨w1.heap.size, 1, none⟩ = some (.int .i64 0) := K1.out.cell (i := 1) (by simp)
      have z2 : (w1.alloc (.cells #[.int .i64 0, .int .i64 0, .int .i64 0, .int .i64 0] 23)).cell? ⟨w1.heap.size, 2, none⟩ = some (.int .i64 0) := K1.out.cell (i := 2) (by simp)
      have z3 : (w1.alloc (.cells #[.int .i64 0, .int .i64 0, .int .i64 0, .int .i64 0] 23)).cell? ⟨w1.heap.size, 3, none⟩ = some (.int .i64 0) := K1.out.cell (i := 3) (by simp)
      go_wp2_with fail
      refine (HR.out _).mono ?_
      rintro e wx ⟨rfl, rfl⟩
      go_wp2_with fail
      have HB2 := HB1
      have K2 := K1
      clear z0 z1 z2 z3
      refine (HF.out _).mono ?_
      rintro e w3 ⟨rfl, b3⟩
      have HB3 : Hid (Below w.heap.size w (w3.alloc (.cells #[.int .i64 0, .int .i64 0, .int .i64 0, .int .i64 0] 23))) := (kept_trans HB2.out b3).alloc (kept_trans HB2.out b3).size _
      have K3 : Hid (Blk (w3.alloc (.cells #[.int .i64 0, .int .i64 0, .int .i64 0, .int .i64 0] 23)) w3.heap.size 23 [.int .i64 0, .int .i64 0, .int .i64 0, .int .i64 0]) := heap_alloc_new w3 _
      have K13 : Hid (Blk (w3.alloc (.cells #[.int .i64 0, .int .i64 0, .int .i64 0, .int .i64 0] 23)) w1.heap.size 23 [.int .i64 0, .int .i64 0, .int .i64 0, .int .i64 0]) := (K2.out.mono b3).mono ((Below.refl _ _).alloc (Nat.le_refl _) _)
      clear b3
      have y0 : (w3.alloc (.cells #[.int .i64 0, .int .i64 0, .int .i64 0, .int .i64 0] 23)).cell? ⟨w3.heap.size, 0, none⟩ = some (.int .i64 0) := K3.out.cell (i := 0) (by simp)
      have y1 : (w3.alloc (.cells #[.int .i64 0, .int .i64 0, .int .i64 0, .int .i64 0] 23)).cell? ⟨w3.heap.size, 1, none⟩ = some (.int .i64 0) := K3.out.cell (i := 1) (by simp)
      have y2 : (w3.alloc (.cells #[.int .i64 0, .int .i64 0, .int .i64 0, .int .i64 0] 23)).cell? ⟨w3.heap.size, 2, none⟩ = some (.int .i64 0) := K3.out.cell (i := 2) (by simp)
      have y3 : (w3.alloc (.cells #[.int .i64 0, .int .i64 0, .int .i64 0, .int .i64 0] 23)).cell? ⟨w3.heap.size, 3, none⟩ = some (.int .i64 0) := K3.out.cell (i := 3) (by simp)
      go_wp2_with fail
      refine (lives04_any _).mono ?_
      rintro e w9 ⟨rfl, b9⟩
      have HB9 := hid (kept_trans HB3.out b9)
      clear b9
      go_wp2_with fail
      go_ret
      exact ⟨rfl, HB9.out⟩
    | some q =>
      have hq := (findP_mem hf).1
      have hpos := part_pos hq
      have h64 := parts_64 q hq
      have hin : inF q at_ 1 = false := by
        cases h : inF q at_ 1
        · rfl
        · rw [ofP_some hq h] at ho; cases ho
      obtain ⟨k', n', a', s'⟩ := q
      simp only at hpos h64
      have HF := hid (fun w1 => find_at hf w1)
      have HI2 := hid (fun w1 => in_of hin w1 (by unfold wfI; omega) (by unfold wfI; omega) hat)
      have d64 : (a' % 64 == 0) = true := by simpa using h64
      have h0a : 0 ≤ a' := hpos.1
      clear ho hf hin hq h64
      go_enter Try.func4, Try.ntmps4
      go_wp2_with fail
      refine (HO.out _).mono ?_
      rintro e w1 ⟨rfl, b1⟩
      have HB1 : Hid (Below w.heap.size w (w1.alloc (.cells #[.int .i64 0, .int .i64 0, .int .i64 0, .int .i64 0] 23))) := b1.alloc b1.size _
      have K1 : Hid (Blk (w1.alloc (.cells #[.int .i64 0, .int .i64 0, .int .i64 0, .int .i64 0] 23)) w1.heap.size 23 [.int .i64 0, .int .i64 0, .int .i64 0, .int .i64 0]) := heap_alloc_new w1 _
      clear b1
      have z0 : (w1.alloc (.cells #[.int .i64 0, .int .i64 0, .int .i64 0, .int .i64 0] 23)).cell? ⟨w1.heap.size, 0, none⟩ = some (.int .i64 0) := K1.out.cell (i := 0) (by simp)
      have z1 : (w1.alloc (.cells #[.int .i64 0, .int .i64 0, .int .i64 0, .int .i64 0] 23)).cell? ⟨w1.heap.size, 1, none⟩ = some (.int .i64 0) := K1.out.cell (i := 1) (by simp)
      have z2 : (w1.alloc (.cells #[.int .i64 0, .int .i64 0, .int .i64 0, .int .i64 0] 23)).cell? ⟨w1.heap.size, 2, none⟩ = some (.int .i64 0) := K1.out.cell (i := 2) (by simp)
      have z3 : (w1.alloc (.cells #[.int .i64 0, .int .i64 0, .int .i64 0, .int .i64 0] 23)).cell? ⟨w1.heap.size, 3, none⟩ = some (.int .i64 0) := K1.out.cell (i := 3) (by simp)
      go_wp2_with fail
      refine (HR.out _).mono ?_
      rintro e wx ⟨rfl, rfl⟩
      go_wp2_with fail
      have HB2 := HB1
      have K2 := K1
      clear z0 z1 z2 z3
      refine (HF.out _).mono ?_
      rintro e w3 ⟨rfl, b3⟩
      have HB3 : Hid (Below w.heap.size w (w3.alloc (.cells #[.int .i64 k', .int .i64 n', .int .i64 a', .int .i64 s'] 23))) := (kept_trans HB2.out b3).alloc (kept_trans HB2.out b3).size _
      have K3 : Hid (Blk (w3.alloc (.cells #[.int .i64 k', .int .i64 n', .int .i64 a', .int .i64 s'] 23)) w3.heap.size 23 [.int .i64 k', .int .i64 n', .int .i64 a', .int .i64 s']) := heap_alloc_new w3 _
      have K13 : Hid (Blk (w3.alloc (.cells #[.int .i64 k', .int .i64 n', .int .i64 a', .int .i64 s'] 23)) w1.heap.size 23 [.int .i64 0, .int .i64 0, .int .i64 0, .int .i64 0]) := (K2.out.mono b3).mono ((Below.refl _ _).alloc (Nat.le_refl _) _)
      clear b3
      have y0 : (w3.alloc (.cells #[.int .i64 k', .int .i64 n', .int .i64 a', .int .i64 s'] 23)).cell? ⟨w3.heap.size, 0, none⟩ = some (.int .i64 k') := K3.out.cell (i := 0) (by simp)
      have y1 : (w3.alloc (.cells #[.int .i64 k', .int .i64 n', .int .i64 a', .int .i64 s'] 23)).cell? ⟨w3.heap.size, 1, none⟩ = some (.int .i64 n') := K3.out.cell (i := 1) (by simp)
      have y2 : (w3.alloc (.cells #[.int .i64 k', .int .i64 n', .int .i64 a', .int .i64 s'] 23)).cell? ⟨w3.heap.size, 2, none⟩ = some (.int .i64 a') := K3.out.cell (i := 2) (by simp)
      have y3 : (w3.alloc (.cells #[.int .i64 k', .int .i64 n', .int .i64 a', .int .i64 s'] 23)).cell? ⟨w3.heap.size, 3, none⟩ = some (.int .i64 s') := K3.out.cell (i := 3) (by simp)
      go_wp2_with (go_at_call 12; refine (HI2.out _).mono ?_; rintro e w4 ⟨rfl, b4⟩; have HB4 := hid (kept_trans HB3.out b4); have q0 := (K3.out.mono b4).cell (i := 0) (by simp); have q1 := (K3.out.mono b4).cell (i := 1) (by simp); have q2 := (K3.out.mono b4).cell (i := 2) (by simp); have q3 := (K3.out.mono b4).cell (i := 3) (by simp); have r0 := (K13.out.mono b4).cell (i := 0) (by simp); have r1 := (K13.out.mono b4).cell (i := 1) (by simp); have r2 := (K13.out.mono b4).cell (i := 2) (by simp); have r3 := (K13.out.mono b4).cell (i := 3) (by simp); simp only [List.getElem_cons_zero, List.getElem_cons_succ] at q0 q1 q2 q3 r0 r1 r2 r3; clear b4)
      refine (lives04_any _).mono ?_
      rintro e w9 ⟨rfl, b9⟩
      have HB9 := hid (kept_trans HB4.out b9)
      clear b9
      go_wp2_with fail
      go_ret
      exact ⟨rfl, HB9.out⟩
  | some p =>
    have hp := (ofP_mem ho).1
    have hpin := (ofP_mem ho).2
    have hpos := part_pos hp
    obtain ⟨k, n, a, s⟩ := p
    simp only at hpos
    have HO := hid (fun w1 => of_at hat ho w1)
    rw [ho] at HR
    have HR : Hid (∀ w1 : World, Calls Try.prog 11 #[.int .i64 at_] w1 fun e w' => e = .returned (.tuple #[.int .i64 k, .int .i64 n]) ∧ w1 = w') := HR
    have HI1 := hid (fun w1 => in_of hpin w1 (by unfold wfI; omega) (by unfold wfI; omega) hat)
    have hk0 : 0 < k := by omega
    have dk : decide (0 < k) = true := decide_eq_true hk0
    cases hf : findP kd nm with
    | none =>
      have HF := hid (fun w1 => find_no hf w1)
      clear ho hf hpin hp
      go_enter Try.func4, Try.ntmps4
      go_wp2_with fail
      refine (HO.out _).mono ?_
      rintro e w1 ⟨rfl, b1⟩
      have HB1 : Hid (Below w.heap.size w (w1.alloc (.cells #[.int .i64 k, .int .i64 n, .int .i64 a, .int .i64 s] 23))) := b1.alloc b1.size _
      have K1 : Hid (Blk (w1.alloc (.cells #[.int .i64 k, .int .i64 n, .int .i64 a, .int .i64 s] 23)) w1.heap.size 23 [.int .i64 k, .int .i64 n, .int .i64 a, .int .i64 s]) := heap_alloc_new w1 _
      clear b1
      have z0 : (w1.alloc (.cells #[.int .i64 k, .int .i64 n, .int .i64 a, .int .i64 s] 23)).cell? ⟨w1.heap.size, 0, none⟩ = some (.int .i64 k) := K1.out.cell (i := 0) (by simp)
      have z1 : (w1.alloc (.cells #[.int .i64 k, .int .i64 n, .int .i64 a, .int .i64 s] 23)).cell? ⟨w1.heap.size, 1, none⟩ = some (.int .i64 n) := K1.out.cell (i := 1) (by simp)
      have z2 : (w1.alloc (.cells #[.int .i64 k, .int .i64 n, .int .i64 a, .int .i64 s] 23)).cell? ⟨w1.heap.size, 2, none⟩ = some (.int .i64 a) := K1.out.cell (i := 2) (by simp)
      have z3 : (w1.alloc (.cells #[.int .i64 k, .int .i64 n, .int .i64 a, .int .i64 s] 23)).cell? ⟨w1.heap.size, 3, none⟩ = some (.int .i64 s) := K1.out.cell (i := 3) (by simp)
      go_wp2_with fail
      refine (HR.out _).mono ?_
      rintro e wx ⟨rfl, rfl⟩
      go_wp2_with (go_at_call 12; refine (HI1.out _).mono ?_; rintro e w2 ⟨rfl, b2⟩; have HB2 := hid (kept_trans HB1.out b2); have K2 := hid (K1.out.mono b2); clear b2)
      clear z0 z1 z2 z3
      refine (HF.out _).mono ?_
      rintro e w3 ⟨rfl, b3⟩
      have HB3 : Hid (Below w.heap.size w (w3.alloc (.cells #[.int .i64 0, .int .i64 0, .int .i64 0, .int .i64 0] 23))) := (kept_trans HB2.out b3).alloc (kept_trans HB2.out b3).size _
      have K3 : Hid (Blk (w3.alloc (.cells #[.int .i64 0, .int .i64 0, .int .i64 0, .int .i64 0] 23)) w3.heap.size 23 [.int .i64 0, .int .i64 0, .int .i64 0, .int .i64 0]) := heap_alloc_new w3 _
      have K13 : Hid (Blk (w3.alloc (.cells #[.int .i64 0, .int .i64 0, .int .i64 0, .int .i64 0] 23)) w1.heap.size 23 [.int .i64 k, .int .i64 n, .int .i64 a, .int .i64 s]) := (K2.out.mono b3).mono ((Below.refl _ _).alloc (Nat.le_refl _) _)
      clear b3
      have y0 : (w3.alloc (.cells #[.int .i64 0, .int .i64 0, .int .i64 0, .int .i64 0] 23)).cell? ⟨w3.heap.size, 0, none⟩ = some (.int .i64 0) := K3.out.cell (i := 0) (by simp)
      have y1 : (w3.alloc (.cells #[.int .i64 0, .int .i64 0, .int .i64 0, .int .i64 0] 23)).cell? ⟨w3.heap.size, 1, none⟩ = some (.int .i64 0) := K3.out.cell (i := 1) (by simp)
      have y2 : (w3.alloc (.cells #[.int .i64 0, .int .i64 0, .int .i64 0, .int .i64 0] 23)).cell? ⟨w3.heap.size, 2, none⟩ = some (.int .i64 0) := K3.out.cell (i := 2) (by simp)
      have y3 : (w3.alloc (.cells #[.int .i64 0, .int .i64 0, .int .i64 0, .int .i64 0] 23)).cell? ⟨w3.heap.size, 3, none⟩ = some (.int .i64 0) := K3.out.cell (i := 3) (by simp)
      go_wp2_with fail
      refine (lives04_any _).mono ?_
      rintro e w9 ⟨rfl, b9⟩
      have HB9 := hid (kept_trans HB3.out b9)
      clear b9
      go_wp2_with fail
      go_ret
      exact ⟨rfl, HB9.out⟩
    | some q =>
      have hq := (findP_mem hf).1
      have hpos2 := part_pos hq
      have h64 := parts_64 q hq
      cases hin : inF q at_ 1 with
      | false =>
        obtain ⟨k', n', a', s'⟩ := q
        simp only at hpos2 h64
        have HF := hid (fun w1 => find_at hf w1)
        have HI2 := hid (fun w1 => in_of hin w1 (by unfold wfI; omega) (by unfold wfI; omega) hat)
        have d64 : (a' % 64 == 0) = true := by simpa using h64
        have h0a : 0 ≤ a' := hpos2.1
        clear ho hf hin hq h64 hpin hp
        go_enter Try.func4, Try.ntmps4
        go_wp2_with fail
        refine (HO.out _).mono ?_
        rintro e w1 ⟨rfl, b1⟩
        have HB1 : Hid (Below w.heap.size w (w1.alloc (.cells #[.int .i64 k, .int .i64 n, .int .i64 a, .int .i64 s] 23))) := b1.alloc b1.size _
        have K1 : Hid (Blk (w1.alloc (.cells #[.int .i64 k, .int .i64 n, .int .i64 a, .int .i64 s] 23)) w1.heap.size 23 [.int .i64 k, .int .i64 n, .int .i64 a, .int .i64 s]) := heap_alloc_new w1 _
        clear b1
        have z0 : (w1.alloc (.cells #[.int .i64 k, .int .i64 n, .int .i64 a, .int .i64 s] 23)).cell? ⟨w1.heap.size, 0, none⟩ = some (.int .i64 k) := K1.out.cell (i := 0) (by simp)
        have z1 : (w1.alloc (.cells #[.int .i64 k, .int .i64 n, .int .i64 a, .int .i64 s] 23)).cell? ⟨w1.heap.size, 1, none⟩ = some (.int .i64 n) := K1.out.cell (i := 1) (by simp)
        have z2 : (w1.alloc (.cells #[.int .i64 k, .int .i64 n, .int .i64 a, .int .i64 s] 23)).cell? ⟨w1.heap.size, 2, none⟩ = some (.int .i64 a) := K1.out.cell (i := 2) (by simp)
        have z3 : (w1.alloc (.cells #[.int .i64 k, .int .i64 n, .int .i64 a, .int .i64 s] 23)).cell? ⟨w1.heap.size, 3, none⟩ = some (.int .i64 s) := K1.out.cell (i := 3) (by simp)
        go_wp2_with fail
        refine (HR.out _).mono ?_
        rintro e wx ⟨rfl, rfl⟩
        go_wp2_with (go_at_call 12; refine (HI1.out _).mono ?_; rintro e w2 ⟨rfl, b2⟩; have HB2 := hid (kept_trans HB1.out b2); have K2 := hid (K1.out.mono b2); clear b2)
        clear z0 z1 z2 z3
        refine (HF.out _).mono ?_
        rintro e w3 ⟨rfl, b3⟩
        have HB3 : Hid (Below w.heap.size w (w3.alloc (.cells #[.int .i64 k', .int .i64 n', .int .i64 a', .int .i64 s'] 23))) := (kept_trans HB2.out b3).alloc (kept_trans HB2.out b3).size _
        have K3 : Hid (Blk (w3.alloc (.cells #[.int .i64 k', .int .i64 n', .int .i64 a', .int .i64 s'] 23)) w3.heap.size 23 [.int .i64 k', .int .i64 n', .int .i64 a', .int .i64 s']) := heap_alloc_new w3 _
        have K13 : Hid (Blk (w3.alloc (.cells #[.int .i64 k', .int .i64 n', .int .i64 a', .int .i64 s'] 23)) w1.heap.size 23 [.int .i64 k, .int .i64 n, .int .i64 a, .int .i64 s]) := (K2.out.mono b3).mono ((Below.refl _ _).alloc (Nat.le_refl _) _)
        clear b3
        have y0 : (w3.alloc (.cells #[.int .i64 k', .int .i64 n', .int .i64 a', .int .i64 s'] 23)).cell? ⟨w3.heap.size, 0, none⟩ = some (.int .i64 k') := K3.out.cell (i := 0) (by simp)
        have y1 : (w3.alloc (.cells #[.int .i64 k', .int .i64 n', .int .i64 a', .int .i64 s'] 23)).cell? ⟨w3.heap.size, 1, none⟩ = some (.int .i64 n') := K3.out.cell (i := 1) (by simp)
        have y2 : (w3.alloc (.cells #[.int .i64 k', .int .i64 n', .int .i64 a', .int .i64 s'] 23)).cell? ⟨w3.heap.size, 2, none⟩ = some (.int .i64 a') := K3.out.cell (i := 2) (by simp)
        have y3 : (w3.alloc (.cells #[.int .i64 k', .int .i64 n', .int .i64 a', .int .i64 s'] 23)).cell? ⟨w3.heap.size, 3, none⟩ = some (.int .i64 s') := K3.out.cell (i := 3) (by simp)
        go_wp2_with (go_at_call 12; refine (HI2.out _).mono ?_; rintro e w4 ⟨rfl, b4⟩; have HB4 := hid (kept_trans HB3.out b4); have q0 := (K3.out.mono b4).cell (i := 0) (by simp); have q1 := (K3.out.mono b4).cell (i := 1) (by simp); have q2 := (K3.out.mono b4).cell (i := 2) (by simp); have q3 := (K3.out.mono b4).cell (i := 3) (by simp); have r0 := (K13.out.mono b4).cell (i := 0) (by simp); have r1 := (K13.out.mono b4).cell (i := 1) (by simp); have r2 := (K13.out.mono b4).cell (i := 2) (by simp); have r3 := (K13.out.mono b4).cell (i := 3) (by simp); simp only [List.getElem_cons_zero, List.getElem_cons_succ] at q0 q1 q2 q3 r0 r1 r2 r3; clear b4)
        refine (lives04_any _).mono ?_
        rintro e w9 ⟨rfl, b9⟩
        have HB9 := hid (kept_trans HB4.out b9)
        clear b9
        go_wp2_with fail
        go_ret
        exact ⟨rfl, HB9.out⟩
      | true =>
        have e : q = ⟨k, n, a, s⟩ := parts_one hq hp hin hpin
        subst e
        simp only at h64
        have HF := hid (fun w1 => find_at hf w1)
        have HI2 := HI1
        have d64 : (a % 64 == 0) = true := by simpa using h64
        have h0a : 0 ≤ a := hpos.1
        have E := eqPartR k n a s
        clear ho hf hin hq h64 hpin hp hpos2
        go_enter Try.func4, Try.ntmps4
        go_wp2_with fail
        refine (HO.out _).mono ?_
        rintro e w1 ⟨rfl, b1⟩
        have HB1 : Hid (Below w.heap.size w (w1.alloc (.cells #[.int .i64 k, .int .i64 n, .int .i64 a, .int .i64 s] 23))) := b1.alloc b1.size _
        have K1 : Hid (Blk (w1.alloc (.cells #[.int .i64 k, .int .i64 n, .int .i64 a, .int .i64 s] 23)) w1.heap.size 23 [.int .i64 k, .int .i64 n, .int .i64 a, .int .i64 s]) := heap_alloc_new w1 _
        clear b1
        have z0 : (w1.alloc (.cells #[.int .i64 k, .int .i64 n, .int .i64 a, .int .i64 s] 23)).cell? ⟨w1.heap.size, 0, none⟩ = some (.int .i64 k) := K1.out.cell (i := 0) (by simp)
        have z1 : (w1.alloc (.cells #[.int .i64 k, .int .i64 n, .int .i64 a, .int .i64 s] 23)).cell? ⟨w1.heap.size, 1, none⟩ = some (.int .i64 n) := K1.out.cell (i := 1) (by simp)
        have z2 : (w1.alloc (.cells #[.int .i64 k, .int .i64 n, .int .i64 a, .int .i64 s] 23)).cell? ⟨w1.heap.size, 2, none⟩ = some (.int .i64 a) := K1.out.cell (i := 2) (by simp)
        have z3 : (w1.alloc (.cells #[.int .i64 k, .int .i64 n, .int .i64 a, .int .i64 s] 23)).cell? ⟨w1.heap.size, 3, none⟩ = some (.int .i64 s) := K1.out.cell (i := 3) (by simp)
        go_wp2_with fail
        refine (HR.out _).mono ?_
        rintro e wx ⟨rfl, rfl⟩
        go_wp2_with (go_at_call 12; refine (HI1.out _).mono ?_; rintro e w2 ⟨rfl, b2⟩; have HB2 := hid (kept_trans HB1.out b2); have K2 := hid (K1.out.mono b2); clear b2)
        clear z0 z1 z2 z3
        refine (HF.out _).mono ?_
        rintro e w3 ⟨rfl, b3⟩
        have HB3 : Hid (Below w.heap.size w (w3.alloc (.cells #[.int .i64 k, .int .i64 n, .int .i64 a, .int .i64 s] 23))) := (kept_trans HB2.out b3).alloc (kept_trans HB2.out b3).size _
        have K3 : Hid (Blk (w3.alloc (.cells #[.int .i64 k, .int .i64 n, .int .i64 a, .int .i64 s] 23)) w3.heap.size 23 [.int .i64 k, .int .i64 n, .int .i64 a, .int .i64 s]) := heap_alloc_new w3 _
        have K13 : Hid (Blk (w3.alloc (.cells #[.int .i64 k, .int .i64 n, .int .i64 a, .int .i64 s] 23)) w1.heap.size 23 [.int .i64 k, .int .i64 n, .int .i64 a, .int .i64 s]) := (K2.out.mono b3).mono ((Below.refl _ _).alloc (Nat.le_refl _) _)
        clear b3
        have y0 : (w3.alloc (.cells #[.int .i64 k, .int .i64 n, .int .i64 a, .int .i64 s] 23)).cell? ⟨w3.heap.size, 0, none⟩ = some (.int .i64 k) := K3.out.cell (i := 0) (by simp)
        have y1 : (w3.alloc (.cells #[.int .i64 k, .int .i64 n, .int .i64 a, .int .i64 s] 23)).cell? ⟨w3.heap.size, 1, none⟩ = some (.int .i64 n) := K3.out.cell (i := 1) (by simp)
        have y2 : (w3.alloc (.cells #[.int .i64 k, .int .i64 n, .int .i64 a, .int .i64 s] 23)).cell? ⟨w3.heap.size, 2, none⟩ = some (.int .i64 a) := K3.out.cell (i := 2) (by simp)
        have y3 : (w3.alloc (.cells #[.int .i64 k, .int .i64 n, .int .i64 a, .int .i64 s] 23)).cell? ⟨w3.heap.size, 3, none⟩ = some (.int .i64 s) := K3.out.cell (i := 3) (by simp)
        go_wp2_with (go_at_call 12; refine (HI2.out _).mono ?_; rintro e w4 ⟨rfl, b4⟩; have HB4 := hid (kept_trans HB3.out b4); have q0 := (K3.out.mono b4).cell (i := 0) (by simp); have q1 := (K3.out.mono b4).cell (i := 1) (by simp); have q2 := (K3.out.mono b4).cell (i := 2) (by simp); have q3 := (K3.out.mono b4).cell (i := 3) (by simp); have r0 := (K13.out.mono b4).cell (i := 0) (by simp); have r1 := (K13.out.mono b4).cell (i := 1) (by simp); have r2 := (K13.out.mono b4).cell (i := 2) (by simp); have r3 := (K13.out.mono b4).cell (i := 3) (by simp); simp only [List.getElem_cons_zero, List.getElem_cons_succ] at q0 q1 q2 q3 r0 r1 r2 r3; clear b4)
        refine (lives04_any _).mono ?_
        rintro e w9 ⟨rfl, b9⟩
        have HB9 := hid (kept_trans HB4.out b9)
        clear b9
        go_wp2_with fail
        go_ret
        exact ⟨rfl, HB9.out⟩

set_option maxHeartbeats 8000000 in
set_option maxRecDepth 100000 in
theorem LayoutIn_walk (w : World) (k m a s : Int) (wp : (Lit.int .i64 k).wf = true ∧ (Lit.int .i64 m).wf = true ∧ (Lit.int .i64 a).wf = true ∧ (Lit.int .i64 s).wf = true) (at_ : Int) (wat : (Lit.int .i64 at_).wf = true) (n : Int) (wn : (Lit.int .i64 n).wf = true) :
    Calls Try.prog 5 #[.agg #[.int .i64 k, .int .i64 m, .int .i64 a, .int .i64 s], .int .i64 at_, .int .i64 n] w fun e w' => e = .returned (.bool true) ∧ Below w.heap.size w w' := by
  have hat : wfI at_ := i64_bd wat
  have hn : wfI n := i64_bd wn
  have ha : wfI a := i64_bd wp.2.2.1
  have hs : wfI s := i64_bd wp.2.2.2
  have HI := fun w1 => in_any k m a s at_ n w1 ha hs hat hn
  clear wp wat wn
  unfold wfI at *
  have HB0 : Hid (Below w.heap.size w (w.alloc (.cells #[.int .i64 k, .int .i64 m, .int .i64 a, .int .i64 s] 23))) := (Below.refl w.heap.size w).alloc (Nat.le_refl _) _
  by_cases t0 : a < -1099511627776
  · have d0 : decide (a < -1099511627776) = true := decide_eq_true t0
    clear HI
    go_enter Try.func5, Try.ntmps5
    go_wp2_with (go_at_call 9; refine (lives04_any _).mono ?_; rintro e w9' ⟨rfl, b9⟩; have HB9 := hid (kept_trans HB0.out b9); clear b9)
    go_ret
    exact ⟨rfl, HB9.out⟩
  have d0 : decide (a < -1099511627776) = false := decide_eq_false t0
  by_cases t1 : 1099511627776 < a
  · have d1 : decide (1099511627776 < a) = true := decide_eq_true t1
    clear HI
    go_enter Try.func5, Try.ntmps5
    go_wp2_with (go_at_call 9; refine (lives04_any _).mono ?_; rintro e w9' ⟨rfl, b9⟩; have HB9 := hid (kept_trans HB0.out b9); clear b9)
    go_ret
    exact ⟨rfl, HB9.out⟩
  have d1 : decide (1099511627776 < a) = false := decide_eq_false t1
  by_cases t2 : s < -1099511627776
  · have d2 : decide (s < -1099511627776) = true := decide_eq_true t2
    clear HI
    go_enter Try.func5, Try.ntmps5
    go_wp2_with (go_at_call 9; refine (lives04_any _).mono ?_; rintro e w9' ⟨rfl, b9⟩; have HB9 := hid (kept_trans HB0.out b9); clear b9)
    go_ret
    exact ⟨rfl, HB9.out⟩
  have d2 : decide (s < -1099511627776) = false := decide_eq_false t2
  by_cases t3 : 1099511627776 < s
  · have d3 : decide (1099511627776 < s) = true := decide_eq_true t3
    clear HI
    go_enter Try.func5, Try.ntmps5
    go_wp2_with (go_at_call 9; refine (lives04_any _).mono ?_; rintro e w9' ⟨rfl, b9⟩; have HB9 := hid (kept_trans HB0.out b9); clear b9)
    go_ret
    exact ⟨rfl, HB9.out⟩
  have d3 : decide (1099511627776 < s) = false := decide_eq_false t3
  by_cases t4 : at_ < -1099511627776
  · have d4 : decide (at_ < -1099511627776) = true := decide_eq_true t4
    clear HI
    go_enter Try.func5, Try.ntmps5
    go_wp2_with (go_at_call 9; refine (lives04_any _).mono ?_; rintro e w9' ⟨rfl, b9⟩; have HB9 := hid (kept_trans HB0.out b9); clear b9)
    go_ret
    exact ⟨rfl, HB9.out⟩
  have d4 : decide (at_ < -1099511627776) = false := decide_eq_false t4
  by_cases t5 : 1099511627776 < at_
  · have d5 : decide (1099511627776 < at_) = true := decide_eq_true t5
    clear HI
    go_enter Try.func5, Try.ntmps5
    go_wp2_with (go_at_call 9; refine (lives04_any _).mono ?_; rintro e w9' ⟨rfl, b9⟩; have HB9 := hid (kept_trans HB0.out b9); clear b9)
    go_ret
    exact ⟨rfl, HB9.out⟩
  have d5 : decide (1099511627776 < at_) = false := decide_eq_false t5
  by_cases t6 : 1099511627776 < n
  · have d6 : decide (1099511627776 < n) = true := decide_eq_true t6
    clear HI
    go_enter Try.func5, Try.ntmps5
    go_wp2_with (go_at_call 9; refine (lives04_any _).mono ?_; rintro e w9' ⟨rfl, b9⟩; have HB9 := hid (kept_trans HB0.out b9); clear b9)
    go_ret
    exact ⟨rfl, HB9.out⟩
  have d6 : decide (1099511627776 < n) = false := decide_eq_false t6
  by_cases t7 : n < -1099511627776
  · have d7 : decide (n < -1099511627776) = true := decide_eq_true t7
    clear HI
    go_enter Try.func5, Try.ntmps5
    go_wp2_with (go_at_call 9; refine (lives04_any _).mono ?_; rintro e w9' ⟨rfl, b9⟩; have HB9 := hid (kept_trans HB0.out b9); clear b9)
    go_ret
    exact ⟨rfl, HB9.out⟩
  have d7 : decide (n < -1099511627776) = false := decide_eq_false t7
  by_cases g0 : n < 0
  · have hb : inF ⟨k, m, a, s⟩ at_ n = false := decide_eq_false (by show ¬ (0 ≤ n ∧ n ≤ s ∧ a ≤ at_ ∧ at_ - a ≤ s - n); omega)
    rw [hb] at HI
    have HI := hid HI
    have c0 : decide (0 ≤ n) = false := decide_eq_false (by omega)
    clear hb
    go_enter Try.func5, Try.ntmps5
    go_wp2_with (first
      | (go_at_call 12; refine (HI.out _).mono ?_; rintro e w2 ⟨rfl, b2⟩; have HB2 := hid (kept_trans HB0.out b2); clear b2)
      | (go_at_call 9; refine (lives04_any _).mono ?_; rintro e w9' ⟨rfl, b9⟩; have HB9 := hid (kept_trans HB2.out b9); clear b9))
    go_ret
    exact ⟨rfl, HB9.out⟩
  by_cases g1 : at_ < a
  · have hb : inF ⟨k, m, a, s⟩ at_ n = false := decide_eq_false (by show ¬ (0 ≤ n ∧ n ≤ s ∧ a ≤ at_ ∧ at_ - a ≤ s - n); omega)
    rw [hb] at HI
    have HI := hid HI
    have c0 : decide (0 ≤ n) = true := decide_eq_true (by omega)
    have c1 : decide (a ≤ at_) = false := decide_eq_false (by omega)
    clear hb
    go_enter Try.func5, Try.ntmps5
    go_wp2_with (first
      | (go_at_call 12; refine (HI.out _).mono ?_; rintro e w2 ⟨rfl, b2⟩; have HB2 := hid (kept_trans HB0.out b2); clear b2)
      | (go_at_call 9; refine (lives04_any _).mono ?_; rintro e w9' ⟨rfl, b9⟩; have HB9 := hid (kept_trans HB2.out b9); clear b9))
    go_ret
    exact ⟨rfl, HB9.out⟩
  by_cases g2 : a + s < at_ + n
  · have hb : inF ⟨k, m, a, s⟩ at_ n = false := decide_eq_false (by show ¬ (0 ≤ n ∧ n ≤ s ∧ a ≤ at_ ∧ at_ - a ≤ s - n); omega)
    rw [hb] at HI
    have HI := hid HI
    have c0 : decide (0 ≤ n) = true := decide_eq_true (by omega)
    have c1 : decide (a ≤ at_) = true := decide_eq_true (by omega)
    have c2 : decide (at_ + n ≤ a + s) = false := decide_eq_false (by omega)
    clear hb
    go_enter Try.func5, Try.ntmps5
    go_wp2_with (first
      | (go_at_call 12; refine (HI.out _).mono ?_; rintro e w2 ⟨rfl, b2⟩; have HB2 := hid (kept_trans HB0.out b2); clear b2)
      | (go_at_call 9; refine (lives04_any _).mono ?_; rintro e w9' ⟨rfl, b9⟩; have HB9 := hid (kept_trans HB2.out b9); clear b9))
    go_ret
    exact ⟨rfl, HB9.out⟩
  · have hb : inF ⟨k, m, a, s⟩ at_ n = true := decide_eq_true (by show 0 ≤ n ∧ n ≤ s ∧ a ≤ at_ ∧ at_ - a ≤ s - n; omega)
    rw [hb] at HI
    have HI := hid HI
    have c0 : decide (0 ≤ n) = true := decide_eq_true (by omega)
    have c1 : decide (a ≤ at_) = true := decide_eq_true (by omega)
    have c2 : decide (at_ + n ≤ a + s) = true := decide_eq_true (by omega)
    clear hb
    go_enter Try.func5, Try.ntmps5
    go_wp2_with (first
      | (go_at_call 12; refine (HI.out _).mono ?_; rintro e w2 ⟨rfl, b2⟩; have HB2 := hid (kept_trans HB0.out b2); clear b2)
      | (go_at_call 9; refine (lives04_any _).mono ?_; rintro e w9' ⟨rfl, b9⟩; have HB9 := hid (kept_trans HB2.out b9); clear b9))
    go_ret
    exact ⟨rfl, HB9.out⟩

end Go.Proofs.Ytikakpdbokcbnaa
