/- A packet that is handed in. (genWirArg.py) -/
import Derived.Test.YtanediaaidfcaaaWirX
import Derived.Test.YtanediaaidfcaaaWirMf
import Derived.Deep.Slices
import Derived.Deep.Fields
import Derived.ChangeSame
import Derived.OpenShut
import Derived.Deep.Strs
namespace Go.Proofs.Ytanediaaidfcaaa
open Go.RowKit Go.WideShapes Go.ChangeShapes Go.Deep
set_option linter.unusedSimpArgs false
set_option linter.unusedVariables false

theorem cons_ofW {α : Type} {l : List α} {n : Nat} (h : l.length = n + 1) : ∃ x t, l = x :: t ∧ t.length = n := by
  cases l with
  | nil => cases h
  | cons x t => exact ⟨x, t, rfl, by simpa using h⟩
set_option maxRecDepth 100000 in
theorem array43 {α : Type} {cs : Array α} (h : cs.size = 43) : ∃ x0 x1 x2 x3 x4 x5 x6 x7 x8 x9 x10 x11 x12 x13 x14 x15 x16 x17 x18 x19 x20 x21 x22 x23 x24 x25 x26 x27 x28 x29 x30 x31 x32 x33 x34 x35 x36 x37 x38 x39 x40 x41 x42, cs = #[x0, x1, x2, x3, x4, x5, x6, x7, x8, x9, x10, x11, x12, x13, x14, x15, x16, x17, x18, x19, x20, x21, x22, x23, x24, x25, x26, x27, x28, x29, x30, x31, x32, x33, x34, x35, x36, x37, x38, x39, x40, x41, x42] := by
  obtain ⟨l⟩ := cs
  have q0 : l.length = 43 := h
  obtain ⟨x0, t0, rfl, q1⟩ := cons_ofW (n := 42) q0
  obtain ⟨x1, t1, rfl, q2⟩ := cons_ofW (n := 41) q1
  obtain ⟨x2, t2, rfl, q3⟩ := cons_ofW (n := 40) q2
  obtain ⟨x3, t3, rfl, q4⟩ := cons_ofW (n := 39) q3
  obtain ⟨x4, t4, rfl, q5⟩ := cons_ofW (n := 38) q4
  obtain ⟨x5, t5, rfl, q6⟩ := cons_ofW (n := 37) q5
  obtain ⟨x6, t6, rfl, q7⟩ := cons_ofW (n := 36) q6
  obtain ⟨x7, t7, rfl, q8⟩ := cons_ofW (n := 35) q7
  obtain ⟨x8, t8, rfl, q9⟩ := cons_ofW (n := 34) q8
  obtain ⟨x9, t9, rfl, q10⟩ := cons_ofW (n := 33) q9
  obtain ⟨x10, t10, rfl, q11⟩ := cons_ofW (n := 32) q10
  obtain ⟨x11, t11, rfl, q12⟩ := cons_ofW (n := 31) q11
  obtain ⟨x12, t12, rfl, q13⟩ := cons_ofW (n := 30) q12
  obtain ⟨x13, t13, rfl, q14⟩ := cons_ofW (n := 29) q13
  obtain ⟨x14, t14, rfl, q15⟩ := cons_ofW (n := 28) q14
  obtain ⟨x15, t15, rfl, q16⟩ := cons_ofW (n := 27) q15
  obtain ⟨x16, t16, rfl, q17⟩ := cons_ofW (n := 26) q16
  obtain ⟨x17, t17, rfl, q18⟩ := cons_ofW (n := 25) q17
  obtain ⟨x18, t18, rfl, q19⟩ := cons_ofW (n := 24) q18
  obtain ⟨x19, t19, rfl, q20⟩ := cons_ofW (n := 23) q19
  obtain ⟨x20, t20, rfl, q21⟩ := cons_ofW (n := 22) q20
  obtain ⟨x21, t21, rfl, q22⟩ := cons_ofW (n := 21) q21
  obtain ⟨x22, t22, rfl, q23⟩ := cons_ofW (n := 20) q22
  obtain ⟨x23, t23, rfl, q24⟩ := cons_ofW (n := 19) q23
  obtain ⟨x24, t24, rfl, q25⟩ := cons_ofW (n := 18) q24
  obtain ⟨x25, t25, rfl, q26⟩ := cons_ofW (n := 17) q25
  obtain ⟨x26, t26, rfl, q27⟩ := cons_ofW (n := 16) q26
  obtain ⟨x27, t27, rfl, q28⟩ := cons_ofW (n := 15) q27
  obtain ⟨x28, t28, rfl, q29⟩ := cons_ofW (n := 14) q28
  obtain ⟨x29, t29, rfl, q30⟩ := cons_ofW (n := 13) q29
  obtain ⟨x30, t30, rfl, q31⟩ := cons_ofW (n := 12) q30
  obtain ⟨x31, t31, rfl, q32⟩ := cons_ofW (n := 11) q31
  obtain ⟨x32, t32, rfl, q33⟩ := cons_ofW (n := 10) q32
  obtain ⟨x33, t33, rfl, q34⟩ := cons_ofW (n := 9) q33
  obtain ⟨x34, t34, rfl, q35⟩ := cons_ofW (n := 8) q34
  obtain ⟨x35, t35, rfl, q36⟩ := cons_ofW (n := 7) q35
  obtain ⟨x36, t36, rfl, q37⟩ := cons_ofW (n := 6) q36
  obtain ⟨x37, t37, rfl, q38⟩ := cons_ofW (n := 5) q37
  obtain ⟨x38, t38, rfl, q39⟩ := cons_ofW (n := 4) q38
  obtain ⟨x39, t39, rfl, q40⟩ := cons_ofW (n := 3) q39
  obtain ⟨x40, t40, rfl, q41⟩ := cons_ofW (n := 2) q40
  obtain ⟨x41, t41, rfl, q42⟩ := cons_ofW (n := 1) q41
  obtain ⟨x42, t42, rfl, q43⟩ := cons_ofW (n := 0) q42
  obtain rfl := List.eq_nil_of_length_eq_zero q43
  exact ⟨x0, x1, x2, x3, x4, x5, x6, x7, x8, x9, x10, x11, x12, x13, x14, x15, x16, x17, x18, x19, x20, x21, x22, x23, x24, x25, x26, x27, x28, x29, x30, x31, x32, x33, x34, x35, x36, x37, x38, x39, x40, x41, x42, rfl⟩
theorem array43_ : True := trivial
theorem trod_atW {α : Type} {o : Option α} {l : List α} {j : Nat} (h : o = l[j]?) (hj : j < l.length) : ∃ y, o = some y := ⟨_, h.trans (List.getElem?_eq_getElem hj)⟩
theorem i64_small {n : Int} (h : (Lit.int .i64 n).wf = true) : n ≤ allI := (i64_bd h).2
theorem spot_noneW {W : World} {x : Addr} {n : ByteArray} (h : W.cell? x = some (.string n)) : x.spot = none := by
  unfold World.cell? at h
  cases hs : x.spot with
  | none => rfl
  | some q => simp [hs] at h; split at h <;> simp_all
theorem open_strN {H : Type} {enc : TypeId × Value → H} {W : World} {base : Nat} {held : Bool} {a : Value} {d : DataW H × List MemPlace} {fuel : Nat}
    (hf : DataW.trod enc Try.prog W base (fun _ => true) held fuel 25 [a] = some d) : ∃ (x : Option Addr) (c : Nat) (N : List (List UInt8)), a = .slice x N.length c ∧ Row W 1 x N.length c (N.map strV) := by
  rcases open_strs Try.underlying25 Try.underlying9 (by kernel_rfl) hf with ⟨hcs, _⟩ | ⟨x, len, cap, m, Sx, hcs, _, hl, hm, hmm, _, hi⟩
  · simp at hcs
    exact ⟨none, 0, [], hcs, Row.nil _ _⟩
  · simp at hcs
    have hnm : len ≤ m := by rw [hmm]; split <;> omega
    refine ⟨some x, cap, (List.range len).map (fun i => (Sx i).data.toList), by simpa using hcs, by simp, by simpa using hl, hm, (fun h => by cases h), fun hn => ?_⟩
    have hn' : 0 < len := by simpa using hn
    have hq := (hi 0 (by omega)).1
    rw [show x.add 0 = x from by unfold Addr.add; simp] at hq
    have hsp := spot_noneW hq
    obtain ⟨b, off, sp⟩ := x
    simp at hsp
    subst hsp
    refine ⟨b, off, rfl, World.block_lt_of_cell? W _ hq, fun j u hu => ?_⟩
    have hj := (List.getElem?_eq_some_iff.1 hu).1
    simp only [List.length_map, List.length_range] at hj
    have h1 := (hi j (by omega)).1
    rw [add_plain] at h1
    simp only [List.getElem?_map, List.getElem?_range hj, Option.map_some, Option.some.injEq] at hu
    rw [h1, ← hu]; rfl
theorem getD_le {l : List Int} {b : Int} (hb : 0 ≤ b) (h : ∀ x ∈ l, x ≤ b) (o : Nat) : l.getD o 0 ≤ b := by
  rw [List.getD_eq_getElem?_getD]
  cases hx : l[o]? with
  | none => exact hb
  | some v => exact h v (List.mem_of_getElem? hx)

set_option maxRecDepth 100000 in
set_option maxHeartbeats 8000000 in
theorem open_packet {H : Type} {enc : TypeId × Value → H} {W : World} {base base' : Nat} {held : Bool} {v : Value} {d : DataW H} {p : List MemPlace}
    (hv : Value.okWide Try.prog W .any base' 35 v) (h : DataW.Trod enc Try.prog W base (fun _ => true) held 35 v d p) :
    ∃ (P : PkM) (a : Option Addr) (c : Nat), v = .agg (pkC P a P.N.length c).toArray ∧ smallP P ∧ Row W 1 a P.N.length c (P.N.map strV) := by
  obtain ⟨cs, rfl, hsz⟩ := okWide_struct Try.underlying35 hv
  have k43 : Try.prog.cellsOf 35 = 43 := by kernel_rfl
  have kC : Try.prog.cellsOf 23 = 8 := by kernel_rfl
  have kR : Try.prog.cellsOf 29 = 7 := by kernel_rfl
  have kF : Try.prog.cellsOf 27 = 3 := by kernel_rfl
  have kN : Try.prog.cellsOf 33 = 15 := by kernel_rfl
  have k1 : Try.prog.cellsOf 3 = 1 := by kernel_rfl
  have kE : Try.prog.cellsOf 24 = 1 := by kernel_rfl
  have kS : Try.prog.cellsOf 9 = 1 := by kernel_rfl
  have kL : Try.prog.cellsOf 25 = 1 := by kernel_rfl
  have k4 : Try.prog.cellsOf 30 = 4 := by kernel_rfl
  have k8 : Try.prog.cellsOf 31 = 8 := by kernel_rfl
  obtain ⟨x0, x1, x2, x3, x4, x5, x6, x7, x8, x9, x10, x11, x12, x13, x14, x15, x16, x17, x18, x19, x20, x21, x22, x23, x24, x25, x26, x27, x28, x29, x30, x31, x32, x33, x34, x35, x36, x37, x38, x39, x40, x41, x42, rfl⟩ := array43 (hsz.trans k43)
  obtain ⟨fuel, hf⟩ := h
  obtain ⟨xs, n, _, hx, hl, hlen, hf⟩ := DataW.trod_struct Try.underlying35 hf
  have hlen' : xs.length = 16 := hlen
  obtain ⟨y0, h0⟩ := trod_atW (hf 0 _ rfl) (by omega)
  obtain ⟨y1, h1⟩ := trod_atW (hf 1 _ rfl) (by omega)
  obtain ⟨y2, h2⟩ := trod_atW (hf 2 _ rfl) (by omega)
  obtain ⟨y3, h3⟩ := trod_atW (hf 3 _ rfl) (by omega)
  obtain ⟨y4, h4⟩ := trod_atW (hf 4 _ rfl) (by omega)
  obtain ⟨y5, h5⟩ := trod_atW (hf 5 _ rfl) (by omega)
  obtain ⟨y6, h6⟩ := trod_atW (hf 6 _ rfl) (by omega)
  obtain ⟨y7, h7⟩ := trod_atW (hf 7 _ rfl) (by omega)
  obtain ⟨y8, h8⟩ := trod_atW (hf 8 _ rfl) (by omega)
  obtain ⟨y9, h9⟩ := trod_atW (hf 9 _ rfl) (by omega)
  obtain ⟨y10, h10⟩ := trod_atW (hf 10 _ rfl) (by omega)
  obtain ⟨y11, h11⟩ := trod_atW (hf 11 _ rfl) (by omega)
  obtain ⟨y12, h12⟩ := trod_atW (hf 12 _ rfl) (by omega)
  obtain ⟨y13, h13⟩ := trod_atW (hf 13 _ rfl) (by omega)
  obtain ⟨y14, h14⟩ := trod_atW (hf 14 _ rfl) (by omega)
  obtain ⟨y15, h15⟩ := trod_atW (hf 15 _ rfl) (by omega)
  simp [Value.cells, k1, kE, kS, kL, kC, kR, kF, kN, k4, k8] at h0 h1 h2 h3 h4 h5 h6 h7 h8 h9 h10 h11 h12 h13 h14 h15
  obtain ⟨xsC, nC, _, hxC, hlC, hlenC, hfC⟩ := DataW.trod_struct Try.underlying23 h10
  have hlenC' : xsC.length = 8 := hlenC
  obtain ⟨yC0, hC0⟩ := trod_atW (hfC 0 _ rfl) (by omega)
  obtain ⟨yC1, hC1⟩ := trod_atW (hfC 1 _ rfl) (by omega)
  obtain ⟨yC2, hC2⟩ := trod_atW (hfC 2 _ rfl) (by omega)
  obtain ⟨yC3, hC3⟩ := trod_atW (hfC 3 _ rfl) (by omega)
  obtain ⟨yC4, hC4⟩ := trod_atW (hfC 4 _ rfl) (by omega)
  obtain ⟨yC5, hC5⟩ := trod_atW (hfC 5 _ rfl) (by omega)
  obtain ⟨yC6, hC6⟩ := trod_atW (hfC 6 _ rfl) (by omega)
  obtain ⟨yC7, hC7⟩ := trod_atW (hfC 7 _ rfl) (by omega)
  simp [k1, kE, kS, kL, kC, kR, kF, kN, k4, k8] at hC0 hC1 hC2 hC3 hC4 hC5 hC6 hC7
  obtain ⟨xsR, nR, _, hxR, hlR, hlenR, hfR⟩ := DataW.trod_struct Try.underlying29 h13
  have hlenR' : xsR.length = 5 := hlenR
  obtain ⟨yR0, hR0⟩ := trod_atW (hfR 0 _ rfl) (by omega)
  obtain ⟨yR1, hR1⟩ := trod_atW (hfR 1 _ rfl) (by omega)
  obtain ⟨yR2, hR2⟩ := trod_atW (hfR 2 _ rfl) (by omega)
  obtain ⟨yR3, hR3⟩ := trod_atW (hfR 3 _ rfl) (by omega)
  obtain ⟨yR4, hR4⟩ := trod_atW (hfR 4 _ rfl) (by omega)
  simp [k1, kE, kS, kL, kC, kR, kF, kN, k4, k8] at hR0 hR1 hR2 hR3 hR4
  obtain ⟨xsF, nF, _, hxF, hlF, hlenF, hfF⟩ := DataW.trod_struct Try.underlying27 hR4
  have hlenF' : xsF.length = 3 := hlenF
  obtain ⟨yF0, hF0⟩ := trod_atW (hfF 0 _ rfl) (by omega)
  obtain ⟨yF1, hF1⟩ := trod_atW (hfF 1 _ rfl) (by omega)
  obtain ⟨yF2, hF2⟩ := trod_atW (hfF 2 _ rfl) (by omega)
  simp [k1, kE, kS, kL, kC, kR, kF, kN, k4, k8] at hF0 hF1 hF2
  obtain ⟨xsN, nN, _, hxN, hlN, hlenN, hfN⟩ := DataW.trod_struct Try.underlying33 h15
  have hlenN' : xsN.length = 5 := hlenN
  obtain ⟨yN0, hN0⟩ := trod_atW (hfN 0 _ rfl) (by omega)
  obtain ⟨yN1, hN1⟩ := trod_atW (hfN 1 _ rfl) (by omega)
  obtain ⟨yN2, hN2⟩ := trod_atW (hfN 2 _ rfl) (by omega)
  obtain ⟨yN3, hN3⟩ := trod_atW (hfN 3 _ rfl) (by omega)
  obtain ⟨yN4, hN4⟩ := trod_atW (hfN 4 _ rfl) (by omega)
  simp [k1, kE, kS, kL, kC, kR, kF, kN, k4, k8] at hN0 hN1 hN2 hN3 hN4
  obtain ⟨ysA, qA, _, _, _, hlyA, hiA⟩ := DataW.trod_array Try.underlying30 hN3
  obtain ⟨ysO, qO, _, _, _, hlyO, hiO⟩ := DataW.trod_array Try.underlying31 hN4
  have BA : ∀ j (hj : j < 4), ∃ m : Int, [x31, x32, x33, x34][j]'(by simpa using hj) = .int .i64 m ∧ (Lit.int .i64 m).wf = true := by
    intro j hj
    have h1 := hiA j hj
    rw [k1, Nat.mul_one] at h1
    obtain ⟨y, hy⟩ := trod_atW h1 (by omega)
    obtain ⟨m, e, _, w⟩ := DataW.trod_int Try.underlying3 hy
    refine ⟨m, ?_, w⟩
    rw [List.drop_eq_getElem_cons (by simpa using hj)] at e
    simpa using e
  obtain ⟨m31, e31, w31⟩ := BA 0 (by omega)
  obtain ⟨m32, e32, w32⟩ := BA 1 (by omega)
  obtain ⟨m33, e33, w33⟩ := BA 2 (by omega)
  obtain ⟨m34, e34, w34⟩ := BA 3 (by omega)
  have BO : ∀ j (hj : j < 8), ∃ m : Int, [x35, x36, x37, x38, x39, x40, x41, x42][j]'(by simpa using hj) = .int .i64 m ∧ (Lit.int .i64 m).wf = true := by
    intro j hj
    have h1 := hiO j hj
    rw [k1, Nat.mul_one] at h1
    obtain ⟨y, hy⟩ := trod_atW h1 (by omega)
    obtain ⟨m, e, _, w⟩ := DataW.trod_int Try.underlying3 hy
    refine ⟨m, ?_, w⟩
    rw [List.drop_eq_getElem_cons (by simpa using hj)] at e
    simpa using e
  obtain ⟨m35, e35, w35⟩ := BO 0 (by omega)
  obtain ⟨m36, e36, w36⟩ := BO 1 (by omega)
  obtain ⟨m37, e37, w37⟩ := BO 2 (by omega)
  obtain ⟨m38, e38, w38⟩ := BO 3 (by omega)
  obtain ⟨m39, e39, w39⟩ := BO 4 (by omega)
  obtain ⟨m40, e40, w40⟩ := BO 5 (by omega)
  obtain ⟨m41, e41, w41⟩ := BO 6 (by omega)
  obtain ⟨m42, e42, w42⟩ := BO 7 (by omega)
  obtain ⟨m0, e0, _, w0⟩ := DataW.trod_int Try.underlying3 h0
  obtain ⟨m1, e1, _, w1⟩ := DataW.trod_int Try.underlying3 h1
  obtain ⟨m2, e2, _, w2⟩ := DataW.trod_int Try.underlying3 h2
  obtain ⟨m3, e3, _, w3⟩ := DataW.trod_int Try.underlying3 h3
  obtain ⟨m4, e4, _, w4⟩ := DataW.trod_int Try.underlying3 h4
  obtain ⟨m5, e5, _, w5⟩ := DataW.trod_int Try.underlying3 h5
  obtain ⟨m6, e6, _, w6⟩ := DataW.trod_int Try.underlying3 h6
  obtain ⟨s7, e7, _⟩ := DataW.trod_string Try.underlying9 h7
  obtain ⟨m8, e8, _, w8⟩ := DataW.trod_int Try.underlying3 h8
  obtain ⟨m9, e9, _, w9⟩ := DataW.trod_int Try.underlying3 h9
  obtain ⟨m10, e10, _, w10⟩ := DataW.trod_int Try.underlying3 hC0
  obtain ⟨s11, e11, _⟩ := DataW.trod_string Try.underlying9 hC1
  obtain ⟨s12, e12, _⟩ := DataW.trod_string Try.underlying9 hC2
  obtain ⟨m13, e13, _, w13⟩ := DataW.trod_int Try.underlying3 hC3
  obtain ⟨m14, e14, _, w14⟩ := DataW.trod_int Try.underlying3 hC4
  obtain ⟨m15, e15, _, w15⟩ := DataW.trod_int Try.underlying3 hC5
  obtain ⟨m16, e16, _, w16⟩ := DataW.trod_int Try.underlying3 hC6
  obtain ⟨s17, e17, _⟩ := DataW.trod_string Try.underlying9 hC7
  obtain ⟨m18, e18, _, w18⟩ := DataW.trod_int Try.underlying3 h11
  obtain ⟨m19, e19, _, w19⟩ := DataW.trod_int Try.underlying24 h12
  obtain ⟨m20, e20, _, w20⟩ := DataW.trod_int Try.underlying24 hR0
  obtain ⟨m21, e21, _, w21⟩ := DataW.trod_int Try.underlying3 hR1
  obtain ⟨s22, e22, _⟩ := DataW.trod_string Try.underlying9 hR2
  obtain ⟨na, nc, N, e23, hrow⟩ := open_strN hR3
  obtain ⟨m24, e24, _, w24⟩ := DataW.trod_int Try.underlying3 hF0
  obtain ⟨m25, e25, _, w25⟩ := DataW.trod_int Try.underlying3 hF1
  obtain ⟨m26, e26, _, w26⟩ := DataW.trod_int Try.underlying3 hF2
  obtain ⟨m27, e27, _, w27⟩ := DataW.trod_int Try.underlying3 h14
  obtain ⟨m28, e28, _, w28⟩ := DataW.trod_int Try.underlying3 hN0
  obtain ⟨m29, e29, _, w29⟩ := DataW.trod_int Try.underlying3 hN1
  obtain ⟨m30, e30, _, w30⟩ := DataW.trod_int Try.underlying3 hN2
  simp only [List.cons.injEq, and_true, List.getElem_cons_zero, List.getElem_cons_succ] at e0 e1 e2 e3 e4 e5 e6 e7 e8 e9 e10 e11 e12 e13 e14 e15 e16 e17 e18 e19 e20 e21 e22 e24 e25 e26 e27 e28 e29 e30 e31 e32 e33 e34 e35 e36 e37 e38 e39 e40 e41 e42
  subst e0 e1 e2 e3 e4 e5 e6 e7 e8 e9 e10 e11 e12 e13 e14 e15 e16 e17 e18 e19 e20 e21 e22 e23 e24 e25 e26 e27 e28 e29 e30 e31 e32 e33 e34 e35 e36 e37 e38 e39 e40 e41 e42
  refine ⟨⟨fun k => ([m0, m1, m2, m3, m4, m5, m6, 0, m8, m9, m10, 0, 0, m13, m14, m15, m16, 0, m18, m19, m20, m21, 0, 0, m24, m25, m26, m27, m28, m29, m30, m31, m32, m33, m34, m35, m36, m37, m38, m39, m40, m41, m42] : List Int).getD k 0, fun k => if k = 7 then s7.data.toList else if k = 11 then s11.data.toList else if k = 12 then s12.data.toList else if k = 17 then s17.data.toList else s22.data.toList, N⟩, na, nc, rfl, getD_le (by unfold allI; omega) ?_, hrow⟩
  intro x hx
  simp only [List.mem_cons, List.not_mem_nil, or_false] at hx
  rcases hx with rfl | rfl | rfl | rfl | rfl | rfl | rfl | rfl | rfl | rfl | rfl | rfl | rfl | rfl | rfl | rfl | rfl | rfl | rfl | rfl | rfl | rfl | rfl | rfl | rfl | rfl | rfl | rfl | rfl | rfl | rfl | rfl | rfl | rfl | rfl | rfl | rfl | rfl | rfl | rfl | rfl | rfl | rfl
  · exact i64_small w0
  · exact i64_small w1
  · exact i64_small w2
  · exact i64_small w3
  · exact i64_small w4
  · exact i64_small w5
  · exact i64_small w6
  · exact (by unfold allI; omega)
  · exact i64_small w8
  · exact i64_small w9
  · exact i64_small w10
  · exact (by unfold allI; omega)
  · exact (by unfold allI; omega)
  · exact i64_small w13
  · exact i64_small w14
  · exact i64_small w15
  · exact i64_small w16
  · exact (by unfold allI; omega)
  · exact i64_small w18
  · exact i64_small w19
  · exact i64_small w20
  · exact i64_small w21
  · exact (by unfold allI; omega)
  · exact (by unfold allI; omega)
  · exact i64_small w24
  · exact i64_small w25
  · exact i64_small w26
  · exact i64_small w27
  · exact i64_small w28
  · exact i64_small w29
  · exact i64_small w30
  · exact i64_small w31
  · exact i64_small w32
  · exact i64_small w33
  · exact i64_small w34
  · exact i64_small w35
  · exact i64_small w36
  · exact i64_small w37
  · exact i64_small w38
  · exact i64_small w39
  · exact i64_small w40
  · exact i64_small w41
  · exact i64_small w42
end Go.Proofs.Ytanediaaidfcaaa
