import Derived.Test.YtpkmkmkknhnihaaSlotH
import Derived.Laws.Rows
namespace Go.Proofs.Ytpkmkmkknhnihaa
open Go.RowKit
set_option linter.unusedSimpArgs false
set_option linter.unusedVariables false

theorem le_ofLE (ys : List UInt8) : le ys.length (ofLE ys) = ys := by
  induction ys with
  | nil => rfl
  | cons y ys ih =>
    have hy := y.toNat_lt
    simp only [List.length_cons, le, ofLE]
    have e1 : (y.toNat + 256 * ofLE ys) / 256 = ofLE ys := by omega
    have e2 : UInt8.ofNat (y.toNat + 256 * ofLE ys) = y := by
      apply UInt8.toNat_inj.1; simp
    rw [e1, ih, e2]

theorem results_slot {fn : Func} {c u : Tmp} (h : fn.results = #[.cell c 26, .tmp u]) {tmps : Array Value} {w : World} {g : Nat} {L : List Value} (hc : tmps.getD c undef = .pointer (some ⟨g, 0, none⟩)) (hb : Blk w g 26 L) (hl : L.length = 6) :
    (results fn tmps).run Try.prog w = .ok (.tuple #[.agg L.toArray, tmps.getD u undef]) w := by
  have hv := run_loadVar_row (P := Try.prog) w g 26 26 L.toArray (0, 0) _ hb Try.underlying26 rfl (by
    have : (Try.prog.info? 26).map (·.size) = some 6 := by kernel_rfl
    rw [this]; simp [hl])
  have hc' : tmps[c]?.getD undef = .pointer (some ⟨g, 0, none⟩) := by simpa using hc
  simp [results, h, hc', asAddr, hv]

/-- the numbers that a slot's bytes bear -/
def gN (xs : List UInt8) (at_ k : Nat) : Nat := (getF xs at_ k).getD 0
def rsM (xs : List UInt8) : Bool := mayS (gN xs 0 4) (gN xs 4 4) (gN xs 8 8) (gN xs 16 1) (gN xs 17 1) (gN xs 18 8)
def rsL (xs : List UInt8) : List UInt8 := slotL (gN xs 0 4) (gN xs 4 4) (gN xs 8 8) (gN xs 16 1) (gN xs 17 1) (gN xs 18 8)
def rsGood (xs : List UInt8) : Bool := rsM xs && decide (xs.take 64 = rsL xs)
def zero6 : Value := slotV 0 0 0 0 0 0
def rsS (xs : List UInt8) : Value := slotV (gN xs 0 4) (gN xs 4 4) (gN xs 8 8) (gN xs 16 1) (gN xs 17 1) (gN xs 18 8)
def rsV (xs : List UInt8) : Value := if chk xs = 0 then (if rsGood xs then rsS xs else zero6) else zero6
def rsE (xs : List UInt8) : Int := if chk xs = 0 then (if rsGood xs then 0 else 2) else chk xs
theorem gN_le (xs : List UInt8) (a k : Nat) : gN xs a k ≤ 9223372036854775807 := by
  unfold gN getF; split
  · split
    · simpa
    · simp
  · simp
theorem slotL_length {e h r er i wr : Int} (hm : mayS e h r er i wr = true) : (slotL e h r er i wr).length = 64 := by
  unfold slotL; rw [if_pos hm]
  have := foldF_length_le [] (slotF e h r er i wr)
  exact sealF_length (by simp [slotF] at this ⊢; omega)

theorem set6 {w : World} {g : Nat} {L : List Value} (h : Blk w g 26 L) (hl : L.length = 6) (v0 v1 v2 v3 v4 v5 : Value) :
    Blk ((((((w.setCell ⟨g, 0, none⟩ v0).setCell ⟨g, 1, none⟩ v1).setCell ⟨g, 2, none⟩ v2).setCell ⟨g, 3, none⟩ v3).setCell ⟨g, 4, none⟩ v4).setCell ⟨g, 5, none⟩ v5) g 26 [v0, v1, v2, v3, v4, v5] := by
  match L, hl with
  | [a, b, c, d, e, f], _ => exact (((((h.set 0 v0).set 1 v1).set 2 v2).set 3 v3).set 4 v4).set 5 v5
theorem bel6 {w0 w : World} {B g : Nat} (h : Below B w0 w) (hg : B ≤ g) (v0 v1 v2 v3 v4 v5 : Value) :
    Below B w0 ((((((w.setCell ⟨g, 0, none⟩ v0).setCell ⟨g, 1, none⟩ v1).setCell ⟨g, 2, none⟩ v2).setCell ⟨g, 3, none⟩ v3).setCell ⟨g, 4, none⟩ v4).setCell ⟨g, 5, none⟩ v5) :=
  (((((h.setCell hg v0).setCell hg v1).setCell hg v2).setCell hg v3).setCell hg v4).setCell hg v5

theorem Blk.grown {w w' : World} {g k : Nat} {e : TypeId} {L : List Value} (h : Blk w g e L) (G : w.grownBy w' (some k)) (hne : g ≠ k) : Blk w' g e L := (G.block g h.lt (by simpa using hne)).trans h
theorem Blk.setOther {w : World} {g k : Nat} {e : TypeId} {L : List Value} (h : Blk w g e L) (hne : g ≠ k) (i : Nat) (v : Value) : Blk (w.setCell ⟨k, i, none⟩ v) g e L := h.grown (grown_set (grown_refl w (some k)) i v) hne

/-- what holds while the closure is read: its two variables, the result's cell -/
structure RdInv (w0 : World) (a : Option Addr) (c : Nat) (xs : List UInt8) (Bb Ba P : Nat) (w : World) : Prop where
  b : Blk w Bb 27 [.slice a xs.length c]
  p : Blk w Ba 3 [.int .i64 (P : Nat)]
  z : Blk w w0.heap.size 26 [.int .i64 0, .int .i64 0, .int .i64 0, .int .i64 0, .int .i64 0, .int .i64 0]
  bel : Below w0.heap.size w0 w
  ne : Bb ≠ Ba
  lt : w0.heap.size < Ba
theorem RdInv.alloc {w0 : World} {a : Option Addr} {c : Nat} {xs : List UInt8} {Bb Ba P : Nat} {w : World} (h : RdInv w0 a c xs Bb Ba P w) (o : Obj) : RdInv w0 a c xs Bb Ba P (w.alloc o) := by
  have k := (Below.refl w.heap.size w).alloc (Nat.le_refl _) o
  exact ⟨h.b.mono k, h.p.mono k, h.z.mono k, h.bel.alloc h.bel.size o, h.ne, h.lt⟩
theorem RdInv.set {w0 : World} {a : Option Addr} {c : Nat} {xs : List UInt8} {Bb Ba P : Nat} {w : World} (h : RdInv w0 a c xs Bb Ba P w) {S : Nat} (h1 : Bb < S) (h2 : Ba < S) (i : Nat) (v : Value) : RdInv w0 a c xs Bb Ba P (w.setCell ⟨S, i, none⟩ v) := by
  have := h.lt
  exact ⟨h.b.setOther (by omega) i v, h.p.setOther (by omega) i v, h.z.setOther (by omega) i v, h.bel.setCell (show w0.heap.size ≤ S by omega) _, h.ne, h.lt⟩

/-- one reading of the closure, with what it keeps -/
theorem next_inv (w0 : World) (a : Option Addr) (c : Nat) (xs : List UInt8) (P k Bb Ba : Nat) (w : World) (ha : RowB w0 a c xs) (h : RdInv w0 a c xs Bb Ba P w) (hs : P ≤ 1000 ∧ k ≤ 1000) :
    Calls Try.prog 36 #[.int .i64 k, .pointer (some ⟨Bb, 0, none⟩), .pointer (some ⟨Ba, 0, none⟩)] w fun e w' => e = .returned (.int .i64 (gN xs P k : Nat)) ∧ RdInv w0 a c xs Bb Ba (P + k) w' ∧ w.grownBy w' (some Ba) := by
  refine (next_any a c xs P k Bb Ba w (ha.mono h.bel) h.b h.p hs).mono ?_
  rintro e w' ⟨rfl, rfl⟩
  have hl := h.lt
  refine ⟨rfl, ⟨h.b.setOther h.ne _ _, Blk.set h.p 0 _, h.z.setOther (by omega) _ _, h.bel.setCell (Nat.le_of_lt hl) _, h.ne, hl⟩, grown_set (grown_refl w _) _ _⟩

set_option maxHeartbeats 4000000 in
theorem readS_any (a : Option Addr) (c : Nat) (xs : List UInt8) (w : World) (ha : RowB w a c xs) :
    Calls Try.prog 13 #[.slice a xs.length c] w fun e w' => e = .returned (.tuple #[rsV xs, .int .i64 (rsE xs)]) ∧ Below w.heap.size w w' := by
  by_cases hc : chk xs = 0
  · have h64 := chk_len hc
    have hV : rsV xs = if rsGood xs then rsS xs else zero6 := by unfold rsV; rw [if_pos hc]
    have hE : rsE xs = if rsGood xs then 0 else 2 := by unfold rsE; rw [if_pos hc]
    have hck := fun w1 (r1 : RowB w1 a c xs) => check_any a c xs w1 r1
    rw [hc] at hck
    have HC := hid hck
    have hl := rowB_len ha
    clear hck hc
    have go : ∀ (G : Bool), rsGood xs = G → Calls Try.prog 13 #[.slice a xs.length c] w fun e w' => e = .returned (.tuple #[if G then rsS xs else zero6, .int .i64 (if G then 0 else 2)]) ∧ Below w.heap.size w w' := by
      intro G hG0
      have HG := hid hG0
      clear hG0 hV hE
      go_enter Try.func13, Try.ntmps13
      go_wp2_with fail
      have r0 : RowB (w.alloc (.cells #[.int .i64 0, .int .i64 0, .int .i64 0, .int .i64 0, .int .i64 0, .int .i64 0] 26)) a c xs := Row.alloc ha _
      refine (HC.out _ r0).mono ?_
      rintro e w1 ⟨rfl, b1⟩
      have H0 : Blk (w.alloc (.cells #[.int .i64 0, .int .i64 0, .int .i64 0, .int .i64 0, .int .i64 0, .int .i64 0] 26)) w.heap.size 26 [.int .i64 0, .int .i64 0, .int .i64 0, .int .i64 0, .int .i64 0, .int .i64 0] := heap_alloc_new w _
      have Z1 := Blk.mono H0 b1
      have B1 := below_trans ((Below.refl _ w).alloc (Nat.le_refl _) _) b1 (by simp)
      have hB1 : w.heap.size + 1 ≤ w1.heap.size := Nat.le_trans (by simp) b1.size
      clear H0 b1 r0
      go_wp2_with fail
      refine (reader_any a c xs.length 0 w1).mono ?_
      rintro e w2 ⟨rfl, hw2⟩
      have hb2 : Blk w2 w1.heap.size 27 [.slice a xs.length c] := by
        rw [hw2]; exact Blk.mono (w := w1.alloc (.cells #[.slice a xs.length c] 27)) (heap_alloc_new w1 _) ((Below.refl _ _).alloc (Nat.le_refl _) _)
      have hp2 : Blk w2 (w1.heap.size + 1) 3 [.int .i64 ((0 : Nat) : Int)] := by
        have := heap_alloc_new (w1.alloc (.cells #[.slice a xs.length c] 27)) (.cells #[.int .i64 0] 3)
        rw [show (w1.alloc (.cells #[.slice a xs.length c] 27)).heap.size = w1.heap.size + 1 from by simp] at this
        rw [hw2]; exact this
      have b12 : Below w1.heap.size w1 w2 := by
        rw [hw2]; exact ((Below.refl w1.heap.size w1).alloc (Nat.le_refl _) (.cells #[.slice a xs.length c] 27)).alloc (by simp) (.cells #[.int .i64 0] 3)
      have I2 : RdInv w a c xs w1.heap.size (w1.heap.size + 1) 0 w2 := ⟨hb2, hp2, Blk.mono Z1 b12, below_trans B1 b12 B1.size, by omega, by omega⟩
      clear Z1 B1 b12 hw2 hb2 hp2
      generalize w1.heap.size = Bb at *
      generalize Bb + 1 = Ba at *
      go_wp2_with (go_at_call 36; refine (next_inv w a c xs 0 4 Bb Ba w2 ha I2 (by omega)).mono ?_; rintro e w3 ⟨rfl, I3, _⟩; clear I2)
      go_wp2_with (go_at_call 36; refine (next_inv w a c xs 4 4 Bb Ba w3 ha I3 (by omega)).mono ?_; rintro e w4 ⟨rfl, I4, _⟩; clear I3)
      go_wp2_with (go_at_call 36; refine (next_inv w a c xs 8 8 Bb Ba w4 ha I4 (by omega)).mono ?_; rintro e w5 ⟨rfl, I5, _⟩; clear I4)
      have hs5 := I5.b.lt
      have ht5 := I5.p.lt
      have S6 : Blk (w5.alloc (.cells #[.int .i64 (gN xs 0 4 : Nat), .int .i64 (gN xs 4 4 : Nat), .int .i64 (gN xs 8 8 : Nat), .int .i64 0, .int .i64 0, .int .i64 0] 26)) w5.heap.size 26 [.int .i64 (gN xs 0 4 : Nat), .int .i64 (gN xs 4 4 : Nat), .int .i64 (gN xs 8 8 : Nat), .int .i64 0, .int .i64 0, .int .i64 0] := heap_alloc_new w5 _
      have I6 := I5.alloc (.cells #[.int .i64 (gN xs 0 4 : Nat), .int .i64 (gN xs 4 4 : Nat), .int .i64 (gN xs 8 8 : Nat), .int .i64 0, .int .i64 0, .int .i64 0] 26)
      clear I5
      generalize w5.alloc _ = w6 at *
      generalize w5.heap.size = S at *
      have hne : S ≠ Ba := by omega
      go_wp2_with (go_at_call 36; refine (next_inv w a c xs 16 1 Bb Ba w6 ha I6 (by omega)).mono ?_; rintro e w7 ⟨rfl, I7, G7⟩; have _S7 := Blk.grown S6 G7 hne; clear I6 S6 G7)
      go_wp2_with (go_at_call 36; refine (next_inv w a c xs 17 1 Bb Ba w7 ha I7 (by omega)).mono ?_; rintro e w8 ⟨rfl, I8, G8⟩; have _S8 := Blk.grown _S7 G8 hne; have _k3 : w8.cell? ⟨S, 3, none⟩ = some (.int .i64 0) := Blk.cell _S8 (i := 3) (by simp); have _k4 : w8.cell? ⟨S, 4, none⟩ = some (.int .i64 0) := Blk.cell _S8 (i := 4) (by simp); have _f3 := Blk.frozen _S8 3; have _f4 := Blk.frozen _S8 4; clear I7 _S7 G8)
      have S9 : Blk ((w8.setCell ⟨S, 3, none⟩ (.int .i64 (gN xs 16 1 : Nat))).setCell ⟨S, 4, none⟩ (.int .i64 (gN xs 17 1 : Nat))) S 26 [.int .i64 (gN xs 0 4 : Nat), .int .i64 (gN xs 4 4 : Nat), .int .i64 (gN xs 8 8 : Nat), .int .i64 (gN xs 16 1 : Nat), .int .i64 (gN xs 17 1 : Nat), .int .i64 0] := (_S8.set 3 _).set 4 _
      have I9 := (I8.set hs5 ht5 3 (.int .i64 (gN xs 16 1 : Nat))).set hs5 ht5 4 (.int .i64 (gN xs 17 1 : Nat))
      clear _k3 _k4 _f3 _f4 I8 _S8
      generalize World.setCell _ _ _ = w9 at *
      refine (next_inv w a c xs 18 8 Bb Ba w9 ha I9 (by omega)).mono ?_
      rintro e w10 ⟨rfl, I10, G10⟩
      have S10 := Blk.grown S9 G10 hne
      clear I9 S9 G10
      have sk0 : w10.cell? ⟨S, 0, none⟩ = some (.int .i64 (gN xs 0 4 : Nat)) := Blk.cell S10 (i := 0) (by simp)
      have sk1 : w10.cell? ⟨S, 1, none⟩ = some (.int .i64 (gN xs 4 4 : Nat)) := Blk.cell S10 (i := 1) (by simp)
      have sk2 : w10.cell? ⟨S, 2, none⟩ = some (.int .i64 (gN xs 8 8 : Nat)) := Blk.cell S10 (i := 2) (by simp)
      have sk3 : w10.cell? ⟨S, 3, none⟩ = some (.int .i64 (gN xs 16 1 : Nat)) := Blk.cell S10 (i := 3) (by simp)
      have sk4 : w10.cell? ⟨S, 4, none⟩ = some (.int .i64 (gN xs 17 1 : Nat)) := Blk.cell S10 (i := 4) (by simp)
      have sk5 : w10.cell? ⟨S, 5, none⟩ = some (.int .i64 0) := Blk.cell S10 (i := 5) (by simp)
      have f5 := Blk.frozen S10 5
      have S11 : Blk (w10.setCell ⟨S, 5, none⟩ (.int .i64 (gN xs 18 8 : Nat))) S 26 [.int .i64 (gN xs 0 4 : Nat), .int .i64 (gN xs 4 4 : Nat), .int .i64 (gN xs 8 8 : Nat), .int .i64 (gN xs 16 1 : Nat), .int .i64 (gN xs 17 1 : Nat), .int .i64 (gN xs 18 8 : Nat)] := S10.set 5 _
      have I11 := I10.set hs5 ht5 5 (.int .i64 (gN xs 18 8 : Nat))
      have HS11 := hid S11; have HI11 := hid I11
      clear S10 I10 S11 I11
      go_wp2_with fail
      clear sk0 sk1 sk2 sk3 sk4 sk5 f5
      generalize World.setCell _ _ _ = w11 at *
      have hp : Calls Try.prog 8 #[.agg #[.int .i64 (gN xs 0 4 : Nat), .int .i64 (gN xs 4 4 : Nat), .int .i64 (gN xs 8 8 : Nat), .int .i64 (gN xs 16 1 : Nat), .int .i64 (gN xs 17 1 : Nat), .int .i64 (gN xs 18 8 : Nat)]] w11 fun en w' => ∃ a c, en = .returned (.tuple #[.slice a (rsL xs).length c, .int .i64 (if rsM xs then 0 else 1)]) ∧ OwnB w' w11.heap.size a c (rsL xs) ∧ Below w11.heap.size w11 w' := putS_any _ _ _ _ _ _ w11
      have HP := hid hp; clear hp
      cases hM : rsM xs with
      | false =>
        have hG : G = false := by rw [← HG.out]; unfold rsGood; rw [hM]; rfl
        subst hG
        rw [hM] at HP
        clear hM
        refine HP.out.mono ?_
        rintro e w12 ⟨a12, c12, rfl, o12, b12⟩
        have Z12 := Blk.mono HI11.out.z b12
        have B12 := below_trans HI11.out.bel b12 HI11.out.bel.size
        have zk0 : w12.cell? ⟨w.heap.size, 0, none⟩ = some (.int .i64 0) := Blk.cell Z12 (i := 0) (by simp)
        have zk1 : w12.cell? ⟨w.heap.size, 1, none⟩ = some (.int .i64 0) := Blk.cell Z12 (i := 1) (by simp)
        have zk2 : w12.cell? ⟨w.heap.size, 2, none⟩ = some (.int .i64 0) := Blk.cell Z12 (i := 2) (by simp)
        have zk3 : w12.cell? ⟨w.heap.size, 3, none⟩ = some (.int .i64 0) := Blk.cell Z12 (i := 3) (by simp)
        have zk4 : w12.cell? ⟨w.heap.size, 4, none⟩ = some (.int .i64 0) := Blk.cell Z12 (i := 4) (by simp)
        have zk5 : w12.cell? ⟨w.heap.size, 5, none⟩ = some (.int .i64 0) := Blk.cell Z12 (i := 5) (by simp)
        have zf0 : w12.frozen? ⟨w.heap.size, 0, none⟩ = false := Blk.frozen Z12 0
        have zf1 : w12.frozen? ⟨w.heap.size, 1, none⟩ = false := Blk.frozen Z12 1
        have zf2 : w12.frozen? ⟨w.heap.size, 2, none⟩ = false := Blk.frozen Z12 2
        have zf3 : w12.frozen? ⟨w.heap.size, 3, none⟩ = false := Blk.frozen Z12 3
        have zf4 : w12.frozen? ⟨w.heap.size, 4, none⟩ = false := Blk.frozen Z12 4
        have zf5 : w12.frozen? ⟨w.heap.size, 5, none⟩ = false := Blk.frozen Z12 5
        have HZ := hid Z12; have HB := hid B12
        clear Z12 B12
        go_wp2_with fail
        refine bodyPost_ret (results_slot rfl rfl (set6 HZ.out rfl _ _ _ _ _ _) rfl) rfl ⟨rfl, bel6 HB.out (Nat.le_refl _) _ _ _ _ _ _⟩
      | true =>
        have hq : (rsL xs).length = 64 := slotL_length hM
        have hgd : rsGood xs = decide (xs.take 64 = rsL xs) := by unfold rsGood; rw [hM]; rfl
        rw [hM] at HP
        have hpf := fun (a2 : Option Addr) (c2 : Nat) (w4 : World) (h1 : RowB w4 a c xs) (h2 : RowB w4 a2 c2 (rsL xs)) => hasPrefix_any a a2 c c2 xs (rsL xs) w4 h1 h2
        rw [hq] at HP
        simp only [hq, decide_eq_true h64] at hpf
        simp only [Bool.true_and] at hpf
        rw [← hgd, HG.out] at hpf
        have HPF := hid hpf
        clear hM hgd hpf hq
        refine HP.out.mono ?_
        rintro e w12 ⟨a12, c12, rfl, o12, b12⟩
        have Z12 := Blk.mono HI11.out.z b12
        have S12 := Blk.mono HS11.out b12
        have B12 := below_trans HI11.out.bel b12 HI11.out.bel.size
        have r12 := ha.mono B12
        have o12' := o12.row
        have zk0 : w12.cell? ⟨w.heap.size, 0, none⟩ = some (.int .i64 0) := Blk.cell Z12 (i := 0) (by simp)
        have zk1 : w12.cell? ⟨w.heap.size, 1, none⟩ = some (.int .i64 0) := Blk.cell Z12 (i := 1) (by simp)
        have zk2 : w12.cell? ⟨w.heap.size, 2, none⟩ = some (.int .i64 0) := Blk.cell Z12 (i := 2) (by simp)
        have zk3 : w12.cell? ⟨w.heap.size, 3, none⟩ = some (.int .i64 0) := Blk.cell Z12 (i := 3) (by simp)
        have zk4 : w12.cell? ⟨w.heap.size, 4, none⟩ = some (.int .i64 0) := Blk.cell Z12 (i := 4) (by simp)
        have zk5 : w12.cell? ⟨w.heap.size, 5, none⟩ = some (.int .i64 0) := Blk.cell Z12 (i := 5) (by simp)
        have zf0 : w12.frozen? ⟨w.heap.size, 0, none⟩ = false := Blk.frozen Z12 0
        have zf1 : w12.frozen? ⟨w.heap.size, 1, none⟩ = false := Blk.frozen Z12 1
        have zf2 : w12.frozen? ⟨w.heap.size, 2, none⟩ = false := Blk.frozen Z12 2
        have zf3 : w12.frozen? ⟨w.heap.size, 3, none⟩ = false := Blk.frozen Z12 3
        have zf4 : w12.frozen? ⟨w.heap.size, 4, none⟩ = false := Blk.frozen Z12 4
        have zf5 : w12.frozen? ⟨w.heap.size, 5, none⟩ = false := Blk.frozen Z12 5
        have sk0 : w12.cell? ⟨S, 0, none⟩ = some (.int .i64 (gN xs 0 4 : Nat)) := Blk.cell S12 (i := 0) (by simp)
        have sk1 : w12.cell? ⟨S, 1, none⟩ = some (.int .i64 (gN xs 4 4 : Nat)) := Blk.cell S12 (i := 1) (by simp)
        have sk2 : w12.cell? ⟨S, 2, none⟩ = some (.int .i64 (gN xs 8 8 : Nat)) := Blk.cell S12 (i := 2) (by simp)
        have sk3 : w12.cell? ⟨S, 3, none⟩ = some (.int .i64 (gN xs 16 1 : Nat)) := Blk.cell S12 (i := 3) (by simp)
        have sk4 : w12.cell? ⟨S, 4, none⟩ = some (.int .i64 (gN xs 17 1 : Nat)) := Blk.cell S12 (i := 4) (by simp)
        have sk5 : w12.cell? ⟨S, 5, none⟩ = some (.int .i64 (gN xs 18 8 : Nat)) := Blk.cell S12 (i := 5) (by simp)
        have HZ := hid Z12; have HB := hid B12
        clear Z12 B12 S12 o12 b12
        go_wp2_with fail
        refine (HPF.out a12 c12 w12 r12 o12').mono ?_
        rintro e w13 ⟨rfl, rfl⟩
        cases G with
        | false =>
          go_wp2_with fail
          refine bodyPost_ret (results_slot rfl rfl (set6 HZ.out rfl _ _ _ _ _ _) rfl) rfl ⟨rfl, bel6 HB.out (Nat.le_refl _) _ _ _ _ _ _⟩
        | true =>
          go_wp2_with fail
          refine bodyPost_ret (results_slot rfl rfl (set6 HZ.out rfl _ _ _ _ _ _) rfl) rfl ⟨rfl, bel6 HB.out (Nat.le_refl _) _ _ _ _ _ _⟩
    rw [hV, hE]; exact go _ rfl
  · have hV : rsV xs = zero6 := by unfold rsV; rw [if_neg hc]
    have hE : rsE xs = chk xs := by unfold rsE; rw [if_neg hc]
    rw [hV, hE]
    have HC := hid (fun w1 (r1 : RowB w1 a c xs) => check_any a c xs w1 r1)
    clear hV hE
    generalize chk xs = q at *
    go_enter Try.func13, Try.ntmps13
    go_wp2_with fail
    refine (HC.out _ (Row.alloc ha _)).mono ?_
    rintro e w1 ⟨rfl, b1⟩
    have H0 : Blk (w.alloc (.cells #[.int .i64 0, .int .i64 0, .int .i64 0, .int .i64 0, .int .i64 0, .int .i64 0] 26)) w.heap.size 26 [.int .i64 0, .int .i64 0, .int .i64 0, .int .i64 0, .int .i64 0, .int .i64 0] := heap_alloc_new w _
    have H1 := Blk.mono H0 b1
    have B1 := below_trans ((Below.refl _ w).alloc (Nat.le_refl _) _) b1 (by simp)
    have k0 := Blk.cell H1 (i := 0) (by simp)
    have k1 := Blk.cell H1 (i := 1) (by simp)
    have k2 := Blk.cell H1 (i := 2) (by simp)
    have k3 := Blk.cell H1 (i := 3) (by simp)
    have k4 := Blk.cell H1 (i := 4) (by simp)
    have k5 := Blk.cell H1 (i := 5) (by simp)
    simp only [List.getElem_cons_zero, List.getElem_cons_succ] at k0 k1 k2 k3 k4 k5
    have f0 := Blk.frozen H1 0
    have f1 := Blk.frozen H1 1
    have f2 := Blk.frozen H1 2
    have f3 := Blk.frozen H1 3
    have f4 := Blk.frozen H1 4
    have f5 := Blk.frozen H1 5
    have H1' := hid H1; have B1' := hid B1
    clear H0 H1 B1 b1
    go_wp2_with fail
    refine bodyPost_ret (results_slot rfl rfl (set6 H1'.out rfl _ _ _ _ _ _) rfl) rfl ⟨rfl, bel6 B1'.out (Nat.le_refl _) _ _ _ _ _ _⟩

end Go.Proofs.Ytpkmkmkknhnihaa
