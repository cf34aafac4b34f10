/- lives: the document's example of a transaction. -/
import Derived.Test.YtcackliabemecaaDoorTxnJ
import Derived.Lib.SlBytesConst
namespace Go.Proofs.YtcackliabemecaaDoor
open Go.RowKit
set_option linter.unusedSimpArgs false
set_option linter.unusedVariables false
set_option maxRecDepth 100000

theorem row_newF (w : World) (L : List Value) (e : TypeId) (fz : Nat × Nat) (hl : L.length ≤ 9223372036854775807) : Row (w.alloc (.cells L.toArray e fz)) 1 (some ⟨w.heap.size, 0, none⟩) L.length L.length L := by
  refine ⟨by simp, Nat.le_refl _, by unfold maxLen; omega, fun h => by (cases h), fun _ => ⟨w.heap.size, 0, rfl, by simp, fun j u hu => ?_⟩⟩
  have hh := heap_alloc_new w (.cells L.toArray e fz)
  unfold World.cell?
  rw [show (⟨w.heap.size, 0 + j, none⟩ : Addr).block = w.heap.size from rfl, hh]
  simpa using hu
section
variable {w : World} {B pp tg g lg v d p dt gr tc : Nat} {ta : Option Addr}
theorem storeX1 (h : TxP w B pp tg g lg v d p dt gr ta tc mem0 []) : Calls Tryd.prog 6 #[.pointer (some ⟨tg, 0, none⟩), .int .i64 3, .slice (some ⟨w.heap.size, 0, none⟩) 2 2] (w.alloc (.cells #[.int .u8 97, .int .u8 98] 5 (2, 3))) fun e w' => e = .returned (.int .i64 0) ∧ ∃ ta tc, TxP w' B pp tg g lg v d p dt gr ta tc mem0 [exS1] ∧ Turns (fun k => k = tg ∨ B ≤ k) w w' := by
  have hb := albO w (.cells #[.int .u8 97, .int .u8 98] 5 (2, 3))
  have r : RowB (w.alloc (.cells #[.int .u8 97, .int .u8 98] 5 (2, 3))) (some ⟨w.heap.size, 0, none⟩) 2 [97, 98] := row_newF w ([97, 98].map fun x : Int => Value.int .u8 x) 5 _ (by simp)
  refine ((h.mono hb).store (by rw [mem0_len]; omega) (by decide) r (by decide) (at_ := 3) (by unfold i64B; omega)).mono ?_
  rintro e w' ⟨rfl, ta, tc, q, t⟩
  rw [put1] at q
  exact ⟨by rw [show ([97, 98] : List UInt8).length = 2 from rfl, err1], ta, tc, q, (Turns.of_below hb).trans t⟩
theorem storeX2 (h : TxP w B pp tg g lg v d p dt gr ta tc mem0 [exS1]) : Calls Tryd.prog 6 #[.pointer (some ⟨tg, 0, none⟩), .int .i64 4, .slice (some ⟨w.heap.size, 0, none⟩) 1 1] (w.alloc (.cells #[.int .u8 120] 5 (1, 2))) fun e w' => e = .returned (.int .i64 0) ∧ ∃ ta tc, TxP w' B pp tg g lg v d p dt gr ta tc mem0 [exS1, exS2] ∧ Turns (fun k => k = tg ∨ B ≤ k) w w' := by
  have hb := albO w (.cells #[.int .u8 120] 5 (1, 2))
  have r : RowB (w.alloc (.cells #[.int .u8 120] 5 (1, 2))) (some ⟨w.heap.size, 0, none⟩) 1 [120] := row_newF w ([120].map fun x : Int => Value.int .u8 x) 5 _ (by simp)
  refine ((h.mono hb).store (by rw [mem0_len]; omega) (by decide) r (by decide) (at_ := 4) (by unfold i64B; omega)).mono ?_
  rintro e w' ⟨rfl, ta, tc, q, t⟩
  rw [put2] at q
  exact ⟨by rw [show ([120] : List UInt8).length = 1 from rfl, err2], ta, tc, q, (Turns.of_below hb).trans t⟩
theorem loadX (h : TxP w B pp tg g lg v d p dt gr ta tc mem0 [exS1, exS2]) : Calls Tryd.prog 26 #[.pointer (some ⟨tg, 0, none⟩), .int .i64 3, .int .i64 2] w fun e w' => ∃ a c, e = .returned (.tuple #[.slice a 2 c, .int .i64 0]) ∧ OwnB w' w.heap.size a c [97, 120] ∧ Below w.heap.size w w' := by
  refine (loadT_yes h.l.m h.t h.o.row txS (by rw [mem0_len]; omega) 3 2 (by unfold i64B; omega) (by unfold i64B; omega) in0 (b0 := [0, 0]) view0 rfl).mono ?_
  rintro e w' ⟨a, c, rfl, o, b⟩
  rw [ovl0] at o
  exact ⟨a, c, rfl, o, b⟩
theorem mloadX (h : TxP w B pp tg g lg v d p dt gr ta tc mem0 [exS1, exS2]) : Calls Tryd.prog 11 #[.pointer (some ⟨g, 0, none⟩), .int .i64 3, .int .i64 2] w fun e w' => ∃ a c, e = .returned (.tuple #[.slice a 2 c, .int .i64 0]) ∧ OwnB w' w.heap.size a c [0, 0] ∧ Below w.heap.size w w' := by
  refine (load_yes h.l.m 3 2 (by unfold i64B; omega) (by unfold i64B; omega) in0 (b0 := [0, 0]) view0 rfl).mono ?_
  rintro e w' ⟨a, c, rfl, o, b⟩
  exact ⟨a, c, rfl, o, b⟩
theorem commitX (h : TxP w B pp tg g lg v d p dt gr ta tc mem0 [exS1, exS2]) : Calls Tryd.prog 12 #[.pointer (some ⟨tg, 0, none⟩)] w fun e w' => e = .returned (.int .i64 0) ∧ ∃ ta tc, TxP w' B pp tg g lg v d p dt gr ta tc mem4 [] ∧ Turns (fun k => XM v d p k ∨ k = tg) w w' := by
  refine (h.commit log0 txS).mono ?_
  rintro e w' ⟨rfl, ta, tc, q, t⟩
  rw [comM0, comP0] at q
  rw [comE0]
  exact ⟨rfl, ta, tc, q, t⟩
theorem lastsX4 (h : TxP w B pp tg g lg v d p dt gr ta tc mem4 []) : Calls Tryd.prog 13 #[.pointer (some ⟨g, 0, none⟩), .int .i64 3, .int .i64 2] w fun e w' => ∃ a c, e = .returned (.tuple #[.slice a 2 c, .int .i64 0]) ∧ RowB w' a c [97, 120] ∧ Below w.heap.size w w' := by
  refine (lasts_any h.l.m 3 2 (by omega) (by omega)).mono ?_
  intro e w' z
  unfold LoadP at z
  rw [if_pos in4] at z
  obtain ⟨a, c, rfl, o, b⟩ := z
  have hr := o.row
  rw [show ((3 : Int)).toNat = 3 from rfl, show ((2 : Int)).toNat = 2 from rfl, last4] at hr
  exact ⟨a, c, rfl, hr, b⟩
end
set_option maxHeartbeats 8000000 in
theorem lives09_any (w : World) : Calls Tryd.prog 9 #[] w fun e w' => e = .returned (.bool true) ∧ Below w.heap.size w w' := by
  have kc := fun (w : World) (C : Array Value) (n c : Nat) => Lib.run_convert_bytes_const (P := Tryd.prog) w 22 5 C n c Tryd.underlying22 Tryd.underlying5
  go_enter Tryd.func9, Tryd.ntmps9
  go_wp2_with fail
  refine (beginT w).mono ?_
  rintro e w1 ⟨pp, tg, g, lg, v, d, p, dt, gr, rfl, t1, ⟨hg, hv, hd, hp⟩, b1⟩
  have T1 := hid t1; have B1 := hid b1
  have n1 := hid t1.n
  have s1 := hid b1.size
  obtain ⟨c0, c2⟩ := t1.cells
  clear t1 b1
  go_wp2_with fail
  refine (storeX1 T1.out).mono ?_
  rintro e w2 ⟨rfl, ta2, tc2, t2, u2⟩
  have B2 := hid (B1.out.trans (u2.below (B := w.heap.size) s1.out (fun k hk => by have z := n1.out; have y := s1.out; omega)))
  have T2 := hid t2; have s12 := hid u2.size; clear c0 c2
  obtain ⟨c0, c2⟩ := t2.cells
  clear t2 u2
  go_wp2_with fail
  refine (storeX2 T2.out).mono ?_
  rintro e w3 ⟨rfl, ta3, tc3, t3, u3⟩
  have B3 := hid (B2.out.trans (u3.below (B := w.heap.size) B2.out.size (fun k hk => by have z := n1.out; have y := s1.out; omega)))
  have T3 := hid t3; have s13 := hid (Nat.le_trans s12.out u3.size); clear c0 c2
  obtain ⟨c0, c2⟩ := t3.cells
  clear t3 u3
  go_wp2_with fail
  refine (loadX T3.out).mono ?_
  rintro e w4 ⟨a4, e4, rfl, r4, b4⟩
  have T4 := hid (T3.out.mono b4); have B4 := hid (kept_trans B3.out b4); have R4 := hid r4; have s34 := hid b4.size; clear c0 c2
  obtain ⟨c0, c2⟩ := T4.out.cells
  clear r4 b4
  go_wp2_with fail
  refine (mloadX T4.out).mono ?_
  rintro e w5 ⟨a5, e5, rfl, r5, b5⟩
  have T5 := hid (T4.out.mono b5); have B5 := hid (kept_trans B4.out b5); have R4b := hid (Own.mono R4.out b5); have R5 := hid r5; clear c0 c2
  obtain ⟨c0, c2⟩ := T5.out.cells
  clear r5 b5
  go_wp2_with fail
  refine (commitX T5.out).mono ?_
  rintro e w6 ⟨rfl, ta6, tc6, t6, u6⟩
  have B6 := hid (B5.out.trans (u6.below (B := w.heap.size) B5.out.size (fun k hk => by have z := n1.out; rcases hk with (e | e | e) | e <;> omega)))
  have y3 := B3.out.size; have z1 := n1.out; have x3 : w1.heap.size ≤ w3.heap.size := s13.out; have x4 : w3.heap.size ≤ w4.heap.size := s34.out; have R4c := hid ((u6.own R4b.out (fun k hk => by rcases hk with (e | e | e) | e <;> omega)).row); have R5c := hid ((u6.own R5.out (fun k hk => by rcases hk with (e | e | e) | e <;> omega)).row)
  have T6 := hid t6; clear c0 c2
  obtain ⟨c0, c2⟩ := t6.cells
  clear t6 u6
  go_wp2_with fail
  refine (lastsX4 T6.out).mono ?_
  rintro e w7 ⟨a7, e7, rfl, r7, b7⟩
  have B7 := hid (kept_trans B6.out b7)
  have hcv4 : (convert 22 9 (.slice a4 2 e4)).run Tryd.prog w7 = .ok (.string ⟨#[97, 120]⟩) w7 := run_str (R4c.out.mono b7)
  have hcv5 : (convert 22 9 (.slice a5 2 e5)).run Tryd.prog w7 = .ok (.string ⟨#[0, 0]⟩) w7 := run_str (R5c.out.mono b7)
  have hcv7 : (convert 22 9 (.slice a7 2 e7)).run Tryd.prog w7 = .ok (.string ⟨#[97, 120]⟩) w7 := run_str r7
  clear r7 b7
  go_wp2_with fail
  go_ret
  exact ⟨rfl, B7.out⟩
end Go.Proofs.YtcackliabemecaaDoor
