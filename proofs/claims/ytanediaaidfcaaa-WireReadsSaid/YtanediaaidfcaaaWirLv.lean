/- The document's example. -/
import Derived.Test.YtanediaaidfcaaaWirRd
namespace Go.Proofs.Ytanediaaidfcaaa
open Go.RowKit
set_option linter.unusedSimpArgs false
set_option linter.unusedVariables false

def PLv : PkM := ⟨fun k => if k = 0 then 5 else if k = 1 then 2 else if k = 2 then 1 else if k = 18 then 3 else 0, fun _ => [], []⟩
def wantL : List UInt8 := [5, 2, 1, 0, 0, 0, 0, 0, 0, 0, 0, 0, 0, 0, 3]
theorem live_put : (putB PLv).take 15 = wantL ∧ (putB PLv).length = 19 ∧ putE PLv = 0 := by decide +kernel
theorem live_get : rwP [1, 2, 3] = P0z ∧ rwE [1, 2, 3] = 3 := by unfold rwP rwE; exact ⟨if_pos (by decide), if_pos (by decide)⟩
theorem lv_put (W : World) : Calls Try.prog 10 #[.agg (pkC PLv none 0 0).toArray] W fun e w' => ∃ ba bc xs, e = .returned (.tuple #[.slice ba 19 bc, .int .i64 0]) ∧ xs.take 15 = wantL ∧ xs.length = 19 ∧ OwnB w' W.heap.size ba bc xs ∧ Below W.heap.size W w' := by
  have h := wirePut_any (w := W) (P := PLv) (a := none) (c := 0) (by intro o; show (if o = 0 then 5 else if o = 1 then 2 else if o = 2 then 1 else if o = 18 then 3 else 0 : Int) ≤ allI; unfold allI; repeat' split <;> omega) (by intro o _; exact Nat.zero_le _) (by intro s hs; cases hs) (by decide) (Row.nil _ _)
  refine Calls.mono (show Calls Try.prog 10 #[.agg (pkC PLv none 0 0).toArray] W _ from h) ?_
  rintro e w' ⟨ba, bc, rfl, ho, b⟩
  obtain ⟨h1, h2, h3⟩ := live_put
  exact ⟨ba, bc, putB PLv, by rw [h2, h3], h1, h2, ho, b⟩
theorem lv_get (W : World) (a : Option Addr) (c : Nat) (r : RowB W a c [1, 2, 3]) : Calls Try.prog 14 #[.slice a 3 c] W fun e w' => ∃ na nc, e = .returned (.tuple #[.agg (pkC P0z na 0 nc).toArray, .int .i64 3]) ∧ Below W.heap.size W w' := by
  have h := wireRead_any (w := W) (xs := [1, 2, 3]) r (by decide)
  rw [live_get.1, live_get.2, show ([1, 2, 3] : List UInt8).length = 3 from rfl] at h
  refine h.mono ?_
  rintro e w' ⟨na, nc, rfl, ho, b⟩
  exact ⟨na, nc, rfl, b⟩

set_option maxRecDepth 100000 in
set_option maxHeartbeats 2000000 in
theorem lives07_any (w : World) : Calls Try.prog 13 #[] w fun e w' => e = .returned (.bool true) ∧ Below w.heap.size w w' := by
  have t1 : True := trivial
  have t2 : True := trivial
  go_enter Try.func13, Try.ntmps13
  go_wp2_with fail
  refine Calls.mono (show Calls Try.prog 10 #[.agg (pkC PLv none 0 0).toArray] w _ from lv_put w) ?_
  rintro e w1 ⟨ba, bc, xs, rfl, h15, h19, ho, b1⟩
  have HO := hid ho; have B1 := hid b1; have H15 := hid h15; have H19 := hid h19
  have hbc : 19 ≤ bc := by have := ho.row.2.1; omega
  have hbc9 : bc ≤ 9223372036854775807 := by have := ho.row.2.2.1; unfold maxLen at this; exact this
  clear ho b1 h15 h19
  go_wp2_with fail
  obtain ⟨w2, hw2⟩ : ∃ w2, w2 = w1.alloc (.cells #[.int .u8 1, .int .u8 2, .int .u8 3] 5) := ⟨_, rfl⟩
  rw [← hw2]
  have r2 : RowB w2 (some ⟨w1.heap.size, 0, none⟩) 3 [1, 2, 3] := by rw [hw2]; exact row_new w1 [.int .u8 1, .int .u8 2, .int .u8 3] 5 (by decide)
  have B2 := hid (show Below w.heap.size w w2 by rw [hw2]; exact kept_alloc B1.out _)
  have HO2 := hid (show OwnB w2 w.heap.size ba bc xs by rw [hw2]; exact HO.out.alloc _)
  clear hw2
  refine (lv_get w2 _ 3 r2).mono ?_
  rintro e w3 ⟨na, nc, rfl, b3⟩
  have B3 := hid (kept_trans B2.out b3); have HO3 := hid (HO2.out.mono b3)
  clear b3 r2
  go_wp2_with (first
    | (have _t := t1; (with_reducible refine wpl_allocPk rfl rfl ?_); clear t1; intro w4 k4 b4 s4; have K4 := hid k4; have B4 := hid (kept_trans B3.out b4); have HO4 := hid (HO3.out.mono b4); clear k4 b4 s4)
    | ((with_reducible refine wpl_storePk rfl _ _ rfl w3.heap.size rfl P0z na 0 nc rfl K4.out rfl ?_); intro w5 k5 g5; have B5 := hid (below_grownS B4.out g5 B3.out.size B4.out.size); have HO5 := hid (own_setK HO4.out K4.out g5); clear k5 g5))
  obtain ⟨w6, hw6⟩ : ∃ w6, w6 = w5.alloc (.cells #[.int .u8 5, .int .u8 2, .int .u8 1, .int .u8 0, .int .u8 0, .int .u8 0, .int .u8 0, .int .u8 0, .int .u8 0, .int .u8 0, .int .u8 0, .int .u8 0, .int .u8 0, .int .u8 0, .int .u8 3] 5) := ⟨_, rfl⟩
  rw [← hw6]
  have r6 : RowB w6 (some ⟨w5.heap.size, 0, none⟩) 15 wantL := by rw [hw6]; exact row_new w5 (wantL.map byteV) 5 (by decide)
  have B6 := hid (show Below w.heap.size w w6 by rw [hw6]; exact kept_alloc B5.out _)
  have r5 : RowB w6 ba bc xs := by rw [hw6]; exact (HO5.out.alloc _).row
  clear hw6
  have hs := same_any ba (some ⟨w5.heap.size, 0, none⟩) bc 15 (xs.take 15) wantL w6 (rowB_take r5 15) r6 (by rw [List.length_take]; omega) (by decide)
  rw [show (xs.take 15).length = 15 by rw [List.length_take, H19.out]; rfl, show wantL.length = 15 from rfl, H15.out, decide_eq_true rfl] at hs
  refine hs.mono ?_
  rintro e w7 ⟨rfl, b7⟩
  have B7 := hid (kept_trans B6.out b7)
  clear hs b7 r5 r6
  go_wp2_with fail
  go_ret
  exact ⟨rfl, B7.out⟩
end Go.Proofs.Ytanediaaidfcaaa
