/- Bytes that one owns: a part of them is written over by a text. -/
import Derived.Test.YtcackliabemecaaDoorTxnE
namespace Go.Proofs.YtcackliabemecaaDoor
open Go.RowKit
set_option linter.unusedSimpArgs false
set_option linter.unusedVariables false
set_option maxRecDepth 100000

theorem take_splice {α : Type} (L x : List α) (lo n : Nat) (h : lo + x.length ≤ n) (hn : n ≤ L.length) : (splice L lo x).take n = splice (L.take n) lo x := by
  unfold splice
  have e1 : (L.take lo).length = lo := by rw [List.length_take]; omega
  (try rw [List.append_assoc]); (try rw [List.append_assoc])
  rw [List.take_append, e1, List.take_append, List.take_of_length_le (l := x) (by omega), List.take_take, List.take_take, List.drop_take, show min n lo = lo by omega, show min lo n = lo by omega, show n - lo - x.length = n - (lo + x.length) by omega]
/-- a part of what one owns, and a text laid there -/
theorem own_copyS {w : World} {B : Nat} {a : Option Addr} {c : Nat} {b : List UInt8} (o : OwnB w B a c b) (lo hi : Nat) (h1 : lo < hi) (h2 : hi ≤ b.length) :
    ∃ g, a = some ⟨g, 0, none⟩ ∧ B ≤ g ∧
      (∀ W, (Instr.sliceAt 22 (.slice a b.length c) (some (.int .i64 (lo : Int))) (some (.int .i64 (hi : Int))) none).run Tryd.prog W = .ok (.slice (some ⟨g, lo, none⟩) (hi - lo) (c - lo)) W) ∧
      (∀ (W : World) (s : List UInt8) (ty : TypeId), OwnB W B a c b → hi - lo ≤ s.length → ∃ w', (Builtin.copy_ #[22, 9] ty #[.slice (some ⟨g, lo, none⟩) (hi - lo) (c - lo), strB s]).run Tryd.prog W = .ok (goInt (hi - lo : Nat)) w' ∧ OwnB w' B a c (splice b lo (s.take (hi - lo))) ∧ W.grownBy w' (some g)) := by
  have r := o.row
  have hc := r.2.1
  obtain ⟨q1, q2⟩ := o
  rcases q2 with ⟨q3, q4⟩ | ⟨g, cap, cur, q3, q4, q5, q6, q7, q8, q9⟩
  · omega
  have e1 : a = some ⟨g, 0, none⟩ := by cases q3; rfl
  have e2 : cap = c := by cases q3; rfl
  subst e1; subst e2
  refine ⟨g, rfl, q4, fun W => ?_, fun W s ty oW hs => ?_⟩
  · rw [run_sliceAt_slice W _ _ _ _ _ unB, run_slice_lh W _ _ _ _ unB _ _ _ _ (by omega) (by omega) (by omega), elB, szB]
    show Result.ok (sliced _ _ _ _ _) W = _
    rw [Int.toNat_natCast, Int.toNat_natCast]
    unfold sliced
    rw [if_neg (by omega)]
    simp [Addr.add]
    omega
  · obtain ⟨p1, p2⟩ := oW
    rcases p2 with ⟨p3, p4⟩ | ⟨g2, cap2, cur2, p3, p4, p5, p6, p7, p8, p9⟩
    · omega
    have e1 : g2 = g := by cases p3; rfl
    have e2 : cap2 = cap := by cases p3; rfl
    subst e1; subst e2
    have hb : Blk W g2 5 cur2.toList := by unfold Blk; rw [p5]
    have hsz : cur2.toList.length = cap2 := by rw [Array.length_toList, p8, Nat.mul_one]
    obtain ⟨w', r1, r2, r3⟩ := run_copyS W (ty := ty) (dCap := cap2 - lo) hb hs (by rw [hsz]; omega : lo + (hi - lo) ≤ _)
    have hl : (s.take (hi - lo)).length = hi - lo := by rw [List.length_take]; omega
    have hsl : (splice b lo (s.take (hi - lo))).length = b.length := length_splice _ _ _ (by rw [hl]; omega)
    refine ⟨w', r1, ?_, r3⟩
    unfold OwnB
    rw [hsl]
    refine ⟨by rw [List.length_map, hsl, Nat.mul_one], .inr ⟨g2, cap2, (splice cur2.toList lo ((s.take (hi - lo)).map byteV)).toArray, rfl, p4, r2, p6, p7, ?_, ?_⟩⟩
    · rw [List.size_toArray, length_splice _ _ _ (by rw [List.length_map, hl, hsz]; omega), hsz, Nat.mul_one]
    · rw [Nat.mul_one] at p9 ⊢
      rw [map_splice, ← p9]
      exact take_splice _ _ _ _ (by rw [List.length_map, hl]; omega) (by omega)
end Go.Proofs.YtcackliabemecaaDoor
