/- Memories alike; the document's example. -/
import Derived.Test.YtcgekooahahjpaaPmV
namespace Go.Proofs.Ytcgekooahahjpaa
open Go.RowKit
set_option linter.unusedSimpArgs false
set_option linter.unusedVariables false

theorem store_ok {w : World} {g v d p : Nat} {M : MemM} (h : MemP w g v d p M) (q : Nat) (a : Option Addr) (c : Nat) (b : List UInt8) (hr : RowB w a c b) (hl : q + b.length ≤ M.V.length) :
    Calls Try.prog 22 #[.pointer (some ⟨g, 0, none⟩), .int .i64 (q : Int), .slice a b.length c] w fun e w' => e = .returned (.int .i64 0) ∧ MemP w' g v d p (storeM M q b) ∧ Turns (fun k => k = v ∨ k = p) w w' := by
  have hV := h.1.2.2.2.2
  refine (store_any h q (by omega) a c b hr).mono ?_
  intro e w' z
  unfold StoreP at z
  rw [if_pos (inM_mk hl)] at z
  exact z
theorem flush_ok {w : World} {g v d p : Nat} {M : MemM} (h : MemP w g v d p M) (q n : Nat) (hl : q + n ≤ M.V.length) :
    Calls Try.prog 15 #[.pointer (some ⟨g, 0, none⟩), .int .i64 (q : Int), .int .i64 (n : Int)] w fun e w' => e = .returned (.int .i64 0) ∧ MemP w' g v d p (flushM M q n) ∧ Turns (fun k => k = p) w w' := by
  have hV := h.1.2.2.2.2
  refine (flush_any h q n (by omega) (by omega)).mono ?_
  intro e w' z
  unfold FlushP at z
  rw [if_pos (inM_mk hl)] at z
  exact z
theorem load_ok {w : World} {g v d p : Nat} {M : MemM} (h : MemP w g v d p M) (q n : Nat) (hl : q + n ≤ M.V.length) :
    Calls Try.prog 17 #[.pointer (some ⟨g, 0, none⟩), .int .i64 (q : Int), .int .i64 (n : Int)] w fun e w' => ∃ a c, e = .returned (.tuple #[.slice a n c, .int .i64 0]) ∧ OwnB w' w.heap.size a c ((M.V.drop q).take n) ∧ Below w.heap.size w w' := by
  have hV := h.1.2.2.2.2
  refine (load_any h q n (by omega) (by omega)).mono ?_
  intro e w' z
  unfold LoadP at z
  rw [if_pos (inM_mk hl)] at z
  exact z
theorem lasts_ok {w : World} {g v d p : Nat} {M : MemM} (h : MemP w g v d p M) (q n : Nat) (hl : q + n ≤ M.V.length) :
    Calls Try.prog 20 #[.pointer (some ⟨g, 0, none⟩), .int .i64 (q : Int), .int .i64 (n : Int)] w fun e w' => ∃ a c, e = .returned (.tuple #[.slice a n c, .int .i64 0]) ∧ OwnB w' w.heap.size a c ((M.D.drop q).take n) ∧ Below w.heap.size w w' := by
  have hV := h.1.2.2.2.2
  refine (lasts_any h q n (by omega) (by omega)).mono ?_
  intro e w' z
  unfold LoadP at z
  rw [if_pos (inM_mk hl)] at z
  exact z

theorem natV_int (L : List Nat) : natV L = (L.map fun (k : Nat) => (k : Int)).map iV := by simp [natV]
theorem rowN_int {w : World} {a : Option Addr} {c : Nat} {L : List Nat} (h : Row w 1 a L.length c (natV L)) : RowI w a c (L.map fun (k : Nat) => (k : Int)) := by
  unfold RowI
  rw [List.length_map, ← natV_int]; exact h

set_option maxHeartbeats 4000000 in
theorem like_any {w : World} {B : Nat} {K : MemK} {M : MemM} (h : Both w B K M) :
    Calls Try.prog 13 #[.pointer (some ⟨K.gm, 0, none⟩), .pointer (some ⟨K.gr, 0, none⟩)] w fun e w' => e = .returned (.bool true) ∧ Below w.heap.size w w' := by
  have hV := h.1.1.2.2.2.2
  have hD := h.1.1.1
  obtain ⟨c0, c1, c2⟩ := h.2.1.cells
  have H := hid (fun X (b : Below w.heap.size w X) => h.mono b)
  have hS : ∀ (X : World) (a : Option Addr) (c : Nat), Below w.heap.size w X → RowB X a c M.V → Calls Try.prog 19 #[.slice a M.V.length c, .slice (some ⟨K.vr, 0, none⟩) M.V.length M.V.length] X fun e w' => e = .returned (.bool true) ∧ Below X.heap.size X w' := by
    intro X a c b r
    have := same_any a (some ⟨K.vr, 0, none⟩) c M.V.length M.V M.V X r (by have := row_blkO (h.mono b).2.1.2.2.2.1 1 M.V.length (by simp) (by omega); exact this) (by omega) (by omega)
    rw [decide_eq_true rfl] at this
    exact this
  have hT : ∀ (X : World) (a : Option Addr) (c : Nat), Below w.heap.size w X → RowB X a c M.D → Calls Try.prog 19 #[.slice a M.V.length c, .slice (some ⟨K.dr, 0, none⟩) M.V.length M.V.length] X fun e w' => e = .returned (.bool true) ∧ Below X.heap.size X w' := by
    intro X a c b r
    have := same_any a (some ⟨K.dr, 0, none⟩) c M.V.length M.D M.D X r (by have := row_blkO (h.mono b).2.1.2.2.2.2.1 1 M.V.length (by simp [hD]) (by omega); unfold RowB; rw [hD]; exact this) (by omega) (by omega)
    rw [decide_eq_true rfl, hD] at this
    exact this
  have hL : ∀ X, Below w.heap.size w X → Calls Try.prog 17 #[.pointer (some ⟨K.gm, 0, none⟩), .int .i64 0, .int .i64 (M.V.length : Int)] X fun e w' => ∃ a c, e = .returned (.tuple #[.slice a M.V.length c, .int .i64 0]) ∧ OwnB w' X.heap.size a c M.V ∧ Below X.heap.size X w' := by
    intro X b
    have := load_ok (h.mono b).1 0 M.V.length (by omega)
    rw [List.drop_zero, List.take_length] at this
    exact this
  have hN : ∀ X, Below w.heap.size w X → Calls Try.prog 20 #[.pointer (some ⟨K.gm, 0, none⟩), .int .i64 0, .int .i64 (M.V.length : Int)] X fun e w' => ∃ a c, e = .returned (.tuple #[.slice a M.V.length c, .int .i64 0]) ∧ OwnB w' X.heap.size a c M.D ∧ Below X.heap.size X w' := by
    intro X b
    have := lasts_ok (h.mono b).1 0 M.V.length (by omega)
    rw [List.drop_zero, ← hD, List.take_length, hD] at this
    exact this
  have HS := hid hS; have HT := hid hT; have HL := hid hL; have HN := hid hN
  have HDi := hid hD
  clear h hS hT hL hN hD
  go_enter Try.func13, Try.ntmps13
  go_wp2_with fail
  refine (HL.out w (Below.refl _ _)).mono ?_
  rintro e w1 ⟨a1, k1, rfl, o1, b1⟩
  have B1 := hid b1; have R1 := hid (Own.row o1)
  clear b1 o1
  go_wp2_with fail
  refine (HN.out w1 B1.out).mono ?_
  rintro e w2 ⟨a2, k2, rfl, o2, b2⟩
  have B2 := hid (kept_trans B1.out b2); have R2 := hid (Own.row o2); have R12 := hid (R1.out.mono b2)
  have d0 := (H.out w2 B2.out).2.1.cells.1
  clear b2 o2
  go_wp2_with fail
  refine (HS.out w2 a1 k1 B2.out R12.out).mono ?_
  rintro e w3 ⟨rfl, b3⟩
  have B3 := hid (kept_trans B2.out b3); have R23 := hid (R2.out.mono b3)
  have d1 := (H.out w3 B3.out).2.1.cells.2.1
  clear b3 d0
  go_wp2_with fail
  refine (HT.out w3 a2 k2 B3.out R23.out).mono ?_
  rintro e w4 ⟨rfl, b4⟩
  have B4 := hid (kept_trans B3.out b4)
  clear b4 d1
  go_wp2_with fail
  refine (dirtyAll_any (H.out w4 B4.out).1).mono ?_
  rintro e w5 ⟨a5, k5, rfl, o5, b5⟩
  have B5 := hid (kept_trans B4.out b5); have R5 := hid (Own.row o5)
  clear b5 o5
  go_wp2_with fail
  refine (dirtyAllR_any (H.out w5 B5.out).2.1).mono ?_
  rintro e w6 ⟨a6, k6, rfl, o6, b6⟩
  have B6 := hid (kept_trans B5.out b6); have R6 := hid (Own.row o6); have R56 := hid (R5.out.mono b6)
  have hsi := sameInts_any a5 a6 k5 k6 _ _ w6 (rowN_int R56.out) (rowN_int R6.out)
  rw [decide_eq_true rfl, List.length_map] at hsi
  have HSI := hid hsi
  clear b6 o6 hsi
  go_wp2_with fail
  refine HSI.out.mono ?_
  rintro e w7 ⟨rfl, b7⟩
  have B7 := hid (kept_trans B6.out b7)
  clear b7
  go_wp2_with fail
  refine (size_any (H.out w7 B7.out).1).mono ?_
  rintro e w8 ⟨rfl, rfl⟩
  go_wp2_with fail
  go_ret
  exact ⟨rfl, B7.out⟩
end Go.Proofs.Ytcgekooahahjpaa
