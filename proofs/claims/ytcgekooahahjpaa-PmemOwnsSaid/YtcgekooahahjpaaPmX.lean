/- The document's example of a memory. -/
import Derived.Test.YtcgekooahahjpaaPmW
namespace Go.Proofs.Ytcgekooahahjpaa
open Go.RowKit
set_option linter.unusedSimpArgs false
set_option linter.unusedVariables false

def exM1 : MemM := storeM (newM 64) 0 [1, 2]
def exM3 : MemM := crashM (flushM exM1 0 1) []
def exM5 : MemM := storeM exM3 0 [1, 2]
def exM7 : MemM := crashM (fenceM (flushM exM5 0 1)) []
theorem ex_a : (exM3.V.drop 0).take 2 = [0, 0] := by decide +kernel
theorem ex_b : (exM7.V.drop 0).take 2 = [1, 2] := by decide +kernel
theorem ex_len0 : (newM 64).V.length = 64 := List.length_replicate
theorem ex_len1 : exM1.V.length = 64 := by decide +kernel
theorem ex_len3 : exM3.V.length = 64 := by decide +kernel
theorem ex_len5 : exM5.V.length = 64 := by decide +kernel
theorem ex_len7 : exM7.V.length = 64 := by decide +kernel

/-- the blocks of one memory, all from B on -/
def PmAt (B g v d p : Nat) : Prop := B ≤ g ∧ B ≤ v ∧ B ≤ d ∧ B ≤ p
theorem below_of3 {B v d p : Nat} {w w' : World} (t : Turns (fun k => k = v ∨ k = d ∨ k = p) w w') (hB : B ≤ w.heap.size) (hv : B ≤ v) (hd : B ≤ d) (hp : B ≤ p) : Below B w w' :=
  t.below hB (fun k hk => by rcases hk with e | e | e <;> rw [e] <;> assumption)
theorem new64 (w : World) : Calls Try.prog 9 #[.int .i64 64] w fun e w' => ∃ g v d p, e = .returned (.pointer (some ⟨g, 0, none⟩)) ∧ MemP w' g v d p (newM 64) ∧ (w.heap.size ≤ g ∧ w.heap.size ≤ v ∧ w.heap.size ≤ d ∧ w.heap.size ≤ p) ∧ Below w.heap.size w w' := by
  refine (newM_any 64 w (by omega)).mono ?_
  intro e w' z
  unfold NewP at z
  rw [if_pos (by decide)] at z
  exact z
theorem new65 (w : World) : Calls Try.prog 9 #[.int .i64 65] w fun e w' => e = .returned (.pointer none) ∧ w = w' := by
  refine (newM_any 65 w (by omega)).mono ?_
  intro e w' z
  unfold NewP at z
  rw [if_neg (by decide)] at z
  exact z
theorem row12 (w : World) (x y : UInt8) : RowB (w.alloc (.cells #[.int .u8 (x.toNat : Int), .int .u8 (y.toNat : Int)] 5)) (some ⟨w.heap.size, 0, none⟩) 2 [x, y] := row_new w [.int .u8 (x.toNat : Int), .int .u8 (y.toNat : Int)] 5 (by simp)
theorem rowNilI (w : World) : RowI w none 0 [] := Row.nil w 1

set_option maxHeartbeats 8000000 in
theorem lives_any (w : World) : Calls Try.prog 11 #[] w fun e w' => e = .returned (.bool true) ∧ Below w.heap.size w w' := by
  have hN : ∀ (W : World) (x y : UInt8), Below W.heap.size W (W.alloc (.cells #[.int .u8 (x.toNat : Int), .int .u8 (y.toNat : Int)] 5)) := fun W x y => albO W _
  have S1 : ∀ (W : World) (g v d p : Nat), MemP W g v d p (newM 64) → Calls Try.prog 22 #[.pointer (some ⟨g, 0, none⟩), .int .i64 0, .slice (some ⟨W.heap.size, 0, none⟩) 2 2] (W.alloc (.cells #[.int .u8 1, .int .u8 2] 5)) fun e w' => e = .returned (.int .i64 0) ∧ MemP w' g v d p exM1 ∧ Turns (fun k => k = v ∨ k = p) (W.alloc (.cells #[.int .u8 1, .int .u8 2] 5)) w' :=
    fun W g v d p h => store_ok (h.mono (hN W 1 2)) 0 _ _ [1, 2] (row12 W 1 2) (by rw [ex_len0]; decide)
  have F1 : ∀ (W : World) (g v d p : Nat), MemP W g v d p exM1 → Calls Try.prog 15 #[.pointer (some ⟨g, 0, none⟩), .int .i64 0, .int .i64 1] W fun e w' => e = .returned (.int .i64 0) ∧ MemP w' g v d p (flushM exM1 0 1) ∧ Turns (fun k => k = p) W w' :=
    fun W g v d p h => flush_ok h 0 1 (by rw [ex_len1]; decide)
  have C1 : ∀ (W : World) (g v d p : Nat), MemP W g v d p (flushM exM1 0 1) → Calls Try.prog 18 #[.pointer (some ⟨g, 0, none⟩), .slice none 0 0] W fun e w' => (∃ x, e = .returned x) ∧ MemP w' g v d p exM3 ∧ Turns (fun k => k = v ∨ k = d ∨ k = p) W w' :=
    fun W g v d p h => crash_any h [] none 0 (rowNilI W) (fun x hx => by cases hx) (fun hn => absurd hn (by simp))
  have L1 : ∀ (W : World) (g v d p : Nat), MemP W g v d p exM3 → Calls Try.prog 17 #[.pointer (some ⟨g, 0, none⟩), .int .i64 0, .int .i64 2] W fun e w' => ∃ a c, e = .returned (.tuple #[.slice a 2 c, .int .i64 0]) ∧ OwnB w' W.heap.size a c [0, 0] ∧ Below W.heap.size W w' :=
    fun W g v d p h => by have := load_ok h 0 2 (by rw [ex_len3]; decide); rw [ex_a] at this; exact this
  have S2 : ∀ (W : World) (g v d p : Nat), MemP W g v d p exM3 → Calls Try.prog 22 #[.pointer (some ⟨g, 0, none⟩), .int .i64 0, .slice (some ⟨W.heap.size, 0, none⟩) 2 2] (W.alloc (.cells #[.int .u8 1, .int .u8 2] 5)) fun e w' => e = .returned (.int .i64 0) ∧ MemP w' g v d p exM5 ∧ Turns (fun k => k = v ∨ k = p) (W.alloc (.cells #[.int .u8 1, .int .u8 2] 5)) w' :=
    fun W g v d p h => store_ok (h.mono (hN W 1 2)) 0 _ _ [1, 2] (row12 W 1 2) (by rw [ex_len3]; decide)
  have F2 : ∀ (W : World) (g v d p : Nat), MemP W g v d p exM5 → Calls Try.prog 15 #[.pointer (some ⟨g, 0, none⟩), .int .i64 0, .int .i64 1] W fun e w' => e = .returned (.int .i64 0) ∧ MemP w' g v d p (flushM exM5 0 1) ∧ Turns (fun k => k = p) W w' :=
    fun W g v d p h => flush_ok h 0 1 (by rw [ex_len5]; decide)
  have C2 : ∀ (W : World) (g v d p : Nat), MemP W g v d p (fenceM (flushM exM5 0 1)) → Calls Try.prog 18 #[.pointer (some ⟨g, 0, none⟩), .slice none 0 0] W fun e w' => (∃ x, e = .returned x) ∧ MemP w' g v d p exM7 ∧ Turns (fun k => k = v ∨ k = d ∨ k = p) W w' :=
    fun W g v d p h => crash_any h [] none 0 (rowNilI W) (fun x hx => by cases hx) (fun hn => absurd hn (by simp))
  have L2 : ∀ (W : World) (g v d p : Nat), MemP W g v d p exM7 → Calls Try.prog 17 #[.pointer (some ⟨g, 0, none⟩), .int .i64 0, .int .i64 2] W fun e w' => ∃ a c, e = .returned (.tuple #[.slice a 2 c, .int .i64 0]) ∧ OwnB w' W.heap.size a c [1, 2] ∧ Below W.heap.size W w' :=
    fun W g v d p h => by have := load_ok h 0 2 (by rw [ex_len7]; decide); rw [ex_b] at this; exact this
  have E1 : ∀ (W : World) (a : Option Addr) (c : Nat), RowB W a c [0, 0] → Calls Try.prog 19 #[.slice a 2 c, .slice (some ⟨W.heap.size, 0, none⟩) 2 2] (W.alloc (.cells #[.int .u8 0, .int .u8 0] 5)) fun e w' => e = .returned (.bool true) ∧ Below (W.alloc (.cells #[.int .u8 0, .int .u8 0] 5)).heap.size (W.alloc (.cells #[.int .u8 0, .int .u8 0] 5)) w' :=
    fun W a c r => same_any a (some ⟨W.heap.size, 0, none⟩) c 2 [0, 0] [0, 0] _ (r.mono (hN W 0 0)) (row12 W 0 0) (by decide) (by decide)
  have E2 : ∀ (W : World) (a : Option Addr) (c : Nat), RowB W a c [1, 2] → Calls Try.prog 19 #[.slice a 2 c, .slice (some ⟨W.heap.size, 0, none⟩) 2 2] (W.alloc (.cells #[.int .u8 1, .int .u8 2] 5)) fun e w' => e = .returned (.bool true) ∧ Below (W.alloc (.cells #[.int .u8 1, .int .u8 2] 5)).heap.size (W.alloc (.cells #[.int .u8 1, .int .u8 2] 5)) w' :=
    fun W a c r => same_any a (some ⟨W.heap.size, 0, none⟩) c 2 [1, 2] [1, 2] _ (r.mono (hN W 1 2)) (row12 W 1 2) (by decide) (by decide)
  have S1 := hid S1; have F1 := hid F1; have C1 := hid C1; have L1 := hid L1; have S2 := hid S2; have F2 := hid F2; have C2 := hid C2; have L2 := hid L2; have E1 := hid E1; have E2 := hid E2
  clear hN
  go_enter Try.func11, Try.ntmps11
  go_wp2_with fail
  refine (new64 w).mono ?_
  rintro e w1 ⟨g, v, d, p, rfl, m1, ⟨hg, hv, hd, hp⟩, b1⟩
  have M1 := hid m1; have B1 := hid b1
  clear m1 b1
  go_wp2_with fail
  refine (S1.out _ g v d p M1.out).mono ?_
  rintro e w2 ⟨rfl, m2, t2⟩
  have M2 := hid m2; have B2 := hid ((kept_alloc B1.out _).trans (t2.below (B := w.heap.size) (by have := B1.out.size; simp; omega) (fun k hk => by rcases hk with e | e <;> rw [e] <;> assumption)))
  clear m2 t2
  go_wp2_with fail
  refine (F1.out _ g v d p M2.out).mono ?_
  rintro e w3 ⟨rfl, m3, t3⟩
  have M3 := hid m3; have B3 := hid (B2.out.trans (t3.below (B := w.heap.size) B2.out.size (fun k hk => by rw [hk]; assumption)))
  clear m3 t3
  go_wp2_with fail
  refine (C1.out _ g v d p M3.out).mono ?_
  rintro e w4 ⟨⟨z4, rfl⟩, m4, t4⟩
  have M4 := hid m4; have B4 := hid (B3.out.trans (below_of3 t4 B3.out.size hv hd hp))
  clear m4 t4
  go_wp2_with fail
  refine (L1.out _ g v d p M4.out).mono ?_
  rintro e w5 ⟨a5, c5, rfl, o5, b5⟩
  have M5 := hid (M4.out.mono b5); have B5 := hid (kept_trans B4.out b5); have O5 := hid o5
  obtain ⟨_, _, _, _, _, _, _, vl, dl, pl⟩ := mem_apart M4.out
  clear b5 o5
  go_wp2_with fail
  refine (S2.out _ g v d p M5.out).mono ?_
  rintro e w6 ⟨rfl, m6, t6⟩
  have M6 := hid m6; have B6 := hid ((kept_alloc B5.out _).trans (t6.below (B := w.heap.size) (by have := B5.out.size; simp; omega) (fun k hk => by rcases hk with e | e <;> rw [e] <;> assumption)))
  have O6 := hid (t6.own (O5.out.alloc _) (fun k hk => by rcases hk with e | e <;> rw [e] <;> assumption))
  clear m6 t6
  go_wp2_with fail
  refine (F2.out _ g v d p M6.out).mono ?_
  rintro e w7 ⟨rfl, m7, t7⟩
  have M7 := hid m7; have B7 := hid (B6.out.trans (t7.below (B := w.heap.size) B6.out.size (fun k hk => by rw [hk]; assumption))); have O7 := hid (t7.own O6.out (fun k hk => by rw [hk]; assumption))
  clear m7 t7
  go_wp2_with fail
  refine (fence_any M7.out).mono ?_
  rintro e w8 ⟨⟨z8, rfl⟩, m8, t8⟩
  have M8 := hid m8; have B8 := hid (B7.out.trans (t8.below (B := w.heap.size) B7.out.size (fun k hk => by rcases hk with e | e <;> rw [e] <;> assumption))); have O8 := hid (t8.own O7.out (fun k hk => by rcases hk with e | e <;> rw [e] <;> assumption))
  clear m8 t8
  go_wp2_with fail
  refine (C2.out _ g v d p M8.out).mono ?_
  rintro e w9 ⟨⟨z9, rfl⟩, m9, t9⟩
  have M9 := hid m9; have B9 := hid (B8.out.trans (below_of3 t9 B8.out.size hv hd hp)); have O9 := hid (t9.own O8.out (fun k hk => by rcases hk with e | e | e <;> rw [e] <;> assumption))
  clear m9 t9
  go_wp2_with fail
  refine (L2.out _ g v d p M9.out).mono ?_
  rintro e w10 ⟨a10, c10, rfl, o10, b10⟩
  have B10 := hid (kept_trans B9.out b10); have O10 := hid (O9.out.mono b10); have P10 := hid o10
  clear b10 o10
  go_wp2_with fail
  refine (E1.out _ a5 c5 (Own.row O10.out)).mono ?_
  rintro e w11 ⟨rfl, b11⟩
  have B11 := hid (kept_trans (kept_alloc B10.out _) b11); have P11 := hid ((P10.out.alloc _).mono b11)
  clear b11
  go_wp2_with fail
  refine (E2.out _ a10 c10 (Own.row P11.out)).mono ?_
  rintro e w12 ⟨rfl, b12⟩
  have B12 := hid (kept_trans (kept_alloc B11.out _) b12)
  clear b12
  go_wp2_with fail
  refine (new65 _).mono ?_
  rintro e w13 ⟨rfl, rfl⟩
  go_wp2_with fail
  go_ret
  exact ⟨rfl, B12.out⟩
end Go.Proofs.Ytcgekooahahjpaa
