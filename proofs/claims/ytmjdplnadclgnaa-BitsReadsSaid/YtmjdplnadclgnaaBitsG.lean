import Derived.Test.YtmjdplnadclgnaaBitsF
import Derived.Test.YtmjdplnadclgnaaLibI
namespace Go.Proofs.Ytmjdplnadclgnaa
open Go.RowKit Go.WideShapes
set_option linter.unusedSimpArgs false
set_option linter.unusedVariables false

theorem zero_blk (w : World) : Blk (w.alloc (.cells #[.int .u8 0, .int .u8 0, .int .u8 0, .int .u8 0, .int .u8 0, .int .u8 0, .int .u8 0, .int .u8 0, .int .u8 0, .int .u8 0, .int .u8 0, .int .u8 0, .int .u8 0, .int .u8 0, .int .u8 0, .int .u8 0] 24)) w.heap.size 24 (zeros16.map byteV) := heap_alloc_new w _

set_option maxHeartbeats 4000000 in
set_option maxRecDepth 100000 in
theorem lives10_any (w : World) : Calls Try.prog 11 #[] w fun e w' => e = .returned (.bool true) ∧ Below w.heap.size w w' := by
  have H9 := hid (fun w1 => take_any zeros16 9 w1 rfl (by omega))
  have H1 := hid (fun w1 => take_any zeros16 1 w1 rfl (by omega))
  have l9 : (takeX zeros16 9).length = 16 := takeX_length _ _
  have l1 : (takeX zeros16 1).length = 16 := takeX_length _ _
  have H2 := hid (fun w1 => take_any (takeX zeros16 1) 2 w1 l1 (by omega))
  have l2 : (takeX (takeX zeros16 1) 2).length = 16 := by rw [takeX_length]; exact l1
  have b9 : bAt (takeX zeros16 9) 1 = 1 := by decide +kernel
  have f2 : firstX (takeX (takeX zeros16 1) 2) 1 = 3 := by decide +kernel
  have n2 : (allX (takeX (takeX zeros16 1) 2) 128).length = 2 := by decide +kernel
  have u2 : usedB (takeX (takeX zeros16 1) 2) 2 = true := by decide +kernel
  have u3 : usedB (takeX (takeX zeros16 1) 2) 3 = false := by decide +kernel
  have HB := hid (fun w1 => mbytes_any (takeX zeros16 9) w1 l9)
  have HF := fun w1 => first_any (takeX (takeX zeros16 1) 2) 1 w1 l2 (by omega)
  have HN := fun w1 => count_any (takeX (takeX zeros16 1) 2) w1 l2
  have HU2 := fun w1 => used_any (takeX (takeX zeros16 1) 2) 2 w1 l2 (by omega)
  have HU3 := fun w1 => used_any (takeX (takeX zeros16 1) 2) 3 w1 l2 (by omega)
  rw [f2] at HF; rw [n2, show ((2 : Nat) : Int) = 2 from rfl] at HN; rw [u2] at HU2; rw [u3] at HU3
  have HF := hid HF; have HN := hid HN; have HU2 := hid HU2; have HU3 := hid HU3
  have B9 := hid b9
  clear f2 n2 u2 u3 b9
  generalize hm2 : takeX (takeX zeros16 1) 2 = M2 at *
  generalize takeX zeros16 1 = M1 at *
  generalize takeX zeros16 9 = M9 at *
  clear hm2
  go_enter Try.func11, Try.ntmps11
  go_wp2_with fail
  rw [zero16]
  refine (H9.out _).mono ?_
  rintro e w1 ⟨rfl, b1⟩
  go_wp2_with (first
    | ((with_reducible refine wpl_storeM rfl _ _ rfl w1.heap.size rfl M9 rfl l9 (zero_blk w1) rfl ?_); intro w2 k2 g2)
    | ((with_reducible refine wpl_loadM rfl _ rfl w1.heap.size rfl M9 l9 k2 ?_)))
  have b2 : Below w.heap.size w w2 := (b1.alloc b1.size _).grown g2 (by have := b1.size; simp; omega) (fun k hk => by cases hk; exact b1.size)
  clear g2 k2 b1
  refine (HB.out _).mono ?_
  rintro e w3 ⟨a3, c3, rfl, o3, b3⟩
  have b3' := below_trans b2 b3 b2.size
  obtain ⟨bb, off, rfl, hbb, hcell⟩ := o3.row.bytes (by omega)
  have c1 := hcell 1 (by omega)
  rw [B9.out, show ((1 : Nat) : Int) = 1 from rfl] at c1
  rw [l9]
  clear o3 hcell b2 b3
  go_wp2_with fail
  rw [zero16]
  refine (H1.out _).mono ?_
  rintro e w4 ⟨rfl, b4⟩
  have b4' := below_trans b3' b4 b3'.size
  have c4 := (b4.cell (p := ⟨bb, off + 1, none⟩) hbb).trans c1
  have hbb4 := Nat.lt_of_lt_of_le hbb b4.size
  clear c1 b4 b3'
  go_wp2_with fail
  refine (H2.out _).mono ?_
  rintro e w5 ⟨rfl, b5⟩
  have b5' := below_trans b4' b5 b4'.size
  have c5 := (b5.cell (p := ⟨bb, off + 1, none⟩) hbb4).trans c4
  have hbb5 := Nat.lt_of_lt_of_le hbb4 b5.size
  clear c4 b5 b4'
  go_wp2_with (first
    | ((with_reducible refine wpl_storeM rfl _ _ rfl w5.heap.size rfl M2 rfl l2 (zero_blk w5) rfl ?_); intro w6 k6 g6; have b6 : Below w5.heap.size w5 w6 := ((Below.refl w5.heap.size w5).alloc (Nat.le_refl _) _).grown g6 (by simp) (fun k hk => by cases hk; omega); have c6 := (b6.cell (p := ⟨bb, off + 1, none⟩) hbb5).trans c5; clear g6)
    | ((with_reducible refine wpl_loadW _ rfl w5.heap.size rfl M2 l2 (by assumption) ?hw ?_); (case hw => exact (Eq.refl true)))
    | (go_at_call 19; refine (HF.out _).mono ?_; rintro e w7 ⟨rfl, b7⟩; have k7 := Blk.mono k6 b7)
    | (go_at_call 22; refine (HN.out _).mono ?_; rintro e w8 ⟨rfl, b8⟩; have k8 := Blk.mono k7 b8)
    | (go_at_call_of 16 (Value.int IntKind.i64 2); refine (HU2.out _).mono ?_; rintro e w9 ⟨rfl, b9⟩; have k9 := Blk.mono k8 b9)
    | (go_at_call_of 16 (Value.int IntKind.i64 3); refine (HU3.out _).mono ?_; rintro e w10 ⟨rfl, b10⟩))
  go_ret
  exact ⟨rfl, kept_trans (kept_trans (kept_trans (kept_trans (kept_trans b5' b6) b7) b8) b9) b10⟩

end Go.Proofs.Ytmjdplnadclgnaa
