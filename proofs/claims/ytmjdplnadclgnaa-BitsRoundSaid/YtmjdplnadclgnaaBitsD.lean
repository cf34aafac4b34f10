import Derived.Test.YtmjdplnadclgnaaBitsC
import Derived.BigRegion
namespace Go.Proofs.Ytmjdplnadclgnaa
open Go.RowKit Go.WideShapes
set_option linter.unusedSimpArgs false
set_option linter.unusedVariables false

def woB (xs ys : List UInt8) (j : Nat) : Nat := bAt xs j &&& (255 - bAt ys j)
theorem woB_lt (xs ys : List UInt8) (j : Nat) : woB xs ys j < 256 := and_lt256 _ _ (bAt_lt _ _)
def withoutP (xs ys : List UInt8) (i : Nat) : List UInt8 := (List.range 16).map fun j => UInt8.ofNat (if j < i then woB xs ys j else bAt xs j)
def withoutL (xs ys : List UInt8) : List UInt8 := withoutP xs ys 16
theorem withoutP_length (xs ys : List UInt8) (i : Nat) : (withoutP xs ys i).length = 16 := by simp [withoutP]
theorem bAt_withoutP (xs ys : List UInt8) (i j : Nat) (hj : j < 16) : bAt (withoutP xs ys i) j = if j < i then woB xs ys j else bAt xs j := by
  have h1 := woB_lt xs ys j
  have h2 := bAt_lt xs j
  rw [bAt_eq (by rw [withoutP_length]; exact hj)]
  simp only [withoutP, List.getElem_map, List.getElem_range]
  split <;> simp <;> omega
theorem bAt_ext16 {xs ys : List UInt8} (hx : xs.length = 16) (hy : ys.length = 16) (h : ∀ j, j < 16 → bAt xs j = bAt ys j) : xs = ys := by
  apply List.ext_getElem (by omega)
  intro i h1 h2
  apply UInt8.toNat_inj.1
  have := h i (by omega)
  rwa [bAt_eq h1, bAt_eq h2] at this
theorem withoutP_zero (xs ys : List UInt8) (hx : xs.length = 16) : withoutP xs ys 0 = xs := by
  apply bAt_ext16 (withoutP_length _ _ _) hx
  intro j hj
  rw [bAt_withoutP _ _ _ _ hj]; simp
theorem withoutP_step (xs ys : List UInt8) {i : Nat} (hi : i < 16) : (withoutP xs ys i).set i (UInt8.ofNat (woB xs ys i)) = withoutP xs ys (i + 1) := by
  apply bAt_ext16 (by simp [withoutP_length]) (withoutP_length _ _ _)
  intro j hj
  rw [bAt_set _ _ _ _ (woB_lt xs ys i) (by rw [withoutP_length]; exact hi), bAt_withoutP _ _ _ _ hj, bAt_withoutP _ _ _ _ hj]
  by_cases h : i = j
  · subst h; simp
  · rw [if_neg h]
    by_cases h2 : j < i
    · rw [if_pos h2, if_pos (by omega)]
    · rw [if_neg h2, if_neg (by omega)]
theorem bitB_without (xs ys : List UInt8) (k : Nat) (hk : k < 128) : bitB (withoutL xs ys) k = (bitB xs k && !bitB ys k) := by
  have hy := bAt_lt ys (k / 8)
  unfold bitB withoutL
  rw [bAt_withoutP _ _ _ _ (by omega), if_pos (by omega)]
  unfold woB
  have e1 : 255 - bAt ys (k / 8) = 2 ^ 8 - (bAt ys (k / 8) + 1) := by omega
  rw [Nat.testBit_and, e1, Nat.testBit_two_pow_sub_succ (by omega)]
  have hj : k % 8 < 8 := Nat.mod_lt _ (by omega)
  rw [decide_eq_true hj, Bool.true_and]

set_option maxHeartbeats 2000000 in
set_option maxRecDepth 100000 in
theorem without_any (xs ys : List UInt8) (w : World) (hx : xs.length = 16) (hy : ys.length = 16) :
    Calls Try.prog 23 #[.agg (mapC xs), .agg (mapC ys)] w fun e w' => e = .returned (.agg (mapC (withoutL xs ys))) ∧ Below w.heap.size w w' := by
  have K0 : Blk (((w.alloc (.cells (mapC xs) 24)).alloc (.cells (mapC ys) 24)).alloc (.cells (mapC zeros16) 24)) w.heap.size 24 (xs.map byteV) := Blk.mono (box_blk w xs _) ((Below.refl _ _).alloc (Nat.le_refl _) _)
  have K1 : Blk (((w.alloc (.cells (mapC xs) 24)).alloc (.cells (mapC ys) 24)).alloc (.cells (mapC zeros16) 24)) (w.heap.size + 1) 24 (ys.map byteV) := by
    have := box_blk (w.alloc (.cells (mapC xs) 24)) ys (.cells (mapC zeros16) 24)
    rw [show (w.alloc (.cells (mapC xs) 24)).heap.size = w.heap.size + 1 from by simp] at this
    exact this
  have K2 : Blk (((w.alloc (.cells (mapC xs) 24)).alloc (.cells (mapC ys) 24)).alloc (.cells (mapC zeros16) 24)) (w.heap.size + 2) 24 (zeros16.map byteV) := by
    have := new_blk (w.alloc (.cells (mapC xs) 24)) ys
    rw [show (w.alloc (.cells (mapC xs) 24)).heap.size = w.heap.size + 1 from by simp] at this
    exact this
  have B0 : Below w.heap.size w (((w.alloc (.cells (mapC xs) 24)).alloc (.cells (mapC ys) 24)).alloc (.cells (mapC zeros16) 24)) := (((Below.refl _ w).alloc (Nat.le_refl _) _).alloc (by simp) _).alloc (by simp; omega) _
  have HK := hid K0; have HK1 := hid K1; have HK2 := hid K2; have HB := hid B0
  clear K0 K1 K2 B0
  go_enter Try.func23, Try.ntmps23
  go_wp2_with fail
  rw [zero16]
  have K0 := HK.out; have K1 := HK1.out; have K2 := HK2.out; have B0 := HB.out
  clear HK HK1 HK2 HB
  generalize (((w.alloc (.cells (mapC xs) 24)).alloc (.cells (mapC ys) 24)).alloc (.cells (mapC zeros16) 24)) = w1 at *
  go_loopw [6] (fun i wr => ∃ j : Nat, j ≤ 16 ∧ i = .int .i64 j ∧ Blk wr w.heap.size 24 ((withoutP xs ys j).map byteV) ∧ Blk wr (w.heap.size + 1) 24 (ys.map byteV) ∧ Blk wr (w.heap.size + 2) 24 (zeros16.map byteV) ∧ Below w.heap.size w wr)
    (fun i _ => 16 - (intOf i).toNat)
  case atStart => exact ⟨0, by omega, rfl, by rw [withoutP_zero xs ys hx]; exact K0, K1, K2, B0⟩
  case round =>
    obtain ⟨j, hj, rfl, k0, k1, k2, br⟩ := hrel
    by_cases hlt : j < 16
    · have c0 : wr.cell? ⟨w.heap.size, j, none⟩ = some (.int .u8 (bAt xs j : Int)) := by
        rw [Blk.cell k0 (i := j) (by simp [withoutP_length]; exact hlt)]
        have := bAt_withoutP xs ys j j hlt
        rw [if_neg (by omega)] at this
        rw [← this]
        simp [byteV, bAt_eq (show j < (withoutP xs ys j).length by rw [withoutP_length]; exact hlt)]
      have c1 : wr.cell? ⟨w.heap.size + 1, j, none⟩ = some (.int .u8 (bAt ys j : Int)) := by
        rw [Blk.cell k1 (i := j) (by simp; omega)]
        simp [byteV, bAt_eq (show j < ys.length by omega)]
      have f0 : wr.frozen? ⟨w.heap.size, j, none⟩ = false := Blk.frozen k0 j
      have hop := u8_andNot_nat (bAt xs j) (bAt ys j) (bAt_lt _ _) (bAt_lt _ _)
      rw [show bAt xs j &&& (255 - bAt ys j) = woB xs ys j from rfl] at hop
      have s0 : Blk (wr.drew.setCell ⟨w.heap.size, j, none⟩ (.int .u8 (woB xs ys j : Int))) w.heap.size 24 ((withoutP xs ys (j + 1)).map byteV) := by
        have := Blk.set (Blk.drew k0) j (.int .u8 (woB xs ys j : Int))
        rw [map_set _ _ _ (woB_lt xs ys j), withoutP_step xs ys hlt] at this
        exact this
      have sb := (Below.refl (w.heap.size + 1) wr).drew
      have s1 := Blk.setOther' (Blk.drew k1) (show w.heap.size + 1 ≠ w.heap.size by omega) j (.int .u8 (woB xs ys j : Int))
      have s2 := Blk.setOther' (Blk.drew k2) (show w.heap.size + 2 ≠ w.heap.size by omega) j (.int .u8 (woB xs ys j : Int))
      have sB := br.drew.setCell (Nat.le_refl _) (p := ⟨w.heap.size, j, none⟩) (.int .u8 (woB xs ys j : Int))
      have HS0 := hid s0; have HS1 := hid s1; have HS2 := hid s2; have HSB := hid sB
      clear s0 s1 s2 sB sb k0 k1 k2 br K0 K1 K2 B0
      go_wp2_with fail
      first
      | go_region
      | fail
      all_goals
        go_wp2_with fail
        go_roundw
        case rel => exact ⟨j + 1, by omega, by go_num, HS0.out, HS1.out, HS2.out, HSB.out⟩
        case measure => simp [intOf]; omega
    · obtain rfl : j = 16 := by omega
      go_wp2_with (first
        | (with_reducible refine wpl_loadM rfl _ rfl w.heap.size rfl (withoutP xs ys 16) (withoutP_length _ _ _) k0 ?_)
        | (with_reducible refine wpl_storeM rfl _ _ rfl (w.heap.size + 2) rfl (withoutP xs ys 16) rfl (withoutP_length _ _ _) k2 rfl ?_; intro w3 k3 g3))
      refine bodyPost_ret (results_map rfl rfl k3 (withoutP_length _ _ _)) rfl ⟨rfl, ?_⟩
      exact br.grown g3 br.size (fun k hk => by cases hk; omega)

end Go.Proofs.Ytmjdplnadclgnaa
