import Derived.Test.YtmjdplnadclgnaaBitsA
namespace Go.Proofs.Ytmjdplnadclgnaa
open Go.RowKit Go.WideShapes
set_option linter.unusedSimpArgs false
set_option linter.unusedVariables false

theorem box_blk (w : World) (xs : List UInt8) (o : Obj) : Blk ((w.alloc (.cells (mapC xs) 24)).alloc o) w.heap.size 24 (xs.map byteV) :=
  Blk.mono (show Blk (w.alloc (.cells (mapC xs) 24)) w.heap.size 24 (xs.map byteV) from heap_alloc_new w _) ((Below.refl _ _).alloc (Nat.le_refl _) o)
theorem box_cell (w : World) (xs : List UInt8) {j : Nat} (hj : j < xs.length) (o : Obj) : ((w.alloc (.cells (mapC xs) 24)).alloc o).cell? ⟨w.heap.size, j, none⟩ = some (.int .u8 (bAt xs j : Int)) := by
  rw [Blk.cell (box_blk w xs o) (i := j) (by simpa using hj)]
  simp [byteV, bAt_eq hj]
theorem box_frozen (w : World) (xs : List UInt8) (j : Nat) (o : Obj) : ((w.alloc (.cells (mapC xs) 24)).alloc o).frozen? ⟨w.heap.size, j, none⟩ = false := Blk.frozen (box_blk w xs o) j
def zeros16 : List UInt8 := List.replicate 16 0
theorem new_blk (w : World) (xs : List UInt8) : Blk ((w.alloc (.cells (mapC xs) 24)).alloc (.cells (mapC zeros16) 24)) (w.heap.size + 1) 24 (zeros16.map byteV) := by
  have := heap_alloc_new (w.alloc (.cells (mapC xs) 24)) (.cells (mapC zeros16) 24)
  rw [show (w.alloc (.cells (mapC xs) 24)).heap.size = w.heap.size + 1 from by simp] at this
  exact this
theorem zero16 : (#[.int .u8 0, .int .u8 0, .int .u8 0, .int .u8 0, .int .u8 0, .int .u8 0, .int .u8 0, .int .u8 0, .int .u8 0, .int .u8 0, .int .u8 0, .int .u8 0, .int .u8 0, .int .u8 0, .int .u8 0, .int .u8 0] : Array Value) = mapC zeros16 := rfl
theorem map_setC (xs : List UInt8) (q v : Nat) (hv : v < 256) : (mapC xs).setIfInBounds q (.int .u8 (v : Int)) = mapC (xs.set q (UInt8.ofNat v)) := by
  unfold mapC; rw [← map_set xs q v hv]; simp

set_option maxHeartbeats 2000000 in
theorem take_any (xs : List UInt8) (n : Int) (w : World) (hx : xs.length = 16) (hn : -9223372036854775808 ≤ n ∧ n ≤ 9223372036854775807) :
    Calls Try.prog 17 #[.agg (mapC xs), .int .i64 n] w fun e w' => e = .returned (.agg (mapC (takeX xs n))) ∧ Below w.heap.size w w' := by
  by_cases h : 1 ≤ n ∧ n ≤ 128
  · obtain ⟨k, rfl⟩ : ∃ k : Nat, n = (k : Int) + 1 := ⟨(n - 1).toNat, by omega⟩
    have hk : k < 128 := by omega
    have hU : takeX xs ((k : Int) + 1) = xs.set (k / 8) (UInt8.ofNat (bAt xs (k / 8) ||| 2 ^ (k % 8))) := by
      unfold takeX; rw [if_pos h]; simp [takeL]
    rw [hU]
    have d1 : decide (1 ≤ (k : Int) + 1 ∧ (k : Int) + 1 ≤ 128) = true := decide_eq_true h
    have h1 : (k : Int) + 1 - 1 = k := by omega
    have h2 : (k : Int).tdiv 8 = ((k / 8 : Nat) : Int) := rfl
    have h3 : IntKind.i64.wrap (k : Int) = k := IntWalk.i64_in _ (by omega)
    have h4 : k / 8 < 16 := by omega
    have h5 : IntKind.i64.wrap ((k / 8 : Nat) : Int) = (k / 8 : Nat) := IntWalk.i64_in _ (by omega)
    have hc := box_cell w xs (show k / 8 < xs.length by omega)
    have hf := box_frozen w xs (k / 8)
    have hop := u8_or_nat (bAt xs (k / 8)) (2 ^ (k % 8)) (bAt_lt _ _) (pow_lt256 k)
    have hv : bAt xs (k / 8) ||| 2 ^ (k % 8) < 256 := or_lt256 _ _ (bAt_lt _ _) (pow_lt256 k)
    have hset := map_setC xs (k / 8) (bAt xs (k / 8) ||| 2 ^ (k % 8)) hv
    have hls : (xs.set (k / 8) (UInt8.ofNat (bAt xs (k / 8) ||| 2 ^ (k % 8)))).length = 16 := by simpa using hx
    have HB := hid (fun w1 => bit_any k w1 hk)
    generalize xs.set (k / 8) (UInt8.ofNat (bAt xs (k / 8) ||| 2 ^ (k % 8))) = ys at *
    generalize k / 8 = q at *
    generalize k % 8 = r at *
    generalize bAt xs q = x at *
    generalize hval : (x ||| 2 ^ r : Nat) = val at *
    generalize ((2 ^ r : Nat) : Int) = p at *
    have HS := hid hset
    clear hset hval
    go_enter Try.func17, Try.ntmps17
    go_wp2_with fail
    refine (isBlock_any _ _).mono ?_
    rintro e w1 ⟨rfl, rfl⟩
    rw [d1]
    go_wp2_with fail
    rw [zero16]
    first
    | (go_region_with (first
        | (go_at_call 27; refine (HB.out _).mono ?_; rintro e w1 ⟨rfl, rfl⟩)))
    | fail
    all_goals
      rw [HS.out]
      have K0 := Blk.drew (box_blk w ys (.cells (mapC zeros16) 24))
      have N0 := Blk.drew (new_blk w ys)
      have B0 : Below w.heap.size w ((w.alloc (.cells (mapC ys) 24)).alloc (.cells (mapC zeros16) 24)).drew := (((Below.refl _ w).alloc (Nat.le_refl _) _).alloc (by simp) _).drew
      generalize ((w.alloc (.cells (mapC ys) 24)).alloc (.cells (mapC zeros16) 24)).drew = w2 at *
      go_wp2_with (first
        | (with_reducible refine wpl_loadM rfl _ rfl w.heap.size rfl ys hls K0 ?_)
        | (with_reducible refine wpl_storeM rfl _ _ rfl (w.heap.size + 1) rfl ys rfl hls N0 rfl ?_; intro w3 k3 g3))
      refine bodyPost_ret (results_map rfl rfl k3 hls) rfl ⟨rfl, ?_⟩
      exact B0.grown g3 B0.size (fun k hk => by cases hk; omega)
  · have hU : takeX xs n = xs := by unfold takeX; rw [if_neg h]
    rw [hU]
    have d1 : decide (1 ≤ n ∧ n ≤ 128) = false := decide_eq_false h
    go_enter Try.func17, Try.ntmps17
    go_wp2_with fail
    refine (isBlock_any _ _).mono ?_
    rintro e w1 ⟨rfl, rfl⟩
    rw [d1, zero16]
    have K0 := box_blk w xs (.cells (mapC zeros16) 24)
    have N0 := new_blk w xs
    have B0 : Below w.heap.size w ((w.alloc (.cells (mapC xs) 24)).alloc (.cells (mapC zeros16) 24)) := (((Below.refl _ w).alloc (Nat.le_refl _) _).alloc (by simp) _)
    generalize ((w.alloc (.cells (mapC xs) 24)).alloc (.cells (mapC zeros16) 24)) = w2 at *
    go_wp2_with (first
      | (with_reducible refine wpl_loadM rfl _ rfl w.heap.size rfl xs hx K0 ?_)
      | (with_reducible refine wpl_storeM rfl _ _ rfl (w.heap.size + 1) rfl xs rfl hx N0 rfl ?_; intro w3 k3 g3))
    refine bodyPost_ret (results_map rfl rfl k3 hx) rfl ⟨rfl, ?_⟩
    exact B0.grown g3 B0.size (fun k hk => by cases hk; omega)

set_option maxHeartbeats 2000000 in
theorem give_any (xs : List UInt8) (n : Int) (w : World) (hx : xs.length = 16) (hn : -9223372036854775808 ≤ n ∧ n ≤ 9223372036854775807) :
    Calls Try.prog 18 #[.agg (mapC xs), .int .i64 n] w fun e w' => e = .returned (.agg (mapC (giveX xs n))) ∧ Below w.heap.size w w' := by
  by_cases h : 1 ≤ n ∧ n ≤ 128
  · obtain ⟨k, rfl⟩ : ∃ k : Nat, n = (k : Int) + 1 := ⟨(n - 1).toNat, by omega⟩
    have hk : k < 128 := by omega
    have hU : giveX xs ((k : Int) + 1) = xs.set (k / 8) (UInt8.ofNat (bAt xs (k / 8) &&& (255 - 2 ^ (k % 8)))) := by
      unfold giveX; rw [if_pos h]; simp [giveL]
    rw [hU]
    have d1 : decide (1 ≤ (k : Int) + 1 ∧ (k : Int) + 1 ≤ 128) = true := decide_eq_true h
    have h1 : (k : Int) + 1 - 1 = k := by omega
    have h2 : (k : Int).tdiv 8 = ((k / 8 : Nat) : Int) := rfl
    have h3 : IntKind.i64.wrap (k : Int) = k := IntWalk.i64_in _ (by omega)
    have h4 : k / 8 < 16 := by omega
    have h5 : IntKind.i64.wrap ((k / 8 : Nat) : Int) = (k / 8 : Nat) := IntWalk.i64_in _ (by omega)
    have hc := box_cell w xs (show k / 8 < xs.length by omega)
    have hf := box_frozen w xs (k / 8)
    have hop := u8_andNot_nat (bAt xs (k / 8)) (2 ^ (k % 8)) (bAt_lt _ _) (pow_lt256 k)
    have hv : bAt xs (k / 8) &&& (255 - 2 ^ (k % 8)) < 256 := and_lt256 _ _ (bAt_lt _ _)
    have hset := map_setC xs (k / 8) (bAt xs (k / 8) &&& (255 - 2 ^ (k % 8))) hv
    have hls : (xs.set (k / 8) (UInt8.ofNat (bAt xs (k / 8) &&& (255 - 2 ^ (k % 8))))).length = 16 := by simpa using hx
    have HB := hid (fun w1 => bit_any k w1 hk)
    generalize xs.set (k / 8) (UInt8.ofNat (bAt xs (k / 8) &&& (255 - 2 ^ (k % 8)))) = ys at *
    generalize k / 8 = q at *
    generalize k % 8 = r at *
    generalize bAt xs q = x at *
    generalize hval : (x &&& (255 - 2 ^ r) : Nat) = val at *
    generalize ((2 ^ r : Nat) : Int) = p at *
    have HS := hid hset
    clear hset hval
    go_enter Try.func18, Try.ntmps18
    go_wp2_with fail
    refine (isBlock_any _ _).mono ?_
    rintro e w1 ⟨rfl, rfl⟩
    rw [d1]
    go_wp2_with fail
    rw [zero16]
    first
    | (go_region_with (first
        | (go_at_call 27; refine (HB.out _).mono ?_; rintro e w1 ⟨rfl, rfl⟩)))
    | fail
    all_goals
      rw [HS.out]
      have K0 := Blk.drew (box_blk w ys (.cells (mapC zeros16) 24))
      have N0 := Blk.drew (new_blk w ys)
      have B0 : Below w.heap.size w ((w.alloc (.cells (mapC ys) 24)).alloc (.cells (mapC zeros16) 24)).drew := (((Below.refl _ w).alloc (Nat.le_refl _) _).alloc (by simp) _).drew
      generalize ((w.alloc (.cells (mapC ys) 24)).alloc (.cells (mapC zeros16) 24)).drew = w2 at *
      go_wp2_with (first
        | (with_reducible refine wpl_loadM rfl _ rfl w.heap.size rfl ys hls K0 ?_)
        | (with_reducible refine wpl_storeM rfl _ _ rfl (w.heap.size + 1) rfl ys rfl hls N0 rfl ?_; intro w3 k3 g3))
      refine bodyPost_ret (results_map rfl rfl k3 hls) rfl ⟨rfl, ?_⟩
      exact B0.grown g3 B0.size (fun k hk => by cases hk; omega)
  · have hU : giveX xs n = xs := by unfold giveX; rw [if_neg h]
    rw [hU]
    have d1 : decide (1 ≤ n ∧ n ≤ 128) = false := decide_eq_false h
    go_enter Try.func18, Try.ntmps18
    go_wp2_with fail
    refine (isBlock_any _ _).mono ?_
    rintro e w1 ⟨rfl, rfl⟩
    rw [d1, zero16]
    have K0 := box_blk w xs (.cells (mapC zeros16) 24)
    have N0 := new_blk w xs
    have B0 : Below w.heap.size w ((w.alloc (.cells (mapC xs) 24)).alloc (.cells (mapC zeros16) 24)) := (((Below.refl _ w).alloc (Nat.le_refl _) _).alloc (by simp) _)
    generalize ((w.alloc (.cells (mapC xs) 24)).alloc (.cells (mapC zeros16) 24)) = w2 at *
    go_wp2_with (first
      | (with_reducible refine wpl_loadM rfl _ rfl w.heap.size rfl xs hx K0 ?_)
      | (with_reducible refine wpl_storeM rfl _ _ rfl (w.heap.size + 1) rfl xs rfl hx N0 rfl ?_; intro w3 k3 g3))
    refine bodyPost_ret (results_map rfl rfl k3 hx) rfl ⟨rfl, ?_⟩
    exact B0.grown g3 B0.size (fun k hk => by cases hk; omega)

end Go.Proofs.Ytmjdplnadclgnaa
