import Derived.Test.YtngfpndikjbioaaClogZb
namespace Go.Proofs.Ytngfpndikjbioaa
open Go.RowKit Go.WideShapes
set_option linter.unusedSimpArgs false
set_option linter.unusedVariables false

set_option maxHeartbeats 2000000 in
set_option maxRecDepth 100000 in
theorem refdec_short (a : Option Addr) (c : Nat) (xs : List UInt8) (w : World) (ha : RowB w a c xs) (h1 : ¬ 17 + dZ xs ≤ xs.length) :
    Calls Try.prog 15 #[.slice a xs.length c] w fun e w' => e = .returned (.tuple #[recV 0 0 false 0 ⟨#[]⟩, .int .i64 0, .int .i64 3]) ∧ Below w.heap.size w w' := by
  have hl := rowB_len ha
  have hz := dZ_le xs
  have K1 : Blk (w.alloc (.cells #[.int .i64 0, .int .i64 0, .bool false, .int .i64 0, .string ⟨#[]⟩] 23)) w.heap.size 23 [.int .i64 0, .int .i64 0, .bool false, .int .i64 0, .string ⟨#[]⟩] := heap_alloc_new w _
  have z0 : (w.alloc (.cells #[.int .i64 0, .int .i64 0, .bool false, .int .i64 0, .string ⟨#[]⟩] 23)).cell? ⟨w.heap.size, 0, none⟩ = some (.int .i64 0) := Blk.cell K1 (i := 0) (by simp)
  have zf0 : (w.alloc (.cells #[.int .i64 0, .int .i64 0, .bool false, .int .i64 0, .string ⟨#[]⟩] 23)).frozen? ⟨w.heap.size, 0, none⟩ = false := Blk.frozen K1 0
  have z1 : (w.alloc (.cells #[.int .i64 0, .int .i64 0, .bool false, .int .i64 0, .string ⟨#[]⟩] 23)).cell? ⟨w.heap.size, 1, none⟩ = some (.int .i64 0) := Blk.cell K1 (i := 1) (by simp)
  have zf1 : (w.alloc (.cells #[.int .i64 0, .int .i64 0, .bool false, .int .i64 0, .string ⟨#[]⟩] 23)).frozen? ⟨w.heap.size, 1, none⟩ = false := Blk.frozen K1 1
  have z2 : (w.alloc (.cells #[.int .i64 0, .int .i64 0, .bool false, .int .i64 0, .string ⟨#[]⟩] 23)).cell? ⟨w.heap.size, 2, none⟩ = some (.bool false) := Blk.cell K1 (i := 2) (by simp)
  have zf2 : (w.alloc (.cells #[.int .i64 0, .int .i64 0, .bool false, .int .i64 0, .string ⟨#[]⟩] 23)).frozen? ⟨w.heap.size, 2, none⟩ = false := Blk.frozen K1 2
  have z3 : (w.alloc (.cells #[.int .i64 0, .int .i64 0, .bool false, .int .i64 0, .string ⟨#[]⟩] 23)).cell? ⟨w.heap.size, 3, none⟩ = some (.int .i64 0) := Blk.cell K1 (i := 3) (by simp)
  have zf3 : (w.alloc (.cells #[.int .i64 0, .int .i64 0, .bool false, .int .i64 0, .string ⟨#[]⟩] 23)).frozen? ⟨w.heap.size, 3, none⟩ = false := Blk.frozen K1 3
  have z4 : (w.alloc (.cells #[.int .i64 0, .int .i64 0, .bool false, .int .i64 0, .string ⟨#[]⟩] 23)).cell? ⟨w.heap.size, 4, none⟩ = some (.string ⟨#[]⟩) := Blk.cell K1 (i := 4) (by simp)
  have zf4 : (w.alloc (.cells #[.int .i64 0, .int .i64 0, .bool false, .int .i64 0, .string ⟨#[]⟩] 23)).frozen? ⟨w.heap.size, 4, none⟩ = false := Blk.frozen K1 4
  unfold recV
  by_cases h13 : xs.length < 13
  · have d1 : decide ((xs.length : Int) < 13) = true := decide_eq_true (by omega)
    have d1' : decide (xs.length < 13) = true := decide_eq_true h13
    clear K1 ha
    go_enter Try.func15, Try.ntmps15
    go_wp2_with fail
    refine bodyPost_ret (results_rec3 rfl rfl (L := [.int .i64 0, .int .i64 0, .bool false, .int .i64 0, .string ⟨#[]⟩]) (heap_alloc_new w _) rfl) rfl ⟨rfl, (Below.refl _ w).alloc (Nat.le_refl _) _⟩
  · have d1 : decide ((xs.length : Int) < 13) = false := decide_eq_false (by omega)
    have d1' : decide (xs.length < 13) = false := decide_eq_false (by omega)
    obtain ⟨b, off, rfl, hb, hcell⟩ := (Row.alloc ha (.cells #[.int .i64 0, .int .i64 0, .bool false, .int .i64 0, .string ⟨#[]⟩] 23)).bytes (by omega)
    have c12 := hcell 12 (by omega)
    rw [show bAt xs 12 = dZ xs from rfl] at c12
    generalize dZ xs = z at *
    have i12 : (12 : Int) < (xs.length : Int) := by omega
    have ez : IntKind.i64.wrap (z : Int) = z := IntWalk.i64_in _ (by omega)
    have ez2 : IntKind.i64.wrap (17 + (z : Int)) = 17 + z := IntWalk.i64_in _ (by omega)
    have d2 : decide ((xs.length : Int) < 17 + (z : Int)) = true := decide_eq_true (by omega)
    clear K1 ha hcell
    go_enter Try.func15, Try.ntmps15
    go_wp2_with fail
    refine bodyPost_ret (results_rec3 rfl rfl (L := [.int .i64 0, .int .i64 0, .bool false, .int .i64 0, .string ⟨#[]⟩]) (heap_alloc_new w _) rfl) rfl ⟨rfl, (Below.refl _ w).alloc (Nat.le_refl _) _⟩

set_option maxHeartbeats 2000000 in
set_option maxRecDepth 100000 in
theorem refdec_sum (a : Option Addr) (c : Nat) (xs : List UInt8) (v : Nat) (w : World) (ha : RowB w a c xs) (f2 : getF xs ((13 + dZ xs : Nat) : Int) 4 = some v) (h1 : 17 + dZ xs ≤ xs.length) (hno : v ≠ crcF (xs.take (13 + dZ xs))) :
    Calls Try.prog 15 #[.slice a xs.length c] w fun e w' => e = .returned (.tuple #[recV 0 0 false 0 ⟨#[]⟩, .int .i64 0, .int .i64 4]) ∧ Below w.heap.size w w' := by
  have hl := rowB_len ha
  have hcap : xs.length ≤ c := ha.2.1
  have hz := dZ_le xs
  have hXl : (xs.take (13 + dZ xs)).length = 13 + dZ xs := by simp; omega
  have G13 := fun (w1 : World) (r1 : RowB w1 a c xs) => getRef_any a c xs ((13 + dZ xs : Nat) : Int) 4 w1 r1 hl (by omega)
  rw [f2, show ((13 + dZ xs : Nat) : Int) = 13 + (dZ xs : Int) by omega] at G13
  simp only [getV, Option.getD_some, Option.isSome_some] at G13
  have HSum := fun (w1 : World) (r1 : RowB w1 a c (xs.take (13 + dZ xs))) => sumRef_any a c (xs.take (13 + dZ xs)) w1 r1
  rw [hXl] at HSum
  have K1 : Blk (w.alloc (.cells #[.int .i64 0, .int .i64 0, .bool false, .int .i64 0, .string ⟨#[]⟩] 23)) w.heap.size 23 [.int .i64 0, .int .i64 0, .bool false, .int .i64 0, .string ⟨#[]⟩] := heap_alloc_new w _
  have B0 : Below w.heap.size w (w.alloc (.cells #[.int .i64 0, .int .i64 0, .bool false, .int .i64 0, .string ⟨#[]⟩] 23)) := (Below.refl _ w).alloc (Nat.le_refl _) _
  have HR := hid (fun (w1 : World) (hb : Below w.heap.size w w1) => Row.mono ha hb)
  have HX := hid (fun (w1 : World) (hb : Below w.heap.size w w1) => Row.mono (rowB_take ha (13 + dZ xs)) hb)
  have r0 := Row.mono ha B0
  obtain ⟨b, off, rfl, hb, hcell⟩ := ha.bytes (by omega)
  have hcw := fun j (hj : j < xs.length) => (B0.cell (p := ⟨b, off + j, none⟩) hb).trans (hcell j hj)
  have c12 := hcw 12 (by omega)
  rw [show bAt xs 12 = dZ xs from rfl] at c12
  have d1 : decide ((xs.length : Int) < 13) = false := decide_eq_false (by omega)
  have d1' : decide (xs.length < 13) = false := decide_eq_false (by omega)
  have i12 : (12 : Int) < (xs.length : Int) := by omega
  have G13 := hid G13; have HSum := hid HSum
  have z0 : (w.alloc (.cells #[.int .i64 0, .int .i64 0, .bool false, .int .i64 0, .string ⟨#[]⟩] 23)).cell? ⟨w.heap.size, 0, none⟩ = some (.int .i64 0) := Blk.cell K1 (i := 0) (by simp)
  have zf0 : (w.alloc (.cells #[.int .i64 0, .int .i64 0, .bool false, .int .i64 0, .string ⟨#[]⟩] 23)).frozen? ⟨w.heap.size, 0, none⟩ = false := Blk.frozen K1 0
  have z1 : (w.alloc (.cells #[.int .i64 0, .int .i64 0, .bool false, .int .i64 0, .string ⟨#[]⟩] 23)).cell? ⟨w.heap.size, 1, none⟩ = some (.int .i64 0) := Blk.cell K1 (i := 1) (by simp)
  have zf1 : (w.alloc (.cells #[.int .i64 0, .int .i64 0, .bool false, .int .i64 0, .string ⟨#[]⟩] 23)).frozen? ⟨w.heap.size, 1, none⟩ = false := Blk.frozen K1 1
  have z2 : (w.alloc (.cells #[.int .i64 0, .int .i64 0, .bool false, .int .i64 0, .string ⟨#[]⟩] 23)).cell? ⟨w.heap.size, 2, none⟩ = some (.bool false) := Blk.cell K1 (i := 2) (by simp)
  have zf2 : (w.alloc (.cells #[.int .i64 0, .int .i64 0, .bool false, .int .i64 0, .string ⟨#[]⟩] 23)).frozen? ⟨w.heap.size, 2, none⟩ = false := Blk.frozen K1 2
  have z3 : (w.alloc (.cells #[.int .i64 0, .int .i64 0, .bool false, .int .i64 0, .string ⟨#[]⟩] 23)).cell? ⟨w.heap.size, 3, none⟩ = some (.int .i64 0) := Blk.cell K1 (i := 3) (by simp)
  have zf3 : (w.alloc (.cells #[.int .i64 0, .int .i64 0, .bool false, .int .i64 0, .string ⟨#[]⟩] 23)).frozen? ⟨w.heap.size, 3, none⟩ = false := Blk.frozen K1 3
  have z4 : (w.alloc (.cells #[.int .i64 0, .int .i64 0, .bool false, .int .i64 0, .string ⟨#[]⟩] 23)).cell? ⟨w.heap.size, 4, none⟩ = some (.string ⟨#[]⟩) := Blk.cell K1 (i := 4) (by simp)
  have zf4 : (w.alloc (.cells #[.int .i64 0, .int .i64 0, .bool false, .int .i64 0, .string ⟨#[]⟩] 23)).frozen? ⟨w.heap.size, 4, none⟩ = false := Blk.frozen K1 4
  have hneq : ((v : Int) != ((crcF (xs.take (13 + dZ xs)) : Nat) : Int)) = true := by simp; omega
  unfold recV
  have HX0 := hid (HX.out _ B0); have HR0 := hid (HR.out _ B0)
  clear K1 hcell hcw hXl ha f2 hno r0 HX HR B0
  generalize crcF (xs.take (13 + dZ xs)) = cr at *
  generalize dZ xs = z at *
  have ez : IntKind.i64.wrap (z : Int) = z := IntWalk.i64_in _ (by omega)
  have ez2 : IntKind.i64.wrap (17 + (z : Int)) = 17 + z := IntWalk.i64_in _ (by omega)
  have ez3 : IntKind.i64.wrap (13 + (z : Int)) = 13 + z := IntWalk.i64_in _ (by omega)
  have d2 : decide ((xs.length : Int) < 17 + (z : Int)) = false := decide_eq_false (by omega)
  have g3 : 0 ≤ (13 : Int) + (z : Int) := by omega
  have g2 : (13 : Int) + (z : Int) ≤ (c : Int) := by omega
  have g5 : ((13 : Int) + (z : Int)).toNat = 13 + z := by omega
  go_enter Try.func15, Try.ntmps15
  go_wp2_with (first
    | (go_at_call 34; refine (G13.out _ HR0.out).mono ?_; rintro e w4 ⟨rfl, rfl⟩)
    | (go_at_call 31; refine (HSum.out _ HX0.out).mono ?_; rintro e w4 ⟨rfl, rfl⟩))
  refine bodyPost_ret (results_rec3 rfl rfl (L := [.int .i64 0, .int .i64 0, .bool false, .int .i64 0, .string ⟨#[]⟩]) (heap_alloc_new w _) rfl) rfl ⟨rfl, (Below.refl _ w).alloc (Nat.le_refl _) _⟩

end Go.Proofs.Ytngfpndikjbioaa
