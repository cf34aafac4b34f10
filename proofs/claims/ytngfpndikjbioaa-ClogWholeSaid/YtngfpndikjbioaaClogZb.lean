import Derived.Test.YtngfpndikjbioaaClogZa
namespace Go.Proofs.Ytngfpndikjbioaa
open Go.RowKit Go.WideShapes
set_option linter.unusedSimpArgs false
set_option linter.unusedVariables false

set_option maxHeartbeats 2000000 in
set_option maxRecDepth 100000 in
theorem dec_short (a : Option Addr) (c : Nat) (xs : List UInt8) (z v : Nat) (ok1 ok2 : Bool) (w : World) (ha : RowB w a c xs) (hz : z ≤ 255) (f1 : getV (getF xs 12 1) = .tuple #[.int .i64 (z : Nat), .bool ok1]) (f2 : getV (getF xs ((13 + z : Nat) : Int) 4) = .tuple #[.int .i64 (v : Nat), .bool ok2]) (hno : ok1 = false ∨ (ok1 = true ∧ ok2 = false)) :
    Calls Try.prog 14 #[.slice a xs.length c] w fun e w' => e = .returned (.tuple #[recV 0 0 false 0 ⟨#[]⟩, .int .i64 0, .int .i64 3]) ∧ Below w.heap.size w w' := by
  have hl := rowB_len ha
  have G12 := fun (w1 : World) (r1 : RowB w1 a c xs) => get_any a c xs 12 1 w1 r1 hl
  have G13 := fun (w1 : World) (r1 : RowB w1 a c xs) => get_any a c xs ((13 + z : Nat) : Int) 4 w1 r1 hl
  rw [f1] at G12; rw [f2, show ((13 + z : Nat) : Int) = 13 + (z : Int) by omega] at G13
  have G12 := hid G12; have G13 := hid G13
  have K1 : Blk (w.alloc (.cells #[.int .i64 0, .int .i64 0, .bool false, .int .i64 0, .string ⟨#[]⟩] 23)) w.heap.size 23 [.int .i64 0, .int .i64 0, .bool false, .int .i64 0, .string ⟨#[]⟩] := heap_alloc_new w _
  have B0 : Below w.heap.size w (w.alloc (.cells #[.int .i64 0, .int .i64 0, .bool false, .int .i64 0, .string ⟨#[]⟩] 23)) := (Below.refl _ w).alloc (Nat.le_refl _) _
  have HR := hid (Row.mono ha (((Below.refl w.heap.size w).alloc (Nat.le_refl _) (.cells #[.int .i64 0, .int .i64 0, .bool false, .int .i64 0, .string ⟨#[]⟩] 23))))
  have ew1 : IntKind.i64.wrap (13 + (z : Int)) = 13 + (z : Int) := IntWalk.i64_in _ (by omega)
  have z0 : (w.alloc (.cells #[.int .i64 0, .int .i64 0, .bool false, .int .i64 0, .string ⟨#[]⟩] 23)).cell? ⟨w.heap.size, 0, none⟩ = some (.int .i64 0) := Blk.cell K1 (i := 0) (by simp)
  have zf0 : (w.alloc (.cells #[.int .i64 0, .int .i64 0, .bool false, .int .i64 0, .string ⟨#[]⟩] 23)).frozen? ⟨w.heap.size, 0, none⟩ = false := Blk.frozen K1 0
  have z1 : (w.alloc (.cells #[.int .i64 0, .int .i64 0, .bool false, .int .i64 0, .string ⟨#[]⟩] 23)).cell? ⟨w.heap.size, 1, none⟩ = some (.int .i64 0) := Blk.cell K1 (i := 1) (by simp)
  have zf1 : (w.alloc (.cells #[.int .i64 0, .int .i64 0, .bool false, .int .i64 0, .string ⟨#[]⟩] 23)).frozen? ⟨w.heap.size, 1, none⟩ = false := Blk.frozen K1 1
  have z2 : (w.alloc (.cells #[.int .i64 0, .int .i64 0, .bool false, .int .i64 0, .string ⟨#[]⟩] 23)).cell? ⟨w.heap.size, 2, none⟩ = some (.bool false) := Blk.cell K1 (i := 2) (by simp)
  have zf2 : (w.alloc (.cells #[.int .i64 0, .int .i64 0, .bool false, .int .i64 0, .string ⟨#[]⟩] 23)).frozen? ⟨w.heap.size, 2, none⟩ = false := Blk.frozen K1 2
  have z3 : (w.alloc (.cells #[.int .i64 0, .int .i64 0, .bool false, .int .i64 0, .string ⟨#[]⟩] 23)).cell? ⟨w.heap.size, 3, none⟩ = some (.int .i64 0) := Blk.cell K1 (i := 3) (by simp)
  have zf3 : (w.alloc (.cells #[.int .i64 0, .int .i64 0, .bool false, .int .i64 0, .string ⟨#[]⟩] 23)).frozen? ⟨w.heap.size, 3, none⟩ = false := Blk.frozen K1 3
  have z4 : (w.alloc (.cells #[.int .i64 0, .int .i64 0, .bool false, .int .i64 0, .string ⟨#[]⟩] 23)).cell? ⟨w.heap.size, 4, none⟩ = some (.string ⟨#[]⟩) := Blk.cell K1 (i := 4) (by simp)
  have zf4 : (w.alloc (.cells #[.int .i64 0, .int .i64 0, .bool false, .int .i64 0, .string ⟨#[]⟩] 23)).frozen? ⟨w.heap.size, 4, none⟩ = false := Blk.frozen K1 4
  unfold recV
  clear K1 B0 f1 f2 ha
  rcases hno with rfl | ⟨rfl, rfl⟩
  all_goals
    go_enter Try.func14, Try.ntmps14
    go_wp2_with (first
      | (go_at_call_of 32 (Value.int IntKind.i64 12); refine (G12.out _ HR.out).mono ?_; rintro e w4 ⟨rfl, rfl⟩)
      | (go_at_call_of 32 (Value.int IntKind.i64 4); refine (G13.out _ HR.out).mono ?_; rintro e w4 ⟨rfl, rfl⟩))
    refine bodyPost_ret (results_rec3 rfl rfl (L := [.int .i64 0, .int .i64 0, .bool false, .int .i64 0, .string ⟨#[]⟩]) (heap_alloc_new w _) rfl) rfl ⟨rfl, (Below.refl _ w).alloc (Nat.le_refl _) _⟩

set_option maxHeartbeats 2000000 in
set_option maxRecDepth 100000 in
theorem dec_sum (a : Option Addr) (c : Nat) (xs : List UInt8) (z v : Nat) (w : World) (ha : RowB w a c xs) (hz : z ≤ 255) (f1 : getF xs 12 1 = some z) (f2 : getF xs ((13 + z : Nat) : Int) 4 = some v) (f8 : 17 + z ≤ xs.length) (hv : v < 4294967296) (hno : v ≠ crcF (xs.take (13 + z))) :
    Calls Try.prog 14 #[.slice a xs.length c] w fun e w' => e = .returned (.tuple #[recV 0 0 false 0 ⟨#[]⟩, .int .i64 0, .int .i64 4]) ∧ Below w.heap.size w w' := by
  have hl := rowB_len ha
  have hcap : xs.length ≤ c := ha.2.1
  have G12 := fun (w1 : World) (r1 : RowB w1 a c xs) => get_any a c xs 12 1 w1 r1 hl
  have G13 := fun (w1 : World) (r1 : RowB w1 a c xs) => get_any a c xs ((13 + z : Nat) : Int) 4 w1 r1 hl
  rw [f1] at G12; rw [f2, show ((13 + z : Nat) : Int) = 13 + (z : Int) by omega] at G13
  simp only [getV, Option.getD_some, Option.isSome_some] at G12 G13
  have hXl : (xs.take (13 + z)).length = 13 + z := by simp; omega
  have HSum := fun (w1 : World) (r1 : RowB w1 a c (xs.take (13 + z))) => sum_any a c (xs.take (13 + z)) w1 r1
  rw [hXl] at HSum
  have hcl := crcF_lt (xs.take (13 + z))
  obtain ⟨b, off, rfl, hb, _⟩ := ha.bytes (by omega)
  have hneq : ((v : Int) != ((crcF (xs.take (13 + z)) : Nat) : Int)) = true := by simp; omega
  have G12 := hid G12; have G13 := hid G13; have HSum := hid HSum
  have K0 : Blk (w.alloc (.cells #[.int .i64 0, .int .i64 0, .bool false, .int .i64 0, .string ⟨#[]⟩] 23)) w.heap.size 23 [.int .i64 0, .int .i64 0, .bool false, .int .i64 0, .string ⟨#[]⟩] := heap_alloc_new w _
  have B0 : Below w.heap.size w (w.alloc (.cells #[.int .i64 0, .int .i64 0, .bool false, .int .i64 0, .string ⟨#[]⟩] 23)) := (Below.refl _ w).alloc (Nat.le_refl _) _
  have HR := hid (Row.mono ha B0)
  have HX := hid (Row.mono (rowB_take ha (13 + z)) B0)
  have ew1 : IntKind.i64.wrap (13 + (z : Int)) = 13 + (z : Int) := IntWalk.i64_in _ (by omega)
  generalize crcF (xs.take (13 + z)) = cr at *
  have ecr : IntKind.i64.wrap (cr : Int) = cr := IntWalk.i64_in _ (by omega)
  have g3 : 0 ≤ (13 : Int) + (z : Int) := by omega
  have g2 : (13 : Int) + (z : Int) ≤ (c : Int) := by omega
  have g5 : ((13 : Int) + (z : Int)).toNat = 13 + z := by omega
  have HK0 := hid K0; have HB0 := hid B0
  unfold recV
  clear K0 B0 f1 f2 ha hno hXl
  go_enter Try.func14, Try.ntmps14
  go_wp2_with (first
    | (go_at_call_of 32 (Value.int IntKind.i64 12); refine (G12.out _ HR.out).mono ?_; rintro e w4 ⟨rfl, rfl⟩)
    | (go_at_call_of 32 (Value.int IntKind.i64 4); refine (G13.out _ HR.out).mono ?_; rintro e w4 ⟨rfl, rfl⟩))
  refine (HSum.out _ HX.out).mono ?_
  rintro e w5 ⟨rfl, b5⟩
  have K1 := Blk.mono HK0.out b5
  have B1 := kept_trans HB0.out b5
  have z0 : w5.cell? ⟨w.heap.size, 0, none⟩ = some (.int .i64 0) := Blk.cell K1 (i := 0) (by simp)
  have zf0 : w5.frozen? ⟨w.heap.size, 0, none⟩ = false := Blk.frozen K1 0
  have z1 : w5.cell? ⟨w.heap.size, 1, none⟩ = some (.int .i64 0) := Blk.cell K1 (i := 1) (by simp)
  have zf1 : w5.frozen? ⟨w.heap.size, 1, none⟩ = false := Blk.frozen K1 1
  have z2 : w5.cell? ⟨w.heap.size, 2, none⟩ = some (.bool false) := Blk.cell K1 (i := 2) (by simp)
  have zf2 : w5.frozen? ⟨w.heap.size, 2, none⟩ = false := Blk.frozen K1 2
  have z3 : w5.cell? ⟨w.heap.size, 3, none⟩ = some (.int .i64 0) := Blk.cell K1 (i := 3) (by simp)
  have zf3 : w5.frozen? ⟨w.heap.size, 3, none⟩ = false := Blk.frozen K1 3
  have z4 : w5.cell? ⟨w.heap.size, 4, none⟩ = some (.string ⟨#[]⟩) := Blk.cell K1 (i := 4) (by simp)
  have zf4 : w5.frozen? ⟨w.heap.size, 4, none⟩ = false := Blk.frozen K1 4
  have HSet := hid (set5 K1 rfl (.int .i64 0) (.int .i64 0) (.bool false) (.int .i64 0) (.string ⟨#[]⟩))
  have HBel := hid (bel5 B1 (Nat.le_refl _) (.int .i64 0) (.int .i64 0) (.bool false) (.int .i64 0) (.string ⟨#[]⟩))
  clear K1 B1 b5 HK0 HB0
  go_wp2_with fail
  refine bodyPost_ret (results_rec3 rfl rfl HSet.out rfl) rfl ⟨rfl, HBel.out⟩

theorem recL_len_leZ {c i o : Int} {t : Bool} {s : ByteArray} (hm : recMay c i t o s = true) : (recL c i t o s).length ≤ 300 := by
  have hz := (recMay_iff hm).2.2.2.2.2.2.1
  have lX : (recX c i t o s).length ≤ 200 := by
    have h1 := foldF_length_le [] (recF c i t o s.size)
    have h2 : s.data.toList.length = s.size := by simp
    simp only [recX, List.length_append, h2]
    simp [recF] at h1 ⊢; omega
  have lY : (recY c i t o s).length ≤ 208 := by have := putF_length_le (recX c i t o s) (crcF (recX c i t o s) : Nat) 4; unfold recY; omega
  unfold recL; rw [if_pos hm]; unfold padTo8; simp; omega

/-- what Decode answers -/
def decE (xs : List UInt8) : Int := if 17 + dZ xs ≤ xs.length then (if getF xs ((13 + dZ xs : Nat) : Int) 4 = some (crcF (xs.take (13 + dZ xs))) then (if dGood xs then 0 else 2) else 4) else 3
def decV (xs : List UInt8) : Value := if decE xs = 0 then recV (dC xs) (dI xs) (dT xs) (dO xs) (dS xs) else recV 0 0 false 0 ⟨#[]⟩
def decN (xs : List UInt8) : Nat := if decE xs = 0 then dAll xs else 0

theorem dZ_le (xs : List UInt8) : dZ xs ≤ 255 := by have := bAt_lt xs 12; unfold dZ; omega

theorem dec_any (a : Option Addr) (c : Nat) (xs : List UInt8) (w : World) (ha : RowB w a c xs) :
    Calls Try.prog 14 #[.slice a xs.length c] w fun e w' => e = .returned (.tuple #[decV xs, .int .i64 (decN xs : Nat), .int .i64 (decE xs)]) ∧ Below w.heap.size w w' := by
  have hz := dZ_le xs
  by_cases h1 : 17 + dZ xs ≤ xs.length
  · have f1 : getF xs 12 1 = some (dZ xs) := getF_b1 (a := 12) (by omega)
    have hlt : ofLE (slx xs (13 + dZ xs) 4) < 4294967296 := by
      have := ofLE_lt (slx xs (13 + dZ xs) 4)
      rw [slx_len (by omega)] at this; exact this
    have f2 := getF_4 (xs := xs) (a := 13 + dZ xs) (by omega)
    by_cases h2 : getF xs ((13 + dZ xs : Nat) : Int) 4 = some (crcF (xs.take (13 + dZ xs)))
    · have hs := dS_size (xs := xs) (by omega)
      have hL : (dL xs).length ≤ 300 := by
        unfold dL
        by_cases hm : recMay (dC xs) (dI xs) (dT xs) (dO xs) (dS xs) = true
        · exact recL_len_leZ hm
        · unfold recL; rw [if_neg hm]; simp
      have f3 : getV (getF xs 0 8) = .tuple #[.int .i64 (dC xs : Nat), .bool (getF xs 0 8).isSome] := rfl
      have f4 : getF xs 8 1 = some (dI xs) := getF_b1 (a := 8) (by omega)
      have f5 : getF xs 10 2 = some (dO xs) := getF_b2 (a := 10) (by omega)
      have f7 : (xs.drop 13).take (dS xs).size = (dS xs).data.toList := by rw [hs, dS_list]; rfl
      cases hmay : dMay xs
      · have hE : decE xs = 2 := by unfold decE; rw [if_pos h1, if_pos h2, if_neg (by unfold dGood; rw [hmay]; simp)]
        have hV : decV xs = recV 0 0 false 0 ⟨#[]⟩ := by unfold decV; rw [if_neg (by rw [hE]; decide)]
        have hN : decN xs = 0 := by unfold decN; rw [if_neg (by rw [hE]; decide)]
        rw [hE, hV, hN]
        exact dec_may a c xs (dC xs) (dI xs) (dO xs) (dT xs) (dS xs) _ w ha (by rw [hs]; exact f1) (by rw [hs]; exact h2) f3 f4 f5 rfl f7 (by rw [hs]; exact h1) (by rw [hs]; exact hz) hmay trivial hL
      · cases hpre : dPre xs
        · have hE : decE xs = 2 := by unfold decE; rw [if_pos h1, if_pos h2, if_neg (by unfold dGood; rw [hmay, hpre]; simp)]
          have hV : decV xs = recV 0 0 false 0 ⟨#[]⟩ := by unfold decV; rw [if_neg (by rw [hE]; decide)]
          have hN : decN xs = 0 := by unfold decN; rw [if_neg (by rw [hE]; decide)]
          rw [hE, hV, hN]
          exact dec_bad a c xs (dC xs) (dI xs) (dO xs) (dT xs) (dS xs) _ w ha (by rw [hs]; exact f1) (by rw [hs]; exact h2) f3 f4 f5 rfl f7 (by rw [hs]; exact h1) (by rw [hs]; exact hz) hmay hpre hL
        · have hg : dGood xs = true := by unfold dGood; rw [hmay, hpre]; rfl
          have hE : decE xs = 0 := by unfold decE; rw [if_pos h1, if_pos h2, if_pos hg]
          have hV : decV xs = recV (dC xs) (dI xs) (dT xs) (dO xs) (dS xs) := by unfold decV; rw [if_pos hE]
          have hN : decN xs = (dL xs).length := by unfold decN; rw [if_pos hE, (of_dGood h1 hg).2.2.2.2.2]
          rw [hE, hV, hN]
          exact dec_good a c xs (dC xs) (dI xs) (dO xs) (dT xs) (dS xs) _ w ha (by rw [hs]; exact f1) (by rw [hs]; exact h2) f3 f4 f5 rfl f7 (by rw [hs]; exact h1) (by rw [hs]; exact hz) hmay hpre hL
    · have hE : decE xs = 4 := by unfold decE; rw [if_pos h1, if_neg h2]
      have hV : decV xs = recV 0 0 false 0 ⟨#[]⟩ := by unfold decV; rw [if_neg (by rw [hE]; decide)]
      have hN : decN xs = 0 := by unfold decN; rw [if_neg (by rw [hE]; decide)]
      rw [hE, hV, hN]
      exact dec_sum a c xs (dZ xs) _ w ha hz f1 f2 h1 hlt (fun h => h2 (by rw [f2, h]))
  · have hE : decE xs = 3 := by unfold decE; rw [if_neg h1]
    have hV : decV xs = recV 0 0 false 0 ⟨#[]⟩ := by unfold decV; rw [if_neg (by rw [hE]; decide)]
    have hN : decN xs = 0 := by unfold decN; rw [if_neg (by rw [hE]; decide)]
    rw [hE, hV, hN]
    have f2 : getF xs ((13 + dZ xs : Nat) : Int) 4 = none := getF_no (k := 4) (by omega)
    by_cases h13 : 13 ≤ xs.length
    · have f1 : getF xs 12 1 = some (dZ xs) := getF_b1 (a := 12) (by omega)
      exact dec_short a c xs (dZ xs) 0 true false w ha hz (by rw [f1]; rfl) (by rw [f2]; rfl) (.inr ⟨rfl, rfl⟩)
    · have f1 := getF_no (xs := xs) (a := 12) (k := 1) (by omega)
      have f2 : getF xs ((13 + 0 : Nat) : Int) 4 = none := getF_no (k := 4) (by omega)
      exact dec_short a c xs 0 0 false false w ha (by omega) (by rw [show getF xs 12 1 = none from f1]; rfl) (by rw [f2]; rfl) (.inl rfl)

end Go.Proofs.Ytngfpndikjbioaa
