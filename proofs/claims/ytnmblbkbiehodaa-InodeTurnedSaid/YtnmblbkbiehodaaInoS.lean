import Derived.Test.YtnmblbkbiehodaaInoR
namespace Go.Proofs.Ytnmblbkbiehodaa
open Go.RowKit Go.WideShapes
set_option linter.unusedSimpArgs false
set_option linter.unusedVariables false

theorem wpl_loadI {w : World} {ops : Array Oper} {rest : List Oper} {o : Oper} {act : Act} {Q : Exit → Act → World → Prop} (hgd : o.guard = none) (x : Operand)
    (ho : o.op = .load 25 x) (g : Nat) (hx : act.eval x = .pointer (some ⟨g, 0, none⟩)) {e : TypeId} (i : InoT) (hb : Blk w g e (inoC i))
    (h : wpList Try.prog ops Q rest (act.put o.dst (.agg (inoC i).toArray)) w) : wpList Try.prog ops Q (o :: rest) act w :=
  wpList_load_mid hgd 25 x ho g 0 hx (inoC i) _ hb.range Try.underlying25 rfl (by rw [infoIno]; rfl) h
theorem wpl_storeI {w : World} {ops : Array Oper} {rest : List Oper} {o : Oper} {act : Act} {Q : Exit → Act → World → Prop} (hgd : o.guard = none) (x y : Operand)
    (ho : o.op = .store 25 x y) (g : Nat) (hx : act.eval x = .pointer (some ⟨g, 0, none⟩)) {e : TypeId} (i : InoT) {C : Array Value} (hy : act.eval y = .agg C) (hC : C = (inoC i).toArray) {j : InoT} (hb : Blk w g e (inoC j))
    (h : ∀ w', Blk w' g e (inoC i) → w.grownBy w' (some g) → wpList Try.prog ops Q rest (act.put o.dst undef) w') : wpList Try.prog ops Q (o :: rest) act w := by
  subst hC
  exact wpl_storeS hgd 25 x y ho g hx (inoC i) hy (by rw [infoIno]; rfl) (inoC_one _) hb rfl h

set_option maxHeartbeats 4000000 in
set_option maxRecDepth 100000 in
theorem fieldsIno_any (a : Option Addr) (c : Nat) (xs : List UInt8) (w : World) (ha : RowB w a c xs) (h16 : 16 ≤ xs.length) :
    Calls Try.prog 30 #[.slice a xs.length c] w fun e w' => e = .returned (inoV (fieldsI xs)) ∧ Below w.heap.size w w' := by
  have hl := rowB_len ha
  have G0 := fun (w1 : World) (r1 : RowB w1 a c xs) => get_any a c xs 0 1 w1 r1 hl
  have G1 := fun (w1 : World) (r1 : RowB w1 a c xs) => get_any a c xs 1 1 w1 r1 hl
  have G2 := fun (w1 : World) (r1 : RowB w1 a c xs) => get_any a c xs 2 2 w1 r1 hl
  have g0 := getF_1 (xs := xs) (a := 0) (by omega)
  have g1 := getF_1 (xs := xs) (a := 1) (by omega)
  have g2 := getF_2 (xs := xs) (a := 2) (by omega)
  rw [show ((0 : Nat) : Int) = 0 from rfl] at g0
  rw [show ((1 : Nat) : Int) = 1 from rfl] at g1
  rw [show ((2 : Nat) : Int) = 2 from rfl] at g2
  rw [g0] at G0; rw [g1] at G1; rw [g2] at G2
  have e256 : ((bAt xs 2 + 256 * bAt xs (2 + 1) : Nat) : Int) = (bAt xs 2 : Int) + 256 * (bAt xs 3 : Int) := by show _ = (bAt xs 2 : Int) + 256 * (bAt xs (2 + 1) : Int); omega
  have GB : ∀ (m j : Nat) (w1 : World), RowB w1 a c xs → m + j < 16 → Calls Try.prog 29 #[.slice a xs.length c, .int .i64 ((m : Int) + (j : Int)), .int .i64 1] w1 fun e w' => e = .returned (.tuple #[.int .i64 (bAt xs (m + j) : Nat), .bool true]) ∧ w1 = w' := by
    intro m j w1 r1 h
    have q := get_any a c xs ((m + j : Nat) : Int) 1 w1 r1 hl
    have g := getF_1 (xs := xs) (a := m + j) (by omega)
    rw [g, show ((m + j : Nat) : Int) = (m : Int) + (j : Int) by omega] at q
    exact q
  simp only [getV, Option.getD_some, Option.isSome_some, e256] at G0 G1 G2
  have G0 := hid G0; have G1 := hid G1; have G2 := hid G2; have GB := hid GB
  clear g0 g1 g2 e256
  have HR := hid (fun w1 (hb : Below w.heap.size w w1) => Row.mono ha hb)
  clear ha
  have HZ : Hid (Blk ((w.alloc (.cells #[.int .i64 0, .int .i64 0, .int .i64 0, .int .i64 0, .int .i64 0, .int .i64 0, .int .i64 0, .int .i64 0, .int .i64 0, .int .i64 0, .int .i64 0, .int .i64 0, .int .i64 0, .int .i64 0, .int .i64 0] 25)).alloc (.cells #[.int .i64 0, .int .i64 0, .int .i64 0, .int .i64 0, .int .i64 0, .int .i64 0, .int .i64 0, .int .i64 0, .int .i64 0, .int .i64 0, .int .i64 0, .int .i64 0, .int .i64 0, .int .i64 0, .int .i64 0] 25)) w.heap.size 25 (inoC ino0)) := by
    have q : Blk (w.alloc (.cells #[.int .i64 0, .int .i64 0, .int .i64 0, .int .i64 0, .int .i64 0, .int .i64 0, .int .i64 0, .int .i64 0, .int .i64 0, .int .i64 0, .int .i64 0, .int .i64 0, .int .i64 0, .int .i64 0, .int .i64 0] 25)) w.heap.size 25 (inoC ino0) := heap_alloc_new w _
    exact q.mono ((Below.refl _ _).alloc (Nat.le_refl _) _)
  have HK : Hid (Blk ((w.alloc (.cells #[.int .i64 0, .int .i64 0, .int .i64 0, .int .i64 0, .int .i64 0, .int .i64 0, .int .i64 0, .int .i64 0, .int .i64 0, .int .i64 0, .int .i64 0, .int .i64 0, .int .i64 0, .int .i64 0, .int .i64 0] 25)).alloc (.cells #[.int .i64 0, .int .i64 0, .int .i64 0, .int .i64 0, .int .i64 0, .int .i64 0, .int .i64 0, .int .i64 0, .int .i64 0, .int .i64 0, .int .i64 0, .int .i64 0, .int .i64 0, .int .i64 0, .int .i64 0] 25)) (w.heap.size + 1) 25 (pfill (inoC (fieldsI xs)) (.int .i64 0) 0)) := by
    have q := heap_alloc_new (w.alloc (.cells #[.int .i64 0, .int .i64 0, .int .i64 0, .int .i64 0, .int .i64 0, .int .i64 0, .int .i64 0, .int .i64 0, .int .i64 0, .int .i64 0, .int .i64 0, .int .i64 0, .int .i64 0, .int .i64 0, .int .i64 0] 25)) (.cells #[.int .i64 0, .int .i64 0, .int .i64 0, .int .i64 0, .int .i64 0, .int .i64 0, .int .i64 0, .int .i64 0, .int .i64 0, .int .i64 0, .int .i64 0, .int .i64 0, .int .i64 0, .int .i64 0, .int .i64 0] 25)
    rw [show (w.alloc (.cells #[.int .i64 0, .int .i64 0, .int .i64 0, .int .i64 0, .int .i64 0, .int .i64 0, .int .i64 0, .int .i64 0, .int .i64 0, .int .i64 0, .int .i64 0, .int .i64 0, .int .i64 0, .int .i64 0, .int .i64 0] 25)).heap.size = w.heap.size + 1 from by simp] at q
    exact q
  have HBl : Hid (Below w.heap.size w ((w.alloc (.cells #[.int .i64 0, .int .i64 0, .int .i64 0, .int .i64 0, .int .i64 0, .int .i64 0, .int .i64 0, .int .i64 0, .int .i64 0, .int .i64 0, .int .i64 0, .int .i64 0, .int .i64 0, .int .i64 0, .int .i64 0] 25)).alloc (.cells #[.int .i64 0, .int .i64 0, .int .i64 0, .int .i64 0, .int .i64 0, .int .i64 0, .int .i64 0, .int .i64 0, .int .i64 0, .int .i64 0, .int .i64 0, .int .i64 0, .int .i64 0, .int .i64 0, .int .i64 0] 25))) := ((Below.refl _ w).alloc (Nat.le_refl _) _).alloc (by simp) _
  have hSw : w.heap.size ≤ w.heap.size + 1 := by omega
  go_enter Try.func30, Try.ntmps30
  go_wp2_with fail
  generalize hS : w.heap.size + 1 = S at *
  have hS' : w.heap.size < S := by omega
  have HS := hid hS
  clear hS
  refine (G0.out _ (HR.out _ HBl.out)).mono ?_
  rintro e wx ⟨rfl, rfl⟩
  have k0 := HK.out.atFill (show 0 < 15 by omega)
  have fz0 := HK.out.frozen 0
  have HK2 := hid (HK.out.fill (show 0 < 15 by omega) (show (inoC (fieldsI xs))[0]? = some (.int .i64 (bAt xs 0 : Nat)) from rfl))
  have HZ2 := hid (HZ.out.setOtherS (show w.heap.size ≠ S by omega) 0 (.int .i64 (bAt xs 0 : Nat)))
  have HB2 := hid (HBl.out.setCell (p := ⟨S, 0, none⟩) hSw (.int .i64 (bAt xs 0 : Nat)))
  clear HK HZ HBl
  go_wp2_with fail
  have HK := hid HK2.out; have HZ := hid HZ2.out; have HBl := hid HB2.out
  clear HK2 HZ2 HB2 k0 fz0
  generalize World.setCell _ _ _ = w3 at *
  refine (G1.out _ (HR.out _ HBl.out)).mono ?_
  rintro e wx ⟨rfl, rfl⟩
  have k1 := HK.out.atFill (show 1 < 15 by omega)
  have fz1 := HK.out.frozen 1
  have HK2 := hid (HK.out.fill (show 1 < 15 by omega) (show (inoC (fieldsI xs))[1]? = some (.int .i64 (bAt xs 1 : Nat)) from rfl))
  have HZ2 := hid (HZ.out.setOtherS (show w.heap.size ≠ S by omega) 1 (.int .i64 (bAt xs 1 : Nat)))
  have HB2 := hid (HBl.out.setCell (p := ⟨S, 1, none⟩) hSw (.int .i64 (bAt xs 1 : Nat)))
  clear HK HZ HBl
  go_wp2_with fail
  have HK := hid HK2.out; have HZ := hid HZ2.out; have HBl := hid HB2.out
  clear HK2 HZ2 HB2 k1 fz1
  generalize World.setCell _ _ _ = w4 at *
  refine (G2.out _ (HR.out _ HBl.out)).mono ?_
  rintro e wx ⟨rfl, rfl⟩
  have k2 := HK.out.atFill (show 2 < 15 by omega)
  have fz2 := HK.out.frozen 2
  have HK2 := hid (HK.out.fill (show 2 < 15 by omega) (show (inoC (fieldsI xs))[2]? = some (.int .i64 ((bAt xs 2 : Int) + 256 * (bAt xs 3 : Int))) from rfl))
  have HZ2 := hid (HZ.out.setOtherS (show w.heap.size ≠ S by omega) 2 (.int .i64 ((bAt xs 2 : Int) + 256 * (bAt xs 3 : Int))))
  have HB2 := hid (HBl.out.setCell (p := ⟨S, 2, none⟩) hSw (.int .i64 ((bAt xs 2 : Int) + 256 * (bAt xs 3 : Int))))
  clear HK HZ HBl
  go_wp2_with fail
  have HK := hid HK2.out; have HZ := hid HZ2.out; have HBl := hid HB2.out
  clear HK2 HZ2 HB2 k2 fz2
  generalize World.setCell _ _ _ = w5 at *
  go_loopw [4, 24] (fun _ i wr => ∃ j : Nat, j ≤ 4 ∧ i = .int .i64 j ∧ Blk wr S 25 (pfill (inoC (fieldsI xs)) (.int .i64 0) (3 + j)) ∧ Blk wr w.heap.size 25 (inoC ino0) ∧ Below w.heap.size w wr) (fun _ i _ => 4 - (intOf i).toNat)
  case atStart => exact ⟨0, by omega, rfl, HK.out, HZ.out, HBl.out⟩
  case round =>
  clear HK HZ HBl
  obtain ⟨j, hj, rfl, hk, hz, hb⟩ := hrel
  by_cases hj4 : j < 4
  · have kj := hk.atFill (show 3 + j < 15 by omega)
    have fzj := hk.frozen (3 + j)
    have HK := hid (hk.fill (show 3 + j < 15 by omega) (fieldsC_B xs j hj4))
    have HZ := hid (hz.setOtherS (show w.heap.size ≠ S by omega) (3 + j) (.int .i64 (bAt xs (4 + j) : Nat)))
    have HBl := hid (hb.setCell (p := ⟨S, 3 + j, none⟩) hSw (.int .i64 (bAt xs (4 + j) : Nat)))
    have HG := hid (GB.out 4 j wr (HR.out _ hb) (by omega))
    have dj : decide ((j : Int) < 4) = true := decide_eq_true (by omega)
    have ij : (j : Int) < 4 := by omega
    clear hk hz hb
    go_wp2_with (go_at_call 29; refine (HG.out).mono ?_; rintro e wx ⟨rfl, rfl⟩)
    go_roundw
    case rel => exact ⟨j + 1, by omega, by go_num, HK.out, HZ.out, HBl.out⟩
    case measure => simp [intOf]; omega
  · obtain rfl : j = 4 := by omega
    rw [show ((4 : Nat) : Int) = 4 from rfl]
    have HK := hid hk; have HZ := hid hz; have HBl := hid hb
    clear hk hz hb
    obtain ⟨wo, hwo⟩ : ∃ x, x = wr := ⟨_, rfl⟩
    subst hwo
    go_wp2_with fail
    go_loopw [5, 38] (fun _ i wr => ∃ j : Nat, j ≤ 8 ∧ i = .int .i64 j ∧ Blk wr S 25 (pfill (inoC (fieldsI xs)) (.int .i64 0) (7 + j)) ∧ Blk wr w.heap.size 25 (inoC ino0) ∧ Below w.heap.size w wr) (fun _ i _ => 8 - (intOf i).toNat)
    case atStart => exact ⟨0, by omega, rfl, HK.out, HZ.out, HBl.out⟩
    case round =>
    clear HK HZ HBl
    obtain ⟨j, hj, rfl, hk, hz, hb⟩ := hrel
    by_cases hj4 : j < 8
    · have kj := hk.atFill (show 7 + j < 15 by omega)
      have fzj := hk.frozen (7 + j)
      have HK := hid (hk.fill (show 7 + j < 15 by omega) (fieldsC_O xs j hj4))
      have HZ := hid (hz.setOtherS (show w.heap.size ≠ S by omega) (7 + j) (.int .i64 (bAt xs (8 + j) : Nat)))
      have HBl := hid (hb.setCell (p := ⟨S, 7 + j, none⟩) hSw (.int .i64 (bAt xs (8 + j) : Nat)))
      have HG := hid (GB.out 8 j wr (HR.out _ hb) (by omega))
      have dj : decide ((j : Int) < 8) = true := decide_eq_true (by omega)
      have ij : (j : Int) < 8 := by omega
      clear hk hz hb
      go_wp2_with (go_at_call 29; refine (HG.out).mono ?_; rintro e wx ⟨rfl, rfl⟩)
      go_roundw
      case rel => exact ⟨j + 1, by omega, by go_num, HK.out, HZ.out, HBl.out⟩
      case measure => simp [intOf]; omega
    · obtain rfl : j = 8 := by omega
      rw [show ((8 : Nat) : Int) = 8 from rfl]
      have HK : Hid (Blk wr S 25 (inoC (fieldsI xs))) := hk
      have HZ := hid hz; have HBl := hid hb
      clear hk hz hb
      go_wp2_with (first
        | (with_reducible refine wpl_loadI rfl _ rfl S rfl (fieldsI xs) HK.out ?_)
        | ((with_reducible refine wpl_storeI rfl _ _ rfl w.heap.size rfl (fieldsI xs) rfl rfl HZ.out ?_); intro w9 k9 g9; have K9 := hid k9; have G9 := hid g9; clear k9 g9))
      have hsz := HBl.out.size
      refine bodyPost_ret (results_cell1 rfl rfl K9.out Try.underlying25 rfl (by rw [infoIno]; rfl)) rfl ?_
      exact ⟨rfl, below_grownS HBl.out G9.out (Nat.le_refl _) hsz⟩

end Go.Proofs.Ytnmblbkbiehodaa
