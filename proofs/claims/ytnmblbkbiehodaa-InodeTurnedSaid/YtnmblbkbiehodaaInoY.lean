import Derived.Test.YtnmblbkbiehodaaInoX
import Derived.BigRegion
namespace Go.Proofs.Ytnmblbkbiehodaa
open Go.RowKit Go.WideShapes
set_option linter.unusedSimpArgs false
set_option linter.unusedVariables false

theorem set_blkI {w : World} {g : Nat} {ys : List UInt8} {Z : List Value} (h : Blk w g 5 (ys.map byteV ++ Z)) {A : Nat} (hA : A < ys.length) (b : UInt8) :
    Blk (w.setCell ⟨g, A, none⟩ (byteV b)) g 5 ((ys.set A b).map byteV ++ Z) := by
  have := h.set A (byteV b)
  rwa [List.set_append_left _ _ (by simpa using hA), ← List.map_set] at this
theorem neg_tmod_ofI {n m d : Int} (h : n < 0) (hd : 0 < d) (hm : -(n + 1) % d = m) : (n + 1).tmod d = -m := by
  have h1 := Int.tmod_eq_emod_of_nonneg (a := -(n + 1)) (b := d) (by omega)
  rw [Int.neg_tmod] at h1
  omega
theorem xor_byteI (ys : List UInt8) (A : Nat) {x : Nat} (hx : x < 256) : byteV (ys.getD A 0 ^^^ UInt8.ofNat x) = .int .u8 (bits .xor .u8 (bAt ys A : Int) (x : Int)) := by
  rw [u8_xor_nat _ _ (bAt_lt ys _) hx]
  unfold byteV bAt
  rw [UInt8.toNat_xor, show (UInt8.ofNat x).toNat = x from by simp; omega]

set_option maxHeartbeats 8000000 in
set_option maxRecDepth 100000 in
theorem InodeTurned_walk (w : World) (i : InoT) (at_ : Int) (hat : (Lit.int .i64 at_).wf = true) (x : Int) (hx : (Lit.int .u8 x).wf = true) :
    Calls Try.prog 7 #[inoV i, .int .i64 at_, .int .u8 x] w fun e w' => e = .returned (.bool true) ∧ Below w.heap.size w w' := by
  have hab := i64_bd hat
  have hxb := u8_bd hx
  clear hat hx
  have HP := fun w1 => putIno_any i w1
  unfold PutA inoV at HP
  unfold inoV
  have hk0 : (inoC i)[0]? = some (.int .i64 i.k) := rfl
  have hpe : putE i = if mayI i then 0 else 1 := rfl
  have HB : Hid (Below w.heap.size w (w.alloc (.cells (inoC i).toArray 25))) := (Below.refl w.heap.size w).alloc (Nat.le_refl _) _
  have K0 : Hid (Blk (w.alloc (.cells (inoC i).toArray 25)) w.heap.size 25 (inoC i)) := heap_alloc_new w _
  by_cases hm : mayI i = true
  case neg =>
    have hm' : mayI i = false := by simpa using hm
    rw [hm'] at hpe
    rw [show putE i = 1 from hpe] at HP
    have HP := hid HP
    clear hpe hm hm'
    generalize putL i = P at *
    go_enter Try.func7, Try.ntmps7
    go_wp2_with (with_reducible refine wpl_loadI rfl _ rfl w.heap.size rfl i K0.out ?_)
    refine (HP.out _).mono ?_
    rintro e w1 ⟨a1, c1, rfl, o1, b1⟩
    have HB1 := hid (kept_trans HB.out b1)
    have K1 := hid (K0.out.mono b1)
    have z0 := K1.out.cellAt hk0
    have O1 := hid o1
    clear b1 o1
    go_wp2_with (go_at_call 13; refine (lives11_any _).mono ?_; rintro e w9' ⟨rfl, b9⟩; have HB9 := hid (kept_trans HB1.out b9); clear b9)
    go_ret
    exact ⟨rfl, HB9.out⟩
  case pos =>
  rw [hm] at hpe
  have hpl := putL_64 hm
  rw [show putE i = 0 from hpe, hpl] at HP
  have HP := hid HP
  have turned := fun (hk : i.k ≠ 0) (m : Nat) (X : UInt8) (h1 : m < 64) (h2 : X ≠ 0) => rdE_turnedI hm hk (m := m) (x := X) h1 h2
  have RD := fun (ys : List UInt8) a1 c1 w1 r1 => readIno_any a1 c1 ys w1 r1
  clear hpe hm
  generalize putL i = P at *
  obtain ⟨X, rfl⟩ := Int.eq_ofNat_of_zero_le hxb.1
  have hX : X < 256 := by omega
  by_cases hk : i.k = 0
  · clear turned RD
    rw [hk] at hk0
    clear hk hpl
    go_enter Try.func7, Try.ntmps7
    go_wp2_with (with_reducible refine wpl_loadI rfl _ rfl w.heap.size rfl i K0.out ?_)
    refine (HP.out _).mono ?_
    rintro e w1 ⟨a1, c1, rfl, o1, b1⟩
    have HB1 := hid (kept_trans HB.out b1)
    have K1 := hid (K0.out.mono b1)
    have z0 := K1.out.cellAt hk0
    have O1 := hid o1
    clear b1 o1
    go_wp2_with (go_at_call 13; refine (lives11_any _).mono ?_; rintro e w9' ⟨rfl, b9⟩; have HB9 := hid (kept_trans HB1.out b9); clear b9)
    go_ret
    exact ⟨rfl, HB9.out⟩
  have hkb : (i.k == 0) = false := by simpa using hk
  by_cases hx0 : X = 0
  · subst hx0
    clear turned RD hpl
    go_enter Try.func7, Try.ntmps7
    go_wp2_with (with_reducible refine wpl_loadI rfl _ rfl w.heap.size rfl i K0.out ?_)
    refine (HP.out _).mono ?_
    rintro e w1 ⟨a1, c1, rfl, o1, b1⟩
    have HB1 := hid (kept_trans HB.out b1)
    have K1 := hid (K0.out.mono b1)
    have z0 := K1.out.cellAt hk0
    have O1 := hid o1
    clear b1 o1
    go_wp2_with (go_at_call 13; refine (lives11_any _).mono ?_; rintro e w9' ⟨rfl, b9⟩; have HB9 := hid (kept_trans HB1.out b9); clear b9)
    go_ret
    exact ⟨rfl, HB9.out⟩
  have hx0' : ((X : Int) == 0) = false := by simpa using hx0
  have hx0i : ¬ ((X : Int) = 0) := by omega
  obtain ⟨A, hA, hAlt⟩ : ∃ A : Nat, (if at_ < 0 then -(at_ + 1) else at_) % 64 = (A : Int) ∧ A < 64 := by
    have h1 := Int.emod_nonneg (if at_ < 0 then -(at_ + 1) else at_) (by omega : (64 : Int) ≠ 0)
    have h2 := Int.emod_lt_of_pos (if at_ < 0 then -(at_ + 1) else at_) (by omega : (0 : Int) < 64)
    obtain ⟨A, e⟩ := Int.eq_ofNat_of_zero_le h1
    exact ⟨A, e, by omega⟩
  have TU := hid (turned hk A (UInt8.ofNat X) hAlt (by
    intro e
    have := congrArg UInt8.toNat e
    simp at this; omega))
  clear turned
  have hAi : (A : Int) < 64 := by omega
  have hA0 : (0 : Int) ≤ (A : Int) := by omega
  have HPL := hid hpl
  have hPlen : A < P.length := by omega
  clear hpl hx0
  generalize i.k = kk at *
  rcases (by omega : at_ < 0 ∨ 0 ≤ at_) with h0 | h0
  all_goals
    first
      | (rw [if_pos h0] at hA
         replace hA := neg_tmod_ofI h0 (by omega) hA)
      | rw [if_neg (by omega)] at hA
    go_enter Try.func7, Try.ntmps7
    go_wp2_with (with_reducible refine wpl_loadI rfl _ rfl w.heap.size rfl i K0.out ?_)
    refine (HP.out _).mono ?_
    rintro e w1 ⟨a1, c1, rfl, o1, b1⟩
    have HB1 := hid (kept_trans HB.out b1)
    have K1 := hid (K0.out.mono b1)
    have z0 := K1.out.cellAt hk0
    have O1 := hid o1
    clear b1 o1
    obtain ⟨g, rfl⟩ := own_addr O1.out (by omega)
    obtain ⟨Z, hblk, hBg, hZ, hZc⟩ := own_bytes O1.out
    have hc0 : w1.cell? ⟨g, A, none⟩ = some (.int .u8 (bAt P A : Int)) := by
      refine hblk.cellAt (n := A) ?_
      rw [List.getElem?_append_left (by simpa using hPlen), List.getElem?_map, List.getElem?_eq_getElem hPlen]
      show some (byteV P[A]) = _
      unfold byteV; rw [bAt_eq hPlen]
    have hf0 := hblk.frozen A
    have hxb0 := bAt_lt P A
    have hBg' : w.heap.size ≤ g := Nat.le_trans HB.out.size hBg
    have HBLK := hid hblk; clear hblk
    go_wp2_with fail
    have hb2 := set_blkI HBLK.out (A := A) hPlen (P.getD A 0 ^^^ UInt8.ofNat X)
    rw [xor_byteI P A hX] at hb2
    have HB2 : Hid (Below w.heap.size w (w1.setCell ⟨g, A, none⟩ (.int .u8 (bits BinOp.xor IntKind.u8 (bAt P A : Int) (X : Int))))) := HB1.out.setCell hBg' (.int .u8 (bits BinOp.xor IntKind.u8 (bAt P A : Int) (X : Int)))
    clear hc0 hf0 HBLK z0 K1
    generalize World.setCell _ _ _ = w2 at *
    have ls : (P.set A (P.getD A 0 ^^^ UInt8.ofNat X)).length = 64 := by rw [List.length_set]; exact HPL.out
    have rd := RD (P.set A (P.getD A 0 ^^^ UInt8.ofNat X)) (some ⟨g, 0, none⟩) c1 w2 (blk_row hb2 (by rw [List.length_set]; exact hZc) (by have := HPL.out; omega))
    rw [TU.out, ls] at rd
    unfold inoV at rd
    refine rd.mono ?_
    rintro e w3 ⟨rfl, d3⟩
    have HB3 := hid (kept_trans HB2.out d3)
    clear rd hb2 d3 ls
    generalize rdI _ = j at *
    go_wp2_with (first
      | ((with_reducible refine wpl_storeI rfl _ _ rfl w3.heap.size rfl j rfl rfl (allocI w3) ?_); intro v3 k3 g3; have HB4 := hid (below_grownS (HB3.out.alloc HB3.out.size (.cells #[.int .i64 0, .int .i64 0, .int .i64 0, .int .i64 0, .int .i64 0, .int .i64 0, .int .i64 0, .int .i64 0, .int .i64 0, .int .i64 0, .int .i64 0, .int .i64 0, .int .i64 0, .int .i64 0, .int .i64 0] 25)) g3 HB3.out.size (Nat.le_trans HB3.out.size (belowA w3 (.cells #[.int .i64 0, .int .i64 0, .int .i64 0, .int .i64 0, .int .i64 0, .int .i64 0, .int .i64 0, .int .i64 0, .int .i64 0, .int .i64 0, .int .i64 0, .int .i64 0, .int .i64 0, .int .i64 0, .int .i64 0] 25)).size)); clear k3 g3)
      | (go_at_call 13; refine (lives11_any _).mono ?_; rintro e w9' ⟨rfl, b9⟩; have HB9 := hid (kept_trans HB4.out b9); clear b9))
    go_ret
    exact ⟨rfl, HB9.out⟩

end Go.Proofs.Ytnmblbkbiehodaa
