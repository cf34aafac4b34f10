import Derived.Test.YtnmblbkbiehodaaInoQ
import Derived.Test.YtnmblbkbiehodaaLibS
namespace Go.Proofs.Ytnmblbkbiehodaa
open Go.RowKit Go.WideShapes
set_option linter.unusedSimpArgs false
set_option linter.unusedVariables false

/-! what stands at a place of bytes -/
def slI (xs : List UInt8) (a k : Nat) : List UInt8 := (xs.drop a).take k
theorem slI_len {xs : List UInt8} {a k : Nat} (h : a + k ≤ xs.length) : (slI xs a k).length = k := by simp [slI]; omega
theorem take_slI (xs : List UInt8) (a k : Nat) : xs.take (a + k) = xs.take a ++ slI xs a k := by unfold slI; exact List.take_add
theorem le_ofLEI (ys : List UInt8) : le ys.length (ofLE ys) = ys := by
  induction ys with
  | nil => rfl
  | cons y ys ih =>
    have hy := y.toNat_lt
    simp only [List.length_cons, le, ofLE]
    have e1 : (y.toNat + 256 * ofLE ys) / 256 = ofLE ys := by omega
    have e2 : UInt8.ofNat (y.toNat + 256 * ofLE ys) = y := by
      apply UInt8.toNat_inj.1; simp
    rw [e1, ih, e2]
theorem getF_slI {xs : List UInt8} {a k v : Nat} (h : getF xs a k = some v) : a + k ≤ xs.length ∧ v = ofLE (slI xs a k) := by
  unfold getF at h
  split at h
  · next hc =>
    split at h
    · next h2 =>
      simp only [Option.some.injEq] at h
      simp only [Int.toNat_natCast] at h h2
      exact ⟨by omega, by rw [← h]; rfl⟩
    · simp at h
  · simp at h
theorem le_getFI {xs : List UInt8} {a k v : Nat} (h : getF xs a k = some v) : le k v = slI xs a k := by
  obtain ⟨h1, rfl⟩ := getF_slI h
  have := le_ofLEI (slI xs a k)
  rwa [slI_len h1] at this
theorem getF_mkI {xs : List UInt8} {a k : Nat} (h : a + k ≤ xs.length) (hk : widthB k = true) (hv : ofLE (slI xs a k) ≤ 9223372036854775807) : getF xs a k = some (ofLE (slI xs a k)) := by
  unfold getF
  rw [if_pos ⟨hk, by omega, by omega⟩]
  simp only [Int.toNat_natCast]
  exact if_pos hv
theorem slI_1 {xs : List UInt8} {a : Nat} (h : a < xs.length) : slI xs a 1 = [xs[a]] := by
  unfold slI
  rw [List.drop_eq_getElem_cons h, List.take_succ_cons, List.take_zero]
theorem getF_1 {xs : List UInt8} {a : Nat} (h : a < xs.length) : getF xs a 1 = some (bAt xs a) := by
  have e : ofLE (slI xs a 1) = bAt xs a := by rw [slI_1 h, bAt_eq h]; show (xs[a]).toNat + 256 * 0 = _; omega
  have hb := bAt_lt xs a
  have := getF_mkI (xs := xs) (a := a) (k := 1) (by omega) rfl (by rw [e]; omega)
  rwa [e] at this
theorem getF_2 {xs : List UInt8} {a : Nat} (h : a + 1 < xs.length) : getF xs a 2 = some (bAt xs a + 256 * bAt xs (a + 1)) := by
  have e : ofLE (slI xs a 2) = bAt xs a + 256 * bAt xs (a + 1) := by
    rw [show (2 : Nat) = 1 + 1 from rfl]
    unfold slI
    rw [List.drop_eq_getElem_cons (by omega), List.take_succ_cons, List.drop_eq_getElem_cons h, List.take_succ_cons, List.take_zero, bAt_eq (by omega), bAt_eq h]
    show (xs[a]).toNat + 256 * ((xs[a + 1]).toNat + 256 * 0) = _
    omega
  have hb := bAt_lt xs a
  have hb2 := bAt_lt xs (a + 1)
  have := getF_mkI (xs := xs) (a := a) (k := 2) (by omega) rfl (by rw [e]; omega)
  rwa [e] at this
theorem getF_4 {xs : List UInt8} {a : Nat} (h : a + 4 ≤ xs.length) : getF xs a 4 = some (ofLE (slI xs a 4)) :=
  getF_mkI h rfl (ofLE_small (by rw [slI_len h]; omega))

/-- the inode that bytes bear -/
def fieldsI (xs : List UInt8) : InoT := ⟨bAt xs 0, bAt xs 1, (bAt xs 2 : Int) + 256 * (bAt xs 3 : Int), bAt xs 4, bAt xs 5, bAt xs 6, bAt xs 7, bAt xs 8, bAt xs 9, bAt xs 10, bAt xs 11, bAt xs 12, bAt xs 13, bAt xs 14, bAt xs 15⟩
theorem fieldsC_B (xs : List UInt8) (j : Nat) (h : j < 4) : (inoC (fieldsI xs))[3 + j]? = some (.int .i64 (bAt xs (4 + j) : Nat)) := by
  rcases (by omega : j = 0 ∨ j = 1 ∨ j = 2 ∨ j = 3) with rfl | rfl | rfl | rfl <;> rfl
theorem fieldsC_O (xs : List UInt8) (j : Nat) (h : j < 8) : (inoC (fieldsI xs))[7 + j]? = some (.int .i64 (bAt xs (8 + j) : Nat)) := by
  rcases (by omega : j = 0 ∨ j = 1 ∨ j = 2 ∨ j = 3 ∨ j = 4 ∨ j = 5 ∨ j = 6 ∨ j = 7) with rfl | rfl | rfl | rfl | rfl | rfl | rfl | rfl <;> rfl
theorem inoC_len (i : InoT) : (inoC i).length = 15 := rfl
theorem inoC_one (i : InoT) : ∀ v ∈ inoC i, v.oneCell' = true := by
  intro v hv
  unfold inoC at hv
  simp only [List.mem_cons, List.not_mem_nil, or_false] at hv
  rcases hv with e | e | e | e | e | e | e | e | e | e | e | e | e | e | e <;> rw [e] <;> rfl
def ino0 : InoT := ⟨0, 0, 0, 0, 0, 0, 0, 0, 0, 0, 0, 0, 0, 0, 0⟩
theorem ino0_fill (xs : List UInt8) : inoC ino0 = pfill (inoC (fieldsI xs)) (.int .i64 0) 0 := rfl

set_option maxHeartbeats 400000 in
theorem equalB_any (a b : Option Addr) (c d : Nat) (xs ys : List UInt8) (w : World) (ha : RowB w a c xs) (hb : RowB w b d ys) :
    Calls Try.prog 28 #[.slice a xs.length c, .slice b ys.length d] w fun e w' => e = .returned (.bool (decide (xs = ys))) ∧ Below w.heap.size w w' := by
  have hl := rowB_len ha
  have hm := rowB_len hb
  by_cases hne : xs.length = ys.length
  · rw [hne]
    have hne2 := hid hne
    go_enter Try.func28, Try.ntmps28
    clear hne
    go_wp2
    go_loopw [5, 13] (fun i13 i wr => ∃ j : Nat, j ≤ ys.length ∧ i = .int .i64 j ∧ (∀ i, i < j → bAt xs i = bAt ys i) ∧ Below w.heap.size w wr)
      (fun _ i _ => ys.length - (intOf i).toNat)
    case atStart => exact ⟨0, Nat.zero_le _, rfl, fun i h => absurd h (by omega), Below.refl _ _⟩
    case round =>
      obtain ⟨j, hj, rfl, hp, hbel⟩ := hrel
      have HP := hid hp; clear hp
      by_cases hlt : j < ys.length
      · obtain ⟨ba, oa, rfl, hba, hca⟩ := (ha.mono hbel).bytes (by have := hne2.out; omega)
        obtain ⟨bb, ob, rfl, hbb, hcb⟩ := (hb.mono hbel).bytes (by omega)
        have ca := hca j (by have := hne2.out; omega)
        have cb := hcb j hlt
        clear hca hcb ha hb
        have hlt' : (j : Int) < (ys.length : Int) := by omega
        by_cases hxy : bAt xs j = bAt ys j
        · have HX := hid hxy
          rw [hxy] at ca
          clear hxy
          go_wp2
          go_quiet (fail)
          go_wp2
          go_roundw
          case rel => exact ⟨j + 1, by omega, by go_num, fun i hi => (by rcases Nat.lt_succ_iff_lt_or_eq.1 hi with h | rfl; exact HP.out i h; exact HX.out), bel_drewN hbel _⟩
          case measure => simp [intOf]; omega
        · have hxy' : ((bAt xs j : Int) != (bAt ys j : Int)) = true := by simp; omega
          have HX := hid hxy
          clear hxy
          go_wp2
          go_quiet (fail)
          go_wp2
          go_ret
          exact ⟨ret_bool (decide_eq_false (by rintro rfl; exact HX.out rfl)).symm, bel_drewN hbel _⟩
      · obtain rfl : j = ys.length := by omega
        go_wp2
        go_ret
        exact ⟨ret_bool (decide_eq_true (bAt_ext hne2.out HP.out)).symm, hbel⟩
  · go_enter Try.func28, Try.ntmps28
    go_wp2
    go_ret
    exact ⟨ret_bool (by simp; intro h; exact hne (by rw [h])), Below.refl _ _⟩

end Go.Proofs.Ytnmblbkbiehodaa
