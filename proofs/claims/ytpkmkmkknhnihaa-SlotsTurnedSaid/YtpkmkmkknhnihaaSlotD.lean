import Derived.Test.YtpkmkmkknhnihaaSlotC
namespace Go.Proofs.Ytpkmkmkknhnihaa
open Go.RowKit
set_option linter.unusedSimpArgs false
set_option linter.unusedVariables false

theorem headL_length {n : Int} (h : btw n 1152921504606846976 = true) : (headL n).length = 64 := by
  unfold headL; rw [if_pos h, sealF_length (by have := headBody_length h; omega)]

set_option maxHeartbeats 400000 in
/-- one reading of the closure: what stands at the place, and the place moves on -/
theorem next_any (a : Option Addr) (c : Nat) (xs : List UInt8) (P k Bb Ba : Nat) (w : World) (ha : RowB w a c xs) (hb : Blk w Bb 27 [.slice a xs.length c]) (hp : Blk w Ba 3 [.int .i64 (P : Nat)]) (hs : P ≤ 1000 ∧ k ≤ 1000) :
    Calls Try.prog 36 #[.int .i64 k, .pointer (some ⟨Bb, 0, none⟩), .pointer (some ⟨Ba, 0, none⟩)] w fun e w' => e = .returned (.int .i64 ((getF xs P k).getD 0 : Nat)) ∧ w' = w.setCell ⟨Ba, 0, none⟩ (.int .i64 ((P + k : Nat) : Int)) := by
  have hl := rowB_len ha
  have c0 := Blk.cell hb (i := 0) (by simp)
  have c1 := Blk.cell hp (i := 0) (by simp)
  have f1 := Blk.frozen hp 0
  simp only [List.getElem_cons_zero] at c0 c1
  have hg := get_any a c xs P k w ha hl
  simp only [getV] at hg
  have HG := hid hg; clear hg
  have hsum : ((P + k : Nat) : Int) = (P : Int) + (k : Int) := by omega
  rw [hsum]
  clear hb hp hsum
  go_enter Try.func36, Try.ntmps36
  go_wp2_with fail
  refine HG.out.mono ?_
  rintro e w1 ⟨rfl, rfl⟩
  generalize (getF xs P k).isSome = ok
  generalize hv : (getF xs P k).getD 0 = v at *
  have HV := hid hv; clear hv
  go_wp2_with fail
  go_ret
  exact ⟨ret_int (by rw [HV.out]), rfl⟩

set_option maxHeartbeats 400000 in
theorem reader_any (a : Option Addr) (c n : Nat) (P : Int) (w : World) :
    Calls Try.prog 26 #[.slice a n c, .int .i64 P] w fun e w' => e = .returned (.func (.func 36) #[] #[.pointer (some ⟨w.heap.size, 0, none⟩), .pointer (some ⟨w.heap.size + 1, 0, none⟩)]) ∧ w' = (w.alloc (.cells #[.slice a n c] 27)).alloc (.cells #[.int .i64 P] 3) := by
  have hmf : ∀ (fn : Fn) (first cap : Array Value) (w : World), (Instr.makeFunc fn first cap).run Try.prog w = .ok (.func fn first cap) w := fun _ _ _ _ => rfl
  go_enter Try.func26, Try.ntmps26
  go_wp2_with fail
  clear hmf
  go_ret
  exact ⟨by simp, rfl⟩

/-- the number that the head's bytes bear -/
def nH (xs : List UInt8) : Nat := (getF xs 8 8).getD 0
def rhGood (xs : List UInt8) : Bool := btw (nH xs) 1152921504606846976 && decide (xs.take 64 = headL (nH xs))
def rhN (xs : List UInt8) : Int := if chk xs = 0 then (if rhGood xs then (nH xs : Int) else 0) else 0
def rhE (xs : List UInt8) : Int := if chk xs = 0 then (if rhGood xs then 0 else 2) else chk xs
theorem chk_len {xs : List UInt8} (h : chk xs = 0) : 64 ≤ xs.length := by
  unfold chk at h; split at h
  · assumption
  · simp at h
theorem nH_le (xs : List UInt8) : nH xs ≤ 9223372036854775807 := by
  unfold nH getF; split
  · split
    · simpa
    · simp
  · simp

set_option maxHeartbeats 1000000 in
theorem readHead_any (a : Option Addr) (c : Nat) (xs : List UInt8) (w : World) (ha : RowB w a c xs) :
    Calls Try.prog 18 #[.slice a xs.length c] w fun e w' => e = .returned (.tuple #[.int .i64 (rhN xs), .int .i64 (rhE xs)]) ∧ Below w.heap.size w w' := by
  by_cases hc : chk xs = 0
  · have h64 := chk_len hc
    have hN := nH_le xs
    have hR : rhN xs = if rhGood xs then (nH xs : Int) else 0 := by unfold rhN; rw [if_pos hc]
    have hE : rhE xs = if rhGood xs then 0 else 2 := by unfold rhE; rw [if_pos hc]
    have hck := check_any a c xs w ha
    rw [hc] at hck
    have HC := hid hck
    have pre : ∀ (G : Bool), rhGood xs = G → Calls Try.prog 18 #[.slice a xs.length c] w fun e w' => e = .returned (.tuple #[.int .i64 (if G then (nH xs : Int) else 0), .int .i64 (if G then 0 else 2)]) ∧ Below w.heap.size w w' := by
      intro G hG
      have HG := hid hG
      clear hc hR hE hck hG
      have hg1 : ∀ w1, RowB w1 a c xs → Calls Try.prog 36 #[.int .i64 8, .pointer (some ⟨w1.heap.size, 0, none⟩), .pointer (some ⟨w1.heap.size + 1, 0, none⟩)] ((w1.alloc (.cells #[.slice a xs.length c] 27)).alloc (.cells #[.int .i64 8] 3)) fun e w' => e = .returned (.int .i64 (nH xs : Nat)) ∧ Below w1.heap.size w1 w' := by
        intro w1 r1
        have k0 : Blk ((w1.alloc (.cells #[.slice a xs.length c] 27)).alloc (.cells #[.int .i64 8] 3)) w1.heap.size 27 [.slice a xs.length c] :=
          Blk.mono (w := w1.alloc (.cells #[.slice a xs.length c] 27)) (heap_alloc_new w1 _) ((Below.refl _ _).alloc (Nat.le_refl _) _)
        have k1 : Blk ((w1.alloc (.cells #[.slice a xs.length c] 27)).alloc (.cells #[.int .i64 8] 3)) (w1.heap.size + 1) 3 [.int .i64 8] := by
          have := heap_alloc_new (w1.alloc (.cells #[.slice a xs.length c] 27)) (.cells #[.int .i64 8] 3)
          rw [show (w1.alloc (.cells #[.slice a xs.length c] 27)).heap.size = w1.heap.size + 1 from by simp] at this
          exact this
        refine (next_any a c xs 8 8 _ _ _ ((r1.alloc _).alloc _) k0 k1 (by omega)).mono ?_
        rintro e w2 ⟨rfl, rfl⟩
        refine ⟨rfl, ?_⟩
        have b := (((Below.refl w1.heap.size w1).alloc (Nat.le_refl _) (.cells #[.slice a xs.length c] 27)).alloc (by simp) (.cells #[.int .i64 8] 3))
        exact b.setCell (by simp) _
      have HG1 := hid hg1; clear hg1
      go_enter Try.func18, Try.ntmps18
      go_wp2_with fail
      refine HC.out.mono ?_
      rintro e w1 ⟨rfl, b1⟩
      have r1 := ha.mono b1
      go_wp2_with fail
      refine (reader_any a c xs.length 8 w1).mono ?_
      rintro e w2 ⟨rfl, rfl⟩
      go_wp2_with (go_at_call 36; refine (HG1.out _ r1).mono ?_; rintro e w3 ⟨rfl, b3⟩; have _b := below_trans b1 b3 b1.size)
      by_cases hbt : btw (nH xs) 1152921504606846976 = true
      · have hq := headL_length hbt
        have hG := HG.out
        unfold rhGood at hG
        rw [hbt] at hG
        have hph := putHead_any (nH xs) w3 (by omega)
        rw [hq] at hph
        have hpf := fun (a2 : Option Addr) (c2 : Nat) (w4 : World) (h1 : RowB w4 a c xs) (h2 : RowB w4 a2 c2 (headL (nH xs))) => hasPrefix_any a a2 c c2 xs (headL (nH xs)) w4 h1 h2
        rw [hq, decide_eq_true h64] at hpf
        simp only [Bool.true_and] at hG hpf
        rw [hG, hbt] at *
        have HPH := hid hph; have HPF := hid hpf
        clear hph hpf hG hq hbt
        refine HPH.out.mono ?_
        rintro e w4 ⟨a4, c4, rfl, o4, b4⟩
        have r4 := (ha.mono _b).mono b4
        have _c := below_trans _b b4 _b.size
        go_wp2_with fail
        refine (HPF.out a4 c4 w4 r4 o4.row).mono ?_
        rintro e w5 ⟨rfl, rfl⟩
        cases G
        · go_wp2_with fail
          go_ret2
          exact ⟨rfl, _c⟩
        · go_wp2_with fail
          go_ret2
          exact ⟨rfl, _c⟩
      · have hbt' : btw (nH xs) 1152921504606846976 = false := by simpa using hbt
        have hG := HG.out
        unfold rhGood at hG
        rw [hbt'] at hG
        simp only [Bool.false_and] at hG
        subst hG
        have hph := putHead_any (nH xs) w3 (by omega)
        rw [hbt'] at hph
        have HPH := hid hph
        clear hph hbt hbt'
        refine HPH.out.mono ?_
        rintro e w4 ⟨a4, c4, rfl, o4, b4⟩
        have _c := below_trans _b b4 _b.size
        go_wp2_with fail
        go_ret2
        exact ⟨rfl, _c⟩
    cases hG : rhGood xs with
    | true => rw [hR, hE, hG]; exact pre true hG
    | false => rw [hR, hE, hG]; exact pre false hG
  · have hR : rhN xs = 0 := by unfold rhN; rw [if_neg hc]
    have hE : rhE xs = chk xs := by unfold rhE; rw [if_neg hc]
    rw [hR, hE]
    have HC := hid (check_any a c xs w ha)
    clear hR hE
    generalize chk xs = q at *
    go_enter Try.func18, Try.ntmps18
    go_wp2_with fail
    refine HC.out.mono ?_
    rintro e w1 ⟨rfl, b1⟩
    go_wp2_with fail
    go_ret2
    exact ⟨rfl, b1⟩

end Go.Proofs.Ytpkmkmkknhnihaa
