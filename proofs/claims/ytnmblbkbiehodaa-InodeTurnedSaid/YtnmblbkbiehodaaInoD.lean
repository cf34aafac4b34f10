import Derived.Test.YtnmblbkbiehodaaInoC
namespace Go.Proofs.Ytnmblbkbiehodaa
open Go.RowKit Go.WideShapes
set_option linter.unusedSimpArgs false
set_option linter.unusedVariables false

def okN (n : Int) : Bool := decide (0 ≤ n ∧ n ≤ 128)
def dirHead (l s : Int) : Bool := decide (l = 1 ∧ 0 ≤ s ∧ s ≤ 16)
def noO (i : InoT) : Bool := decide ([i.o0, i.o1, i.o2, i.o3, i.o4, i.o5, i.o6, i.o7] = [0, 0, 0, 0, 0, 0, 0, 0])
def mDir (i : InoT) : Bool := dirHead i.l i.s && noO i && (okN i.b0 && okN i.b1 && okN i.b2 && okN i.b3)

set_option maxHeartbeats 8000000 in
set_option maxRecDepth 100000 in
theorem mayDir_any (i : InoT) (w : World) : Calls Try.prog 27 #[inoV i] w fun e w' => e = .returned (.bool (mDir i)) ∧ Below w.heap.size w w' := by
  obtain ⟨k, l, s, b0, b1, b2, b3, o0, o1, o2, o3, o4, o5, o6, o7⟩ := i
  have HB : Hid (Below w.heap.size w (w.alloc (.cells #[.int .i64 k, .int .i64 l, .int .i64 s, .int .i64 b0, .int .i64 b1, .int .i64 b2, .int .i64 b3, .int .i64 o0, .int .i64 o1, .int .i64 o2, .int .i64 o3, .int .i64 o4, .int .i64 o5, .int .i64 o6, .int .i64 o7] 25))) := (Below.refl w.heap.size w).alloc (Nat.le_refl _) _
  unfold inoV inoC
  obtain ⟨M, hM⟩ : ∃ M, M = mDir ⟨k, l, s, b0, b1, b2, b3, o0, o1, o2, o3, o4, o5, o6, o7⟩ := ⟨_, rfl⟩
  rw [← hM]
  obtain ⟨zo, hzo⟩ : ∃ zo, decide ([o0, o1, o2, o3, o4, o5, o6, o7] = [0, 0, 0, 0, 0, 0, 0, 0]) = zo := ⟨_, rfl⟩
  have hMh : dirHead l s = false → M = false := fun h => by rw [hM]; simp [mDir, h]
  have hMo : zo = false → M = false := fun h => by rw [hM]; rw [h] at hzo; simp only [mDir, noO, hzo]; simp
  have hMB : (okN b0 = false ∨ okN b1 = false ∨ okN b2 = false ∨ okN b3 = false) → M = false := fun h => by rw [hM]; rcases h with h | h | h | h <;> simp [mDir, h]
  have hMT : dirHead l s = true → zo = true → (okN b0 = true ∧ okN b1 = true ∧ okN b2 = true ∧ okN b3 = true) → M = true := fun h1 h2 h3 => by rw [hM]; rw [h2] at hzo; simp only [mDir, noO, hzo, h1, h3.1, h3.2.1, h3.2.2.1, h3.2.2.2]; rfl
  have HMh := hid hMh; have HMB := hid hMB; have HMo := hid hMo; have HMT := hid hMT
  have E8 := eqA8t o0 o1 o2 o3 o4 o5 o6 o7 0 0 0 0 0 0 0 0
  rw [hzo] at E8
  clear hM hMh hMB hMo hMT hzo
  by_cases hh : l = 1 ∧ 0 ≤ s ∧ s ≤ 16
  · have hhT : dirHead l s = true := decide_eq_true hh
    have HT := hid (HMT.out hhT)
    obtain ⟨hl1, h3, h4⟩ := hh
    have d1 : (l != 1) = false := by simpa using hl1
    clear hl1
    have d3 : decide (s < 0) = false := decide_eq_false (by omega)
    have d4 : decide (16 < s) = false := decide_eq_false (by omega)
    clear hhT HMh
    cases zo
    · have HOK : Hid (M = false) := HMo.out rfl
      clear HT
      go_enter Try.func27, Try.ntmps27
      go_wp2_with fail
      go_ret
      exact ⟨by rw [HOK.out]; rfl, HB.out⟩
    · have HT2 := hid (HT.out rfl)
      clear HT HMo
      have ib0 : ∀ w, (Instr.index 22 (.agg #[.int .i64 b0, .int .i64 b1, .int .i64 b2, .int .i64 b3]) (.int .i64 0)).run Try.prog w = .ok (.int .i64 b0) w := fun _ => by kernel_rfl
      have ib1 : ∀ w, (Instr.index 22 (.agg #[.int .i64 b0, .int .i64 b1, .int .i64 b2, .int .i64 b3]) (.int .i64 1)).run Try.prog w = .ok (.int .i64 b1) w := fun _ => by kernel_rfl
      have ib2 : ∀ w, (Instr.index 22 (.agg #[.int .i64 b0, .int .i64 b1, .int .i64 b2, .int .i64 b3]) (.int .i64 2)).run Try.prog w = .ok (.int .i64 b2) w := fun _ => by kernel_rfl
      have ib3 : ∀ w, (Instr.index 22 (.agg #[.int .i64 b0, .int .i64 b1, .int .i64 b2, .int .i64 b3]) (.int .i64 3)).run Try.prog w = .ok (.int .i64 b3) w := fun _ => by kernel_rfl
      go_enter Try.func27, Try.ntmps27
      go_wp2_with fail
      go_loopw [26] (fun i wr => ∃ j : Nat, j ≤ 4 ∧ i = .int .i64 j ∧ ((1 ≤ j → okN b0 = true) ∧ (2 ≤ j → okN b1 = true) ∧ (3 ≤ j → okN b2 = true) ∧ (4 ≤ j → okN b3 = true)) ∧ wr = (w.alloc (.cells #[.int .i64 k, .int .i64 l, .int .i64 s, .int .i64 b0, .int .i64 b1, .int .i64 b2, .int .i64 b3, .int .i64 o0, .int .i64 o1, .int .i64 o2, .int .i64 o3, .int .i64 o4, .int .i64 o5, .int .i64 o6, .int .i64 o7] 25))) (fun i _ => 4 - (intOf i).toNat)
      case atStart => exact ⟨0, by omega, rfl, ⟨fun h => absurd h (by omega), fun h => absurd h (by omega), fun h => absurd h (by omega), fun h => absurd h (by omega)⟩, rfl⟩
      case round =>
      obtain ⟨j, hj, rfl, hp, rfl⟩ := hrel
      have HP := hid hp
      clear hp
      rcases (by omega : j = 0 ∨ j = 1 ∨ j = 2 ∨ j = 3 ∨ j = 4) with rfl | rfl | rfl | rfl | rfl
      · skip
        rw [show ((0 : Nat) : Int) = 0 from rfl]
        cases hm : decide (0 ≤ b0 ∧ b0 ≤ 128)
        · have HOK : Hid (M = false) := HMB.out (.inl hm)
          go_wp2_with (go_at_call 40; refine (mayBlock_any _ _).mono ?_; rintro e w4 ⟨rfl, rfl⟩; rw [hm])
          go_ret
          exact ⟨by rw [HOK.out]; rfl, HB.out⟩
        · have HOK : Hid (okN b0 = true) := hm
          go_wp2_with (go_at_call 40; refine (mayBlock_any _ _).mono ?_; rintro e w4 ⟨rfl, rfl⟩; rw [hm])
          go_roundw
          case rel => exact ⟨1, by omega, rfl, ⟨fun _ => HOK.out, fun h => absurd h (by omega), fun h => absurd h (by omega), fun h => absurd h (by omega)⟩, by first | rfl | trivial⟩
          case measure => simp [intOf]
      · skip
        rw [show ((1 : Nat) : Int) = 1 from rfl]
        cases hm : decide (0 ≤ b1 ∧ b1 ≤ 128)
        · have HOK : Hid (M = false) := HMB.out (.inr (.inl hm))
          go_wp2_with (go_at_call 40; refine (mayBlock_any _ _).mono ?_; rintro e w4 ⟨rfl, rfl⟩; rw [hm])
          go_ret
          exact ⟨by rw [HOK.out]; rfl, HB.out⟩
        · have HOK : Hid (okN b1 = true) := hm
          go_wp2_with (go_at_call 40; refine (mayBlock_any _ _).mono ?_; rintro e w4 ⟨rfl, rfl⟩; rw [hm])
          go_roundw
          case rel => exact ⟨2, by omega, rfl, ⟨fun _ => HP.out.1 (by omega), fun _ => HOK.out, fun h => absurd h (by omega), fun h => absurd h (by omega)⟩, by first | rfl | trivial⟩
          case measure => simp [intOf]
      · skip
        rw [show ((2 : Nat) : Int) = 2 from rfl]
        cases hm : decide (0 ≤ b2 ∧ b2 ≤ 128)
        · have HOK : Hid (M = false) := HMB.out (.inr (.inr (.inl hm)))
          go_wp2_with (go_at_call 40; refine (mayBlock_any _ _).mono ?_; rintro e w4 ⟨rfl, rfl⟩; rw [hm])
          go_ret
          exact ⟨by rw [HOK.out]; rfl, HB.out⟩
        · have HOK : Hid (okN b2 = true) := hm
          go_wp2_with (go_at_call 40; refine (mayBlock_any _ _).mono ?_; rintro e w4 ⟨rfl, rfl⟩; rw [hm])
          go_roundw
          case rel => exact ⟨3, by omega, rfl, ⟨fun _ => HP.out.1 (by omega), fun _ => HP.out.2.1 (by omega), fun _ => HOK.out, fun h => absurd h (by omega)⟩, by first | rfl | trivial⟩
          case measure => simp [intOf]
      · skip
        rw [show ((3 : Nat) : Int) = 3 from rfl]
        cases hm : decide (0 ≤ b3 ∧ b3 ≤ 128)
        · have HOK : Hid (M = false) := HMB.out (.inr (.inr (.inr hm)))
          go_wp2_with (go_at_call 40; refine (mayBlock_any _ _).mono ?_; rintro e w4 ⟨rfl, rfl⟩; rw [hm])
          go_ret
          exact ⟨by rw [HOK.out]; rfl, HB.out⟩
        · have HOK : Hid (okN b3 = true) := hm
          go_wp2_with (go_at_call 40; refine (mayBlock_any _ _).mono ?_; rintro e w4 ⟨rfl, rfl⟩; rw [hm])
          go_roundw
          case rel => exact ⟨4, by omega, rfl, ⟨fun _ => HP.out.1 (by omega), fun _ => HP.out.2.1 (by omega), fun _ => HP.out.2.2.1 (by omega), fun _ => HOK.out⟩, by first | rfl | trivial⟩
          case measure => simp [intOf]
      · rw [show ((4 : Nat) : Int) = 4 from rfl]
        have HOK := hid (HT2.out ⟨HP.out.1 (by omega), HP.out.2.1 (by omega), HP.out.2.2.1 (by omega), HP.out.2.2.2 (by omega)⟩)
        go_wp2_with fail
        go_ret
        exact ⟨by rw [HOK.out]; rfl, HB.out⟩
  · have HOK : Hid (M = false) := HMh.out (decide_eq_false hh)
    rcases (by omega : ¬ l = 1 ∨ (l = 1 ∧ s < 0) ∨ (l = 1 ∧ ¬ s < 0 ∧ 16 < s)) with h1 | ⟨rfl, h3⟩ | ⟨rfl, h3, h4⟩
    · have d1 : (l != 1) = true := by simpa using h1
      clear hh h1
      go_enter Try.func27, Try.ntmps27
      go_wp2_with fail
      go_ret
      exact ⟨by rw [HOK.out]; rfl, HB.out⟩
    · have d3 : decide (s < 0) = true := decide_eq_true h3
      clear hh h3
      go_enter Try.func27, Try.ntmps27
      go_wp2_with fail
      go_ret
      exact ⟨by rw [HOK.out]; rfl, HB.out⟩
    · have d3 : decide (s < 0) = false := decide_eq_false h3
      have d4 : decide (16 < s) = true := decide_eq_true h4
      clear hh h3 h4
      go_enter Try.func27, Try.ntmps27
      go_wp2_with fail
      go_ret
      exact ⟨by rw [HOK.out]; rfl, HB.out⟩

def seenF : List Nat → List Value
  | [] => List.replicate 129 (.bool false)
  | n :: l => (seenF l).set n (.bool true)
theorem seenF_len (l : List Nat) : (seenF l).length = 129 := by
  induction l with
  | nil => simp [seenF]
  | cons n l ih => simp [seenF, ih]
theorem seenF_get (l : List Nat) (n : Nat) (hn : n < 129) : (seenF l)[n]? = some (.bool (decide (n ∈ l))) := by
  induction l with
  | nil =>
    rw [show seenF [] = List.replicate 129 (.bool false) from rfl, List.getElem?_replicate, if_pos hn]
    simp
  | cons m l ih =>
    have hl := seenF_len l
    simp only [seenF]
    by_cases h : m = n
    · subst h; simp [hl, hn]
    · rw [List.getElem?_set_ne h, ih]
      have : (decide (n ∈ m :: l)) = decide (n ∈ l) := by
        simp only [List.mem_cons]
        have h' : ¬ n = m := fun e => h e.symm
        simp [h']
      rw [this]
def twC (n : Nat) (l : List Nat) : Bool := (n != 0) && decide (n ∈ l)
/-- is a block there twice? -/
def tw (n0 n1 n2 n3 : Nat) : Bool := twC n0 [] || twC n1 [n0] || twC n2 [n1, n0] || twC n3 [n2, n1, n0]

set_option maxHeartbeats 8000000 in
set_option maxRecDepth 100000 in
theorem twice_any (k l s : Int) (n0 n1 n2 n3 : Nat) (o0 o1 o2 o3 o4 o5 o6 o7 : Int) (w : World) (g0 : n0 ≤ 128) (g1 : n1 ≤ 128) (g2 : n2 ≤ 128) (g3 : n3 ≤ 128) :
    Calls Try.prog 26 #[inoV ⟨k, l, s, n0, n1, n2, n3, o0, o1, o2, o3, o4, o5, o6, o7⟩] w fun e w' => e = .returned (.bool (tw n0 n1 n2 n3)) ∧ Below w.heap.size w w' := by
  obtain ⟨M, hM⟩ : ∃ M, M = tw n0 n1 n2 n3 := ⟨_, rfl⟩
  rw [← hM]
  have hMT : (twC n0 [] = true ∨ twC n1 [n0] = true ∨ twC n2 [n1, n0] = true ∨ twC n3 [n2, n1, n0] = true) → M = true := fun h => by rw [hM]; rcases h with h | h | h | h <;> simp [tw, h]
  have hMF : (twC n0 [] = false ∧ twC n1 [n0] = false ∧ twC n2 [n1, n0] = false ∧ twC n3 [n2, n1, n0] = false) → M = false := fun h => by rw [hM]; simp [tw, h.1, h.2.1, h.2.2.1, h.2.2.2]
  have HMT := hid hMT; have HMF := hid hMF
  clear hM hMT hMF
  obtain ⟨Z, hZ⟩ : ∃ Z : Array Value, Z = Array.replicate 129 (.bool false) := ⟨_, rfl⟩
  have hz : ∀ w, (zeroValue 61).run Try.prog w = .ok (.agg Z) w := fun _ => by rw [hZ]; kernel_rfl
  unfold inoV inoC
  have k0 : Blk ((w.alloc (.cells #[.int .i64 k, .int .i64 l, .int .i64 s, .int .i64 (n0 : Nat), .int .i64 (n1 : Nat), .int .i64 (n2 : Nat), .int .i64 (n3 : Nat), .int .i64 o0, .int .i64 o1, .int .i64 o2, .int .i64 o3, .int .i64 o4, .int .i64 o5, .int .i64 o6, .int .i64 o7] 25)).alloc (.cells Z 61)) (w.heap.size + 1) 61 (seenF []) := by
    have q := heap_alloc_new (w.alloc (.cells #[.int .i64 k, .int .i64 l, .int .i64 s, .int .i64 (n0 : Nat), .int .i64 (n1 : Nat), .int .i64 (n2 : Nat), .int .i64 (n3 : Nat), .int .i64 o0, .int .i64 o1, .int .i64 o2, .int .i64 o3, .int .i64 o4, .int .i64 o5, .int .i64 o6, .int .i64 o7] 25)) (.cells Z 61)
    rw [show (w.alloc (.cells #[.int .i64 k, .int .i64 l, .int .i64 s, .int .i64 (n0 : Nat), .int .i64 (n1 : Nat), .int .i64 (n2 : Nat), .int .i64 (n3 : Nat), .int .i64 o0, .int .i64 o1, .int .i64 o2, .int .i64 o3, .int .i64 o4, .int .i64 o5, .int .i64 o6, .int .i64 o7] 25)).heap.size = w.heap.size + 1 from by simp] at q
    unfold Blk
    have hs : (seenF []).toArray = Array.replicate 129 (.bool false) := by
      show (List.replicate 129 (Value.bool false)).toArray = _
      exact List.toArray_replicate _ _
    rw [q, hZ, hs]
  have b0 : Below w.heap.size w ((w.alloc (.cells #[.int .i64 k, .int .i64 l, .int .i64 s, .int .i64 (n0 : Nat), .int .i64 (n1 : Nat), .int .i64 (n2 : Nat), .int .i64 (n3 : Nat), .int .i64 o0, .int .i64 o1, .int .i64 o2, .int .i64 o3, .int .i64 o4, .int .i64 o5, .int .i64 o6, .int .i64 o7] 25)).alloc (.cells Z 61)) := ((Below.refl _ w).alloc (Nat.le_refl _) _).alloc (by simp) _
  have K0 := hid k0; have B0 := hid b0
  clear k0 b0 hZ
  have ib0 : ∀ w, (Instr.index 22 (.agg #[.int .i64 (n0 : Nat), .int .i64 (n1 : Nat), .int .i64 (n2 : Nat), .int .i64 (n3 : Nat)]) (.int .i64 0)).run Try.prog w = .ok (.int .i64 (n0 : Nat)) w := fun _ => by kernel_rfl
  have ib1 : ∀ w, (Instr.index 22 (.agg #[.int .i64 (n0 : Nat), .int .i64 (n1 : Nat), .int .i64 (n2 : Nat), .int .i64 (n3 : Nat)]) (.int .i64 1)).run Try.prog w = .ok (.int .i64 (n1 : Nat)) w := fun _ => by kernel_rfl
  have ib2 : ∀ w, (Instr.index 22 (.agg #[.int .i64 (n0 : Nat), .int .i64 (n1 : Nat), .int .i64 (n2 : Nat), .int .i64 (n3 : Nat)]) (.int .i64 2)).run Try.prog w = .ok (.int .i64 (n2 : Nat)) w := fun _ => by kernel_rfl
  have ib3 : ∀ w, (Instr.index 22 (.agg #[.int .i64 (n0 : Nat), .int .i64 (n1 : Nat), .int .i64 (n2 : Nat), .int .i64 (n3 : Nat)]) (.int .i64 3)).run Try.prog w = .ok (.int .i64 (n3 : Nat)) w := fun _ => by kernel_rfl
  go_enter Try.func26, Try.ntmps26
  go_wp2_with fail
  go_loopw [8] (fun i wr => ∃ (j : Nat) (l : List Nat), j ≤ 4 ∧ i = .int .i64 j ∧ Blk wr (w.heap.size + 1) 61 (seenF l) ∧ Below w.heap.size w wr ∧ ((j = 0 ∧ l = []) ∨ (j = 1 ∧ l = [n0] ∧ twC n0 [] = false) ∨ (j = 2 ∧ l = [n1, n0] ∧ twC n0 [] = false ∧ twC n1 [n0] = false) ∨ (j = 3 ∧ l = [n2, n1, n0] ∧ twC n0 [] = false ∧ twC n1 [n0] = false ∧ twC n2 [n1, n0] = false) ∨ (j = 4 ∧ twC n0 [] = false ∧ twC n1 [n0] = false ∧ twC n2 [n1, n0] = false ∧ twC n3 [n2, n1, n0] = false))) (fun i _ => 4 - (intOf i).toNat)
  case atStart => exact ⟨0, [], by omega, rfl, K0.out, B0.out, .inl ⟨rfl, rfl⟩⟩
  case round =>
  obtain ⟨j, l', hj, rfl, kb, bb, hrel⟩ := hrel
  clear K0 B0 hz
  rcases hrel with ⟨rfl, rfl⟩ | ⟨rfl, rfl, t0⟩ | ⟨rfl, rfl, t0, t1⟩ | ⟨rfl, rfl, t0, t1, t2⟩ | ⟨rfl, t0, t1, t2, t3⟩
  · skip
    rw [show ((0 : Nat) : Int) = 0 from rfl]
    have kc : wr.cell? ⟨w.heap.size + 1, n0, none⟩ = some (.bool (decide (n0 ∈ ([] : List Nat)))) := by
      have q1 := kb.cell (i := n0) (by rw [seenF_len]; omega)
      have q2 := seenF_get [] n0 (by omega)
      rw [List.getElem?_eq_getElem (by rw [seenF_len]; omega)] at q2
      rw [q1, Option.some.inj q2]
    have hf := kb.frozen n0
    have kb2 : Hid (Blk (wr.setCell ⟨w.heap.size + 1, n0, none⟩ (.bool true)) (w.heap.size + 1) 61 (seenF (n0 :: []))) := kb.set n0 (.bool true)
    have bb2 := hid (bb.setCell (p := ⟨w.heap.size + 1, n0, none⟩) (by show w.heap.size ≤ w.heap.size + 1; omega) (.bool true))
    have hi : (n0 : Int) < 129 := by omega
    have HC : Hid (twC n0 [] = ((n0 != 0) && decide (n0 ∈ ([] : List Nat)))) := rfl
    have BB := hid bb
    clear kb bb
    generalize decide (n0 ∈ ([] : List Nat)) = dm at *
    by_cases hn : n0 = 0
    · have HT : Hid (twC n0 [] = false) := by rw [HC.out, hn]; rfl
      have hn' : ((n0 : Int) != 0) = false := by simp; omega
      clear HC hn
      go_wp2_with fail
      go_roundw
      case rel => exact ⟨1, n0 :: [], by omega, rfl, kb2.out, bb2.out, .inr (.inl ⟨rfl, rfl, HT.out⟩)⟩
      case measure => simp [intOf]
    · have hn' : ((n0 : Int) != 0) = true := by simp; omega
      have hn2 : (n0 != 0) = true := by simp; omega
      cases dm
      · have HT : Hid (twC n0 [] = false) := by rw [HC.out, Bool.and_false]; exact rfl
        clear HC
        go_wp2_with fail
        go_roundw
        case rel => exact ⟨1, n0 :: [], by omega, rfl, kb2.out, bb2.out, .inr (.inl ⟨rfl, rfl, HT.out⟩)⟩
        case measure => simp [intOf]
      · have HT : Hid (twC n0 [] = true) := by rw [HC.out, hn2]; rfl
        have HOK : Hid (M = true) := HMT.out (.inl HT.out)
        clear HC
        go_wp2_with fail
        go_ret
        exact ⟨by rw [HOK.out]; rfl, BB.out⟩
  · skip
    have T0 := hid t0
    clear t0
    rw [show ((1 : Nat) : Int) = 1 from rfl]
    have kc : wr.cell? ⟨w.heap.size + 1, n1, none⟩ = some (.bool (decide (n1 ∈ ([n0] : List Nat)))) := by
      have q1 := kb.cell (i := n1) (by rw [seenF_len]; omega)
      have q2 := seenF_get [n0] n1 (by omega)
      rw [List.getElem?_eq_getElem (by rw [seenF_len]; omega)] at q2
      rw [q1, Option.some.inj q2]
    have hf := kb.frozen n1
    have kb2 : Hid (Blk (wr.setCell ⟨w.heap.size + 1, n1, none⟩ (.bool true)) (w.heap.size + 1) 61 (seenF (n1 :: [n0]))) := kb.set n1 (.bool true)
    have bb2 := hid (bb.setCell (p := ⟨w.heap.size + 1, n1, none⟩) (by show w.heap.size ≤ w.heap.size + 1; omega) (.bool true))
    have hi : (n1 : Int) < 129 := by omega
    have HC : Hid (twC n1 [n0] = ((n1 != 0) && decide (n1 ∈ ([n0] : List Nat)))) := rfl
    have BB := hid bb
    clear kb bb
    generalize decide (n1 ∈ ([n0] : List Nat)) = dm at *
    by_cases hn : n1 = 0
    · have HT : Hid (twC n1 [n0] = false) := by rw [HC.out, hn]; rfl
      have hn' : ((n1 : Int) != 0) = false := by simp; omega
      clear HC hn
      go_wp2_with fail
      go_roundw
      case rel => exact ⟨2, n1 :: [n0], by omega, rfl, kb2.out, bb2.out, .inr (.inr (.inl ⟨rfl, rfl, T0.out, HT.out⟩))⟩
      case measure => simp [intOf]
    · have hn' : ((n1 : Int) != 0) = true := by simp; omega
      have hn2 : (n1 != 0) = true := by simp; omega
      cases dm
      · have HT : Hid (twC n1 [n0] = false) := by rw [HC.out, Bool.and_false]; exact rfl
        clear HC
        go_wp2_with fail
        go_roundw
        case rel => exact ⟨2, n1 :: [n0], by omega, rfl, kb2.out, bb2.out, .inr (.inr (.inl ⟨rfl, rfl, T0.out, HT.out⟩))⟩
        case measure => simp [intOf]
      · have HT : Hid (twC n1 [n0] = true) := by rw [HC.out, hn2]; rfl
        have HOK : Hid (M = true) := HMT.out (.inr (.inl HT.out))
        clear HC
        go_wp2_with fail
        go_ret
        exact ⟨by rw [HOK.out]; rfl, BB.out⟩
  · skip
    have T0 := hid t0
    clear t0
    have T1 := hid t1
    clear t1
    rw [show ((2 : Nat) : Int) = 2 from rfl]
    have kc : wr.cell? ⟨w.heap.size + 1, n2, none⟩ = some (.bool (decide (n2 ∈ ([n1, n0] : List Nat)))) := by
      have q1 := kb.cell (i := n2) (by rw [seenF_len]; omega)
      have q2 := seenF_get [n1, n0] n2 (by omega)
      rw [List.getElem?_eq_getElem (by rw [seenF_len]; omega)] at q2
      rw [q1, Option.some.inj q2]
    have hf := kb.frozen n2
    have kb2 : Hid (Blk (wr.setCell ⟨w.heap.size + 1, n2, none⟩ (.bool true)) (w.heap.size + 1) 61 (seenF (n2 :: [n1, n0]))) := kb.set n2 (.bool true)
    have bb2 := hid (bb.setCell (p := ⟨w.heap.size + 1, n2, none⟩) (by show w.heap.size ≤ w.heap.size + 1; omega) (.bool true))
    have hi : (n2 : Int) < 129 := by omega
    have HC : Hid (twC n2 [n1, n0] = ((n2 != 0) && decide (n2 ∈ ([n1, n0] : List Nat)))) := rfl
    have BB := hid bb
    clear kb bb
    generalize decide (n2 ∈ ([n1, n0] : List Nat)) = dm at *
    by_cases hn : n2 = 0
    · have HT : Hid (twC n2 [n1, n0] = false) := by rw [HC.out, hn]; rfl
      have hn' : ((n2 : Int) != 0) = false := by simp; omega
      clear HC hn
      go_wp2_with fail
      go_roundw
      case rel => exact ⟨3, n2 :: [n1, n0], by omega, rfl, kb2.out, bb2.out, .inr (.inr (.inr (.inl ⟨rfl, rfl, T0.out, T1.out, HT.out⟩)))⟩
      case measure => simp [intOf]
    · have hn' : ((n2 : Int) != 0) = true := by simp; omega
      have hn2 : (n2 != 0) = true := by simp; omega
      cases dm
      · have HT : Hid (twC n2 [n1, n0] = false) := by rw [HC.out, Bool.and_false]; exact rfl
        clear HC
        go_wp2_with fail
        go_roundw
        case rel => exact ⟨3, n2 :: [n1, n0], by omega, rfl, kb2.out, bb2.out, .inr (.inr (.inr (.inl ⟨rfl, rfl, T0.out, T1.out, HT.out⟩)))⟩
        case measure => simp [intOf]
      · have HT : Hid (twC n2 [n1, n0] = true) := by rw [HC.out, hn2]; rfl
        have HOK : Hid (M = true) := HMT.out (.inr (.inr (.inl HT.out)))
        clear HC
        go_wp2_with fail
        go_ret
        exact ⟨by rw [HOK.out]; rfl, BB.out⟩
  · skip
    have T0 := hid t0
    clear t0
    have T1 := hid t1
    clear t1
    have T2 := hid t2
    clear t2
    rw [show ((3 : Nat) : Int) = 3 from rfl]
    have kc : wr.cell? ⟨w.heap.size + 1, n3, none⟩ = some (.bool (decide (n3 ∈ ([n2, n1, n0] : List Nat)))) := by
      have q1 := kb.cell (i := n3) (by rw [seenF_len]; omega)
      have q2 := seenF_get [n2, n1, n0] n3 (by omega)
      rw [List.getElem?_eq_getElem (by rw [seenF_len]; omega)] at q2
      rw [q1, Option.some.inj q2]
    have hf := kb.frozen n3
    have kb2 : Hid (Blk (wr.setCell ⟨w.heap.size + 1, n3, none⟩ (.bool true)) (w.heap.size + 1) 61 (seenF (n3 :: [n2, n1, n0]))) := kb.set n3 (.bool true)
    have bb2 := hid (bb.setCell (p := ⟨w.heap.size + 1, n3, none⟩) (by show w.heap.size ≤ w.heap.size + 1; omega) (.bool true))
    have hi : (n3 : Int) < 129 := by omega
    have HC : Hid (twC n3 [n2, n1, n0] = ((n3 != 0) && decide (n3 ∈ ([n2, n1, n0] : List Nat)))) := rfl
    have BB := hid bb
    clear kb bb
    generalize decide (n3 ∈ ([n2, n1, n0] : List Nat)) = dm at *
    by_cases hn : n3 = 0
    · have HT : Hid (twC n3 [n2, n1, n0] = false) := by rw [HC.out, hn]; rfl
      have hn' : ((n3 : Int) != 0) = false := by simp; omega
      clear HC hn
      go_wp2_with fail
      go_roundw
      case rel => exact ⟨4, n3 :: [n2, n1, n0], by omega, rfl, kb2.out, bb2.out, .inr (.inr (.inr (.inr (⟨rfl, T0.out, T1.out, T2.out, HT.out⟩))))⟩
      case measure => simp [intOf]
    · have hn' : ((n3 : Int) != 0) = true := by simp; omega
      have hn2 : (n3 != 0) = true := by simp; omega
      cases dm
      · have HT : Hid (twC n3 [n2, n1, n0] = false) := by rw [HC.out, Bool.and_false]; exact rfl
        clear HC
        go_wp2_with fail
        go_roundw
        case rel => exact ⟨4, n3 :: [n2, n1, n0], by omega, rfl, kb2.out, bb2.out, .inr (.inr (.inr (.inr (⟨rfl, T0.out, T1.out, T2.out, HT.out⟩))))⟩
        case measure => simp [intOf]
      · have HT : Hid (twC n3 [n2, n1, n0] = true) := by rw [HC.out, hn2]; rfl
        have HOK : Hid (M = true) := HMT.out (.inr (.inr (.inr (HT.out))))
        clear HC
        go_wp2_with fail
        go_ret
        exact ⟨by rw [HOK.out]; rfl, BB.out⟩
  · rw [show ((4 : Nat) : Int) = 4 from rfl]
    have HOK : Hid (M = false) := HMF.out ⟨t0, t1, t2, t3⟩
    have BB := hid bb
    clear t0 t1 t2 t3 kb bb
    go_wp2_with fail
    go_ret
    exact ⟨by rw [HOK.out]; rfl, BB.out⟩

end Go.Proofs.Ytnmblbkbiehodaa
