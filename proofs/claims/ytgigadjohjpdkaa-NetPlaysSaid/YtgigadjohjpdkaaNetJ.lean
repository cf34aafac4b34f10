/- A bag has at most so many packets. -/
import Derived.Test.YtgigadjohjpdkaaNetI
namespace Go.Proofs.Ytgigadjohjpdkaa
open Go.RowKit
set_option linter.unusedSimpArgs false
set_option linter.unusedVariables false

theorem idxT_all (node : Int) : ∀ (L : List PkT) (j : Nat), (∀ p ∈ L, p.to = node) → (idxT node L j).length = L.length
  | [], _, _ => rfl
  | p :: r, j, h => by
    have h1 := h p (List.mem_cons_self)
    have h2 := idxT_all node r (j + 1) (fun q hq => h q (List.mem_cons_of_mem _ hq))
    unfold idxT
    rw [if_pos h1]
    simp [h2]
/-- a byte in a new cell -/
theorem row_bv (w : World) (x : UInt8) : RowB (w.alloc (.cells #[byteV x] 5)) (some ⟨w.heap.size, 0, none⟩) 1 [x] := row_new1 w (byteV x) 5
def okN (to : Int) : Bool := decide (0 ≤ to ∧ to ≤ 8)
/-- so many packets to a node -/
def ManyP (w0 : Nat) (to : Int) (wr : World) (j : Nat) : Prop := ∃ ra rc L, BagP wr w0 w0 ra rc L ∧ L.length = (if okN to then min j 200 else 0) ∧ ∀ p ∈ L, p.to = to
theorem many_yes (w0 : Nat) (to : Int) (wr : World) (j : Nat) (x : UInt8) (V : Value) (hV : byteV x = V) (h : ManyP w0 to wr j) (hz : w0 ≤ wr.heap.size) (hok : okN to = true) (hj : j < 200) :
    Calls Try.prog 10 #[.pointer (some ⟨w0, 0, none⟩), .int .i64 to, .slice (some ⟨wr.heap.size, 0, none⟩) 1 1] (wr.alloc (.cells #[V] 5)) fun e w' => e = .returned (.bool true) ∧ ManyP w0 to w' (j + 1) ∧ Below w0 wr w' := by
  obtain ⟨ra, rc, L, hp, hl, ha⟩ := h
  subst hV
  rw [if_pos hok] at hl
  have hok2 : okTo to L.length = true := by
    have := of_decide_eq_true hok
    exact decide_eq_true ⟨this.1, this.2, by omega⟩
  refine (send_yes w0 w0 ra rc L to _ 1 [x] _ (hp.mono (albO wr _)) (by simp; omega) (row_bv wr x) (by simp) hok2).mono ?_
  rintro e w' ⟨ra', rc', a', c', he, hp', hb', _⟩
  refine ⟨he, ⟨ra', rc', _, hp', ?_, fun p hq => ?_⟩, ((albO wr _).mono hz).trans hb'⟩
  · rw [List.length_append, hl, if_pos hok, List.length_singleton]; omega
  · rcases List.mem_append.1 hq with hq | hq
    · exact ha p hq
    · rw [List.mem_singleton.1 hq]
theorem many_no (w0 : Nat) (to : Int) (wr : World) (j : Nat) (V : Value) (h : ManyP w0 to wr j) (hz : w0 ≤ wr.heap.size) (hok : okN to = false ∨ 200 ≤ j) :
    Calls Try.prog 10 #[.pointer (some ⟨w0, 0, none⟩), .int .i64 to, .slice (some ⟨wr.heap.size, 0, none⟩) 1 1] (wr.alloc (.cells #[V] 5)) fun e w' => e = .returned (.bool false) ∧ ManyP w0 to w' (j + 1) ∧ Below w0 wr w' := by
  obtain ⟨ra, rc, L, hp, hl, ha⟩ := h
  have hok2 : okTo to L.length = false := by
    refine decide_eq_false ?_
    rintro ⟨q1, q2, q3⟩
    have e : okN to = true := decide_eq_true ⟨q1, q2⟩
    rcases hok with h | h
    · rw [e] at h; cases h
    · rw [if_pos e] at hl; omega
  refine (send_no w0 ra L.length rc to _ 1 1 _ (hp.2.1.mono (albO wr _)) hok2).mono ?_
  rintro e w' ⟨he, rfl⟩
  refine ⟨he, ⟨ra, rc, L, hp.mono (albO wr _), ?_, ha⟩, (albO wr _).mono hz⟩
  rw [hl]
  rcases hok with h | h
  · rw [h]; rfl
  · split <;> omega

set_option maxHeartbeats 8000000 in
theorem NetMany_walk (w : World) (n : Int) (hn : (Lit.int .i64 n).wf = true) (to : Int) (ht : (Lit.int .i64 to).wf = true) :
    Calls Try.prog 4 #[.int .i64 n, .int .i64 to] w fun e w' => e = .returned (.bool true) ∧ Below w.heap.size w w' := by
  have hn9 := i64_bd hn
  clear hn ht
  by_cases h0 : n < 0
  · have d0 : decide (n < 0) = true := decide_eq_true h0
    obtain ⟨N, hN, hN2⟩ : ∃ N : Nat, (n + 1).tmod 261 = -(N : Int) ∧ N < 261 := by
      refine ⟨((-(n + 1)).tmod 261).toNat, ?_, ?_⟩
      · rw [Int.neg_tmod, Int.toNat_of_nonneg, Int.neg_neg]
        rw [← Int.neg_tmod, Int.tmod_eq_emod_of_nonneg (by omega)]; omega
      · rw [Int.tmod_eq_emod_of_nonneg (by omega)]; omega
    go_enter Try.func4, Try.ntmps4
    go_wp2_with fail
    refine (new_any w).mono ?_
    rintro e w1 ⟨rfl, p1, b1⟩
    have P1 := hid (show ManyP w.heap.size to w1 0 from ⟨none, 0, [], p1, by simp, fun p hp => by cases hp⟩)
    have B1 := hid b1
    clear p1 b1
    go_wp2_with fail
    clear hN h0 d0 hn9
    go_loopw [6] (fun i wr => ∃ j : Nat, j ≤ N ∧ i = .int .i64 j ∧ ManyP w.heap.size to wr j ∧ Below w.heap.size w wr) (fun i _ => N - (intOf i).toNat)
    case atStart => exact ⟨0, Nat.zero_le _, rfl, P1.out, B1.out⟩
    case round =>
      obtain ⟨j, hj, rfl, hp, hbel⟩ := hrel
      have hz := hbel.size
      by_cases hlt : j < N
      · have ltd : decide ((j : Int) < (N : Int)) = true := decide_eq_true (by omega)
        cases hok : okN to
        · have hno : ¬ (0 ≤ to ∧ to ≤ 8) := of_decide_eq_false hok
          by_cases h2 : j < 200
          · have d2 : decide ((j : Int) < 200) = true := decide_eq_true (by omega)
            by_cases h3 : 0 ≤ to
            · have d3 : decide (0 ≤ to) = true := decide_eq_true h3
              have d4 : decide (to ≤ 8) = false := decide_eq_false (by omega)
              have hx : byteV (UInt8.ofNat (j % 256)) = .int .u8 ((j % 256 : Nat) : Int) := by simp [byteV]
              have ew : IntKind.u8.wrap (j : Int) = ((j % 256 : Nat) : Int) := by simp [IntKind.wrap, IntKind.signed, IntKind.bits]
              have HP := hid (show Calls Try.prog 10 _ _ _ from many_no _ to wr j (.int .u8 ((j % 256 : Nat) : Int)) hp hz (.inl hok))
              clear hp hx
              go_wp2_with (go_at_call 10; refine HP.out.mono ?_; rintro e w3 ⟨rfl, p3, b3⟩; have P3 := hid p3; have B3 := hid (hbel.trans b3); clear p3 b3)
              go_roundw
              case rel => exact ⟨j + 1, by omega, by go_num, P3.out, B3.out⟩
              case measure => simp [intOf]; omega
            · have d3 : decide (0 ≤ to) = false := decide_eq_false h3
              have hx : byteV (UInt8.ofNat (j % 256)) = .int .u8 ((j % 256 : Nat) : Int) := by simp [byteV]
              have ew : IntKind.u8.wrap (j : Int) = ((j % 256 : Nat) : Int) := by simp [IntKind.wrap, IntKind.signed, IntKind.bits]
              have HP := hid (show Calls Try.prog 10 _ _ _ from many_no _ to wr j (.int .u8 ((j % 256 : Nat) : Int)) hp hz (.inl hok))
              clear hp hx
              go_wp2_with (go_at_call 10; refine HP.out.mono ?_; rintro e w3 ⟨rfl, p3, b3⟩; have P3 := hid p3; have B3 := hid (hbel.trans b3); clear p3 b3)
              go_roundw
              case rel => exact ⟨j + 1, by omega, by go_num, P3.out, B3.out⟩
              case measure => simp [intOf]; omega
          · have d2 : decide ((j : Int) < 200) = false := decide_eq_false (by omega)
            have hx : byteV (UInt8.ofNat (j % 256)) = .int .u8 ((j % 256 : Nat) : Int) := by simp [byteV]
            have ew : IntKind.u8.wrap (j : Int) = ((j % 256 : Nat) : Int) := by simp [IntKind.wrap, IntKind.signed, IntKind.bits]
            have HP := hid (show Calls Try.prog 10 _ _ _ from many_no _ to wr j (.int .u8 ((j % 256 : Nat) : Int)) hp hz (.inl hok))
            clear hp hx
            go_wp2_with (go_at_call 10; refine HP.out.mono ?_; rintro e w3 ⟨rfl, p3, b3⟩; have P3 := hid p3; have B3 := hid (hbel.trans b3); clear p3 b3)
            go_roundw
            case rel => exact ⟨j + 1, by omega, by go_num, P3.out, B3.out⟩
            case measure => simp [intOf]; omega
        · have hyes : 0 ≤ to ∧ to ≤ 8 := of_decide_eq_true hok
          have d3 : decide (0 ≤ to) = true := decide_eq_true hyes.1
          have d4 : decide (to ≤ 8) = true := decide_eq_true hyes.2
          by_cases h2 : j < 200
          · have d2 : decide ((j : Int) < 200) = true := decide_eq_true (by omega)
            have hx : byteV (UInt8.ofNat (j % 256)) = .int .u8 ((j % 256 : Nat) : Int) := by simp [byteV]
            have ew : IntKind.u8.wrap (j : Int) = ((j % 256 : Nat) : Int) := by simp [IntKind.wrap, IntKind.signed, IntKind.bits]
            have HP := hid (show Calls Try.prog 10 _ _ _ from many_yes _ to wr j _ _ hx hp hz hok (by omega))
            clear hp hx
            go_wp2_with (go_at_call 10; refine HP.out.mono ?_; rintro e w3 ⟨rfl, p3, b3⟩; have P3 := hid p3; have B3 := hid (hbel.trans b3); clear p3 b3)
            go_roundw
            case rel => exact ⟨j + 1, by omega, by go_num, P3.out, B3.out⟩
            case measure => simp [intOf]; omega
          · have d2 : decide ((j : Int) < 200) = false := decide_eq_false (by omega)
            have hx : byteV (UInt8.ofNat (j % 256)) = .int .u8 ((j % 256 : Nat) : Int) := by simp [byteV]
            have ew : IntKind.u8.wrap (j : Int) = ((j % 256 : Nat) : Int) := by simp [IntKind.wrap, IntKind.signed, IntKind.bits]
            have HP := hid (show Calls Try.prog 10 _ _ _ from many_no _ to wr j (.int .u8 ((j % 256 : Nat) : Int)) hp hz (.inr (by omega)))
            clear hp hx
            go_wp2_with (go_at_call 10; refine HP.out.mono ?_; rintro e w3 ⟨rfl, p3, b3⟩; have P3 := hid p3; have B3 := hid (hbel.trans b3); clear p3 b3)
            go_roundw
            case rel => exact ⟨j + 1, by omega, by go_num, P3.out, B3.out⟩
            case measure => simp [intOf]; omega
      · obtain rfl : j = N := by omega
        have ltd : decide ((j : Int) < (j : Int)) = false := decide_eq_false (by omega)
        obtain ⟨ra, rc, L, hpp, hl, ha⟩ := hp
        have hT := To_any _ _ ra rc L to wr hpp (by split at hl <;> omega)
        rw [idxT_all to L 0 ha] at hT
        have HL := hid (len_any _ ra L.length rc wr hpp.2.1)
        have HT := hid hT
        clear hT ha hpp
        by_cases h2 : j ≤ 200
        · have d2 : decide ((200 : Int) < (j : Int)) = false := decide_eq_false (by omega)
          cases hok : okN to
          · have hno : ¬ (0 ≤ to ∧ to ≤ 8) := of_decide_eq_false hok
            have hlj : L.length = 0 := by rw [hok] at hl; simpa using hl
            rw [hlj] at HL HT
            by_cases h3 : to < 0
            · have d3 : decide (to < 0) = true := decide_eq_true h3
              clear hl
              go_wp2_with fail
              refine HL.out.mono ?_
              rintro e w' ⟨rfl, rfl⟩
              go_wp2_with fail
              refine HT.out.mono ?_
              rintro e w5 ⟨a5, c5, rfl, o5, b5⟩
              have B5 := hid (kept_trans hbel b5)
              clear o5 b5 hbel
              go_wp2_with fail
              refine (lives_any _).mono ?_
              rintro e w8 ⟨rfl, b8⟩
              have B8 := hid (kept_trans B5.out b8)
              clear b8
              go_wp2_with fail
              go_ret
              exact ⟨rfl, B8.out⟩
            · have d3 : decide (to < 0) = false := decide_eq_false h3
              have d4 : decide (8 < to) = true := decide_eq_true (by omega)
              clear hl
              go_wp2_with fail
              refine HL.out.mono ?_
              rintro e w' ⟨rfl, rfl⟩
              go_wp2_with fail
              refine HT.out.mono ?_
              rintro e w5 ⟨a5, c5, rfl, o5, b5⟩
              have B5 := hid (kept_trans hbel b5)
              clear o5 b5 hbel
              go_wp2_with fail
              refine (lives_any _).mono ?_
              rintro e w8 ⟨rfl, b8⟩
              have B8 := hid (kept_trans B5.out b8)
              clear b8
              go_wp2_with fail
              go_ret
              exact ⟨rfl, B8.out⟩
          · have hyes : 0 ≤ to ∧ to ≤ 8 := of_decide_eq_true hok
            have d3 : decide (to < 0) = false := decide_eq_false (by omega)
            have d4 : decide (8 < to) = false := decide_eq_false (by omega)
            have hlj : L.length = j := by rw [hok] at hl; simp at hl; omega
            rw [hlj] at HL HT
            clear hl
            go_wp2_with fail
            refine HL.out.mono ?_
            rintro e w' ⟨rfl, rfl⟩
            go_wp2_with fail
            refine HT.out.mono ?_
            rintro e w5 ⟨a5, c5, rfl, o5, b5⟩
            have B5 := hid (kept_trans hbel b5)
            clear o5 b5 hbel
            go_wp2_with fail
            refine (lives_any _).mono ?_
            rintro e w8 ⟨rfl, b8⟩
            have B8 := hid (kept_trans B5.out b8)
            clear b8
            go_wp2_with fail
            go_ret
            exact ⟨rfl, B8.out⟩
        · have d2 : decide ((200 : Int) < (j : Int)) = true := decide_eq_true (by omega)
          cases hok : okN to
          · have hno : ¬ (0 ≤ to ∧ to ≤ 8) := of_decide_eq_false hok
            have hlj : L.length = 0 := by rw [hok] at hl; simpa using hl
            rw [hlj] at HL HT
            by_cases h3 : to < 0
            · have d3 : decide (to < 0) = true := decide_eq_true h3
              clear hl
              go_wp2_with fail
              refine HL.out.mono ?_
              rintro e w' ⟨rfl, rfl⟩
              go_wp2_with fail
              refine HT.out.mono ?_
              rintro e w5 ⟨a5, c5, rfl, o5, b5⟩
              have B5 := hid (kept_trans hbel b5)
              clear o5 b5 hbel
              go_wp2_with fail
              refine (lives_any _).mono ?_
              rintro e w8 ⟨rfl, b8⟩
              have B8 := hid (kept_trans B5.out b8)
              clear b8
              go_wp2_with fail
              go_ret
              exact ⟨rfl, B8.out⟩
            · have d3 : decide (to < 0) = false := decide_eq_false h3
              have d4 : decide (8 < to) = true := decide_eq_true (by omega)
              clear hl
              go_wp2_with fail
              refine HL.out.mono ?_
              rintro e w' ⟨rfl, rfl⟩
              go_wp2_with fail
              refine HT.out.mono ?_
              rintro e w5 ⟨a5, c5, rfl, o5, b5⟩
              have B5 := hid (kept_trans hbel b5)
              clear o5 b5 hbel
              go_wp2_with fail
              refine (lives_any _).mono ?_
              rintro e w8 ⟨rfl, b8⟩
              have B8 := hid (kept_trans B5.out b8)
              clear b8
              go_wp2_with fail
              go_ret
              exact ⟨rfl, B8.out⟩
          · have hyes : 0 ≤ to ∧ to ≤ 8 := of_decide_eq_true hok
            have d3 : decide (to < 0) = false := decide_eq_false (by omega)
            have d4 : decide (8 < to) = false := decide_eq_false (by omega)
            have hlj : L.length = 200 := by rw [hok] at hl; simp at hl; omega
            rw [hlj] at HL HT
            clear hl
            go_wp2_with fail
            refine HL.out.mono ?_
            rintro e w' ⟨rfl, rfl⟩
            go_wp2_with fail
            refine HT.out.mono ?_
            rintro e w5 ⟨a5, c5, rfl, o5, b5⟩
            have B5 := hid (kept_trans hbel b5)
            clear o5 b5 hbel
            go_wp2_with fail
            refine (lives_any _).mono ?_
            rintro e w8 ⟨rfl, b8⟩
            have B8 := hid (kept_trans B5.out b8)
            clear b8
            go_wp2_with fail
            go_ret
            exact ⟨rfl, B8.out⟩
  · have d0 : decide (n < 0) = false := decide_eq_false h0
    obtain ⟨N, hN, hN2⟩ : ∃ N : Nat, n.tmod 261 = (N : Int) ∧ N < 261 := by
      refine ⟨(n.tmod 261).toNat, ?_, ?_⟩
      · rw [Int.toNat_of_nonneg]
        rw [Int.tmod_eq_emod_of_nonneg (by omega)]; omega
      · rw [Int.tmod_eq_emod_of_nonneg (by omega)]; omega
    go_enter Try.func4, Try.ntmps4
    go_wp2_with fail
    refine (new_any w).mono ?_
    rintro e w1 ⟨rfl, p1, b1⟩
    have P1 := hid (show ManyP w.heap.size to w1 0 from ⟨none, 0, [], p1, by simp, fun p hp => by cases hp⟩)
    have B1 := hid b1
    clear p1 b1
    go_wp2_with fail
    clear hN h0 d0 hn9
    go_loopw [6] (fun i wr => ∃ j : Nat, j ≤ N ∧ i = .int .i64 j ∧ ManyP w.heap.size to wr j ∧ Below w.heap.size w wr) (fun i _ => N - (intOf i).toNat)
    case atStart => exact ⟨0, Nat.zero_le _, rfl, P1.out, B1.out⟩
    case round =>
      obtain ⟨j, hj, rfl, hp, hbel⟩ := hrel
      have hz := hbel.size
      by_cases hlt : j < N
      · have ltd : decide ((j : Int) < (N : Int)) = true := decide_eq_true (by omega)
        cases hok : okN to
        · have hno : ¬ (0 ≤ to ∧ to ≤ 8) := of_decide_eq_false hok
          by_cases h2 : j < 200
          · have d2 : decide ((j : Int) < 200) = true := decide_eq_true (by omega)
            by_cases h3 : 0 ≤ to
            · have d3 : decide (0 ≤ to) = true := decide_eq_true h3
              have d4 : decide (to ≤ 8) = false := decide_eq_false (by omega)
              have hx : byteV (UInt8.ofNat (j % 256)) = .int .u8 ((j % 256 : Nat) : Int) := by simp [byteV]
              have ew : IntKind.u8.wrap (j : Int) = ((j % 256 : Nat) : Int) := by simp [IntKind.wrap, IntKind.signed, IntKind.bits]
              have HP := hid (show Calls Try.prog 10 _ _ _ from many_no _ to wr j (.int .u8 ((j % 256 : Nat) : Int)) hp hz (.inl hok))
              clear hp hx
              go_wp2_with (go_at_call 10; refine HP.out.mono ?_; rintro e w3 ⟨rfl, p3, b3⟩; have P3 := hid p3; have B3 := hid (hbel.trans b3); clear p3 b3)
              go_roundw
              case rel => exact ⟨j + 1, by omega, by go_num, P3.out, B3.out⟩
              case measure => simp [intOf]; omega
            · have d3 : decide (0 ≤ to) = false := decide_eq_false h3
              have hx : byteV (UInt8.ofNat (j % 256)) = .int .u8 ((j % 256 : Nat) : Int) := by simp [byteV]
              have ew : IntKind.u8.wrap (j : Int) = ((j % 256 : Nat) : Int) := by simp [IntKind.wrap, IntKind.signed, IntKind.bits]
              have HP := hid (show Calls Try.prog 10 _ _ _ from many_no _ to wr j (.int .u8 ((j % 256 : Nat) : Int)) hp hz (.inl hok))
              clear hp hx
              go_wp2_with (go_at_call 10; refine HP.out.mono ?_; rintro e w3 ⟨rfl, p3, b3⟩; have P3 := hid p3; have B3 := hid (hbel.trans b3); clear p3 b3)
              go_roundw
              case rel => exact ⟨j + 1, by omega, by go_num, P3.out, B3.out⟩
              case measure => simp [intOf]; omega
          · have d2 : decide ((j : Int) < 200) = false := decide_eq_false (by omega)
            have hx : byteV (UInt8.ofNat (j % 256)) = .int .u8 ((j % 256 : Nat) : Int) := by simp [byteV]
            have ew : IntKind.u8.wrap (j : Int) = ((j % 256 : Nat) : Int) := by simp [IntKind.wrap, IntKind.signed, IntKind.bits]
            have HP := hid (show Calls Try.prog 10 _ _ _ from many_no _ to wr j (.int .u8 ((j % 256 : Nat) : Int)) hp hz (.inl hok))
            clear hp hx
            go_wp2_with (go_at_call 10; refine HP.out.mono ?_; rintro e w3 ⟨rfl, p3, b3⟩; have P3 := hid p3; have B3 := hid (hbel.trans b3); clear p3 b3)
            go_roundw
            case rel => exact ⟨j + 1, by omega, by go_num, P3.out, B3.out⟩
            case measure => simp [intOf]; omega
        · have hyes : 0 ≤ to ∧ to ≤ 8 := of_decide_eq_true hok
          have d3 : decide (0 ≤ to) = true := decide_eq_true hyes.1
          have d4 : decide (to ≤ 8) = true := decide_eq_true hyes.2
          by_cases h2 : j < 200
          · have d2 : decide ((j : Int) < 200) = true := decide_eq_true (by omega)
            have hx : byteV (UInt8.ofNat (j % 256)) = .int .u8 ((j % 256 : Nat) : Int) := by simp [byteV]
            have ew : IntKind.u8.wrap (j : Int) = ((j % 256 : Nat) : Int) := by simp [IntKind.wrap, IntKind.signed, IntKind.bits]
            have HP := hid (show Calls Try.prog 10 _ _ _ from many_yes _ to wr j _ _ hx hp hz hok (by omega))
            clear hp hx
            go_wp2_with (go_at_call 10; refine HP.out.mono ?_; rintro e w3 ⟨rfl, p3, b3⟩; have P3 := hid p3; have B3 := hid (hbel.trans b3); clear p3 b3)
            go_roundw
            case rel => exact ⟨j + 1, by omega, by go_num, P3.out, B3.out⟩
            case measure => simp [intOf]; omega
          · have d2 : decide ((j : Int) < 200) = false := decide_eq_false (by omega)
            have hx : byteV (UInt8.ofNat (j % 256)) = .int .u8 ((j % 256 : Nat) : Int) := by simp [byteV]
            have ew : IntKind.u8.wrap (j : Int) = ((j % 256 : Nat) : Int) := by simp [IntKind.wrap, IntKind.signed, IntKind.bits]
            have HP := hid (show Calls Try.prog 10 _ _ _ from many_no _ to wr j (.int .u8 ((j % 256 : Nat) : Int)) hp hz (.inr (by omega)))
            clear hp hx
            go_wp2_with (go_at_call 10; refine HP.out.mono ?_; rintro e w3 ⟨rfl, p3, b3⟩; have P3 := hid p3; have B3 := hid (hbel.trans b3); clear p3 b3)
            go_roundw
            case rel => exact ⟨j + 1, by omega, by go_num, P3.out, B3.out⟩
            case measure => simp [intOf]; omega
      · obtain rfl : j = N := by omega
        have ltd : decide ((j : Int) < (j : Int)) = false := decide_eq_false (by omega)
        obtain ⟨ra, rc, L, hpp, hl, ha⟩ := hp
        have hT := To_any _ _ ra rc L to wr hpp (by split at hl <;> omega)
        rw [idxT_all to L 0 ha] at hT
        have HL := hid (len_any _ ra L.length rc wr hpp.2.1)
        have HT := hid hT
        clear hT ha hpp
        by_cases h2 : j ≤ 200
        · have d2 : decide ((200 : Int) < (j : Int)) = false := decide_eq_false (by omega)
          cases hok : okN to
          · have hno : ¬ (0 ≤ to ∧ to ≤ 8) := of_decide_eq_false hok
            have hlj : L.length = 0 := by rw [hok] at hl; simpa using hl
            rw [hlj] at HL HT
            by_cases h3 : to < 0
            · have d3 : decide (to < 0) = true := decide_eq_true h3
              clear hl
              go_wp2_with fail
              refine HL.out.mono ?_
              rintro e w' ⟨rfl, rfl⟩
              go_wp2_with fail
              refine HT.out.mono ?_
              rintro e w5 ⟨a5, c5, rfl, o5, b5⟩
              have B5 := hid (kept_trans hbel b5)
              clear o5 b5 hbel
              go_wp2_with fail
              refine (lives_any _).mono ?_
              rintro e w8 ⟨rfl, b8⟩
              have B8 := hid (kept_trans B5.out b8)
              clear b8
              go_wp2_with fail
              go_ret
              exact ⟨rfl, B8.out⟩
            · have d3 : decide (to < 0) = false := decide_eq_false h3
              have d4 : decide (8 < to) = true := decide_eq_true (by omega)
              clear hl
              go_wp2_with fail
              refine HL.out.mono ?_
              rintro e w' ⟨rfl, rfl⟩
              go_wp2_with fail
              refine HT.out.mono ?_
              rintro e w5 ⟨a5, c5, rfl, o5, b5⟩
              have B5 := hid (kept_trans hbel b5)
              clear o5 b5 hbel
              go_wp2_with fail
              refine (lives_any _).mono ?_
              rintro e w8 ⟨rfl, b8⟩
              have B8 := hid (kept_trans B5.out b8)
              clear b8
              go_wp2_with fail
              go_ret
              exact ⟨rfl, B8.out⟩
          · have hyes : 0 ≤ to ∧ to ≤ 8 := of_decide_eq_true hok
            have d3 : decide (to < 0) = false := decide_eq_false (by omega)
            have d4 : decide (8 < to) = false := decide_eq_false (by omega)
            have hlj : L.length = j := by rw [hok] at hl; simp at hl; omega
            rw [hlj] at HL HT
            clear hl
            go_wp2_with fail
            refine HL.out.mono ?_
            rintro e w' ⟨rfl, rfl⟩
            go_wp2_with fail
            refine HT.out.mono ?_
            rintro e w5 ⟨a5, c5, rfl, o5, b5⟩
            have B5 := hid (kept_trans hbel b5)
            clear o5 b5 hbel
            go_wp2_with fail
            refine (lives_any _).mono ?_
            rintro e w8 ⟨rfl, b8⟩
            have B8 := hid (kept_trans B5.out b8)
            clear b8
            go_wp2_with fail
            go_ret
            exact ⟨rfl, B8.out⟩
        · have d2 : decide ((200 : Int) < (j : Int)) = true := decide_eq_true (by omega)
          cases hok : okN to
          · have hno : ¬ (0 ≤ to ∧ to ≤ 8) := of_decide_eq_false hok
            have hlj : L.length = 0 := by rw [hok] at hl; simpa using hl
            rw [hlj] at HL HT
            by_cases h3 : to < 0
            · have d3 : decide (to < 0) = true := decide_eq_true h3
              clear hl
              go_wp2_with fail
              refine HL.out.mono ?_
              rintro e w' ⟨rfl, rfl⟩
              go_wp2_with fail
              refine HT.out.mono ?_
              rintro e w5 ⟨a5, c5, rfl, o5, b5⟩
              have B5 := hid (kept_trans hbel b5)
              clear o5 b5 hbel
              go_wp2_with fail
              refine (lives_any _).mono ?_
              rintro e w8 ⟨rfl, b8⟩
              have B8 := hid (kept_trans B5.out b8)
              clear b8
              go_wp2_with fail
              go_ret
              exact ⟨rfl, B8.out⟩
            · have d3 : decide (to < 0) = false := decide_eq_false h3
              have d4 : decide (8 < to) = true := decide_eq_true (by omega)
              clear hl
              go_wp2_with fail
              refine HL.out.mono ?_
              rintro e w' ⟨rfl, rfl⟩
              go_wp2_with fail
              refine HT.out.mono ?_
              rintro e w5 ⟨a5, c5, rfl, o5, b5⟩
              have B5 := hid (kept_trans hbel b5)
              clear o5 b5 hbel
              go_wp2_with fail
              refine (lives_any _).mono ?_
              rintro e w8 ⟨rfl, b8⟩
              have B8 := hid (kept_trans B5.out b8)
              clear b8
              go_wp2_with fail
              go_ret
              exact ⟨rfl, B8.out⟩
          · have hyes : 0 ≤ to ∧ to ≤ 8 := of_decide_eq_true hok
            have d3 : decide (to < 0) = false := decide_eq_false (by omega)
            have d4 : decide (8 < to) = false := decide_eq_false (by omega)
            have hlj : L.length = 200 := by rw [hok] at hl; simp at hl; omega
            rw [hlj] at HL HT
            clear hl
            go_wp2_with fail
            refine HL.out.mono ?_
            rintro e w' ⟨rfl, rfl⟩
            go_wp2_with fail
            refine HT.out.mono ?_
            rintro e w5 ⟨a5, c5, rfl, o5, b5⟩
            have B5 := hid (kept_trans hbel b5)
            clear o5 b5 hbel
            go_wp2_with fail
            refine (lives_any _).mono ?_
            rintro e w8 ⟨rfl, b8⟩
            have B8 := hid (kept_trans B5.out b8)
            clear b8
            go_wp2_with fail
            go_ret
            exact ⟨rfl, B8.out⟩
end Go.Proofs.Ytgigadjohjpdkaa
