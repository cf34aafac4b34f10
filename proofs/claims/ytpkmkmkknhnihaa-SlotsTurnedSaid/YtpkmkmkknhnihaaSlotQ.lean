import Derived.Test.YtpkmkmkknhnihaaSlotP
namespace Go.Proofs.Ytpkmkmkknhnihaa
open Go.RowKit
set_option linter.unusedSimpArgs false
set_option linter.unusedVariables false

set_option maxHeartbeats 8000000 in
theorem SlotsTurned_walk (w : World) (e h r er i wr : Int) (hw : (Lit.int .i64 e).wf = true ∧ (Lit.int .i64 h).wf = true ∧ (Lit.int .i64 r).wf = true ∧ (Lit.int .i64 er).wf = true ∧ (Lit.int .i64 i).wf = true ∧ (Lit.int .i64 wr).wf = true)
    (at_ : Int) (hat : (Lit.int .i64 at_).wf = true) (x : Int) (hx : (Lit.int .u8 x).wf = true) :
    Calls Try.prog 7 #[slotV e h r er i wr, .int .i64 at_, .int .u8 x] w fun e w' => e = .returned (.bool true) ∧ Below w.heap.size w w' := by
  clear hw
  have hab := i64_bd hat
  have hxb := u8_bd hx
  clear hat hx
  have pt := fun w1 => putS_any e h r er i wr w1
  by_cases hm : mayS e h r er i wr = true
  case neg =>
    simp only [hm, if_false] at pt
    unfold slotV at *
    have PT := hid pt
    clear hm pt
    generalize slotL e h r er i wr = L at *
    go_enter Try.func7, Try.ntmps7
    have A0 := (Below.refl w.heap.size w).alloc (Nat.le_refl _) (.cells #[.int .i64 e, .int .i64 h, .int .i64 r, .int .i64 er, .int .i64 i, .int .i64 wr] 26)
    go_wp2_with fail
    generalize w.alloc _ = u0 at *
    refine (PT.out u0).mono ?_
    rintro en w1 ⟨a1, c1, rfl, o1, d1⟩
    have b1 := below_trans A0 d1 A0.size
    clear A0 d1 o1
    go_wp2_with fail
    refine (lives13_any w1).mono ?_
    rintro en w11 ⟨rfl, d11⟩
    go_wp2_with fail
    go_ret
    exact ⟨rfl, below_trans b1 d11 b1.size⟩
  case pos =>
  have hL : slotL e h r er i wr = sealF (foldF [] (slotF e h r er i wr)) := by unfold slotL; rw [if_pos hm]
  have hl := slotL_length hm
  simp only [hm, if_true, hl] at pt
  have turned := fun (m : Nat) (X : UInt8) (h1 : m < 64) (h2 : X ≠ 0) => rsE_turned (slotBody_le e h r er i wr) (m := m) (x := X) h1 h2
  rw [← hL] at turned
  unfold slotV at *
  generalize slotL e h r er i wr = L at *
  obtain ⟨X, rfl⟩ := Int.eq_ofNat_of_zero_le hxb.1
  have hX : X < 256 := by omega
  have HL := hid hl
  have PT := hid pt
  clear hm hL pt
  by_cases hx0 : X = 0
  · subst hx0
    clear turned
    go_enter Try.func7, Try.ntmps7
    have A0 := (Below.refl w.heap.size w).alloc (Nat.le_refl _) (.cells #[.int .i64 e, .int .i64 h, .int .i64 r, .int .i64 er, .int .i64 i, .int .i64 wr] 26)
    go_wp2_with fail
    generalize w.alloc _ = u0 at *
    refine (PT.out u0).mono ?_
    rintro en w1 ⟨a1, c1, rfl, o1, d1⟩
    have b1 := below_trans A0 d1 A0.size
    clear A0 d1 o1 hl
    go_wp2_with fail
    refine (lives13_any w1).mono ?_
    rintro en w11 ⟨rfl, d11⟩
    go_wp2_with fail
    go_ret
    exact ⟨rfl, below_trans b1 d11 b1.size⟩
  have hx0' : ¬ ((X : Int) = 0) := by omega
  obtain ⟨A, hA, hAlt⟩ : ∃ A : Nat, (if at_ < 0 then -(at_ + 1) else at_) % 64 = (A : Int) ∧ A < 64 := by
    have h1 := Int.emod_nonneg (if at_ < 0 then -(at_ + 1) else at_) (by omega : (64 : Int) ≠ 0)
    have h2 := Int.emod_lt_of_pos (if at_ < 0 then -(at_ + 1) else at_) (by omega : (0 : Int) < 64)
    obtain ⟨A, e⟩ := Int.eq_ofNat_of_zero_le h1
    exact ⟨A, e, by omega⟩
  have TU := hid (turned A (UInt8.ofNat X) hAlt (by
    intro e
    have := congrArg UInt8.toNat e
    simp at this; omega))
  clear turned
  have hAi : (A : Int) < 64 := by omega
  have hA0 : (0 : Int) ≤ (A : Int) := by omega
  have hlen : L.length ≤ 64 := by omega
  have hlen' : 64 ≤ L.length := by omega
  clear hl
  rcases (by omega : at_ < 0 ∨ 0 ≤ at_) with h0 | h0
  all_goals
    first
      | (rw [if_pos h0] at hA
         replace hA := neg_tmod_of' h0 (by omega) hA)
      | rw [if_neg (by omega)] at hA
    go_enter Try.func7, Try.ntmps7
    have A0 := (Below.refl w.heap.size w).alloc (Nat.le_refl _) (.cells #[.int .i64 e, .int .i64 h, .int .i64 r, .int .i64 er, .int .i64 i, .int .i64 wr] 26)
    go_wp2_with fail
    generalize w.alloc _ = u0 at *
    refine (PT.out u0).mono ?_
    rintro en w1 ⟨a1, c1, rfl, o1, d1⟩
    have b1 := below_trans A0 d1 A0.size
    have r1 := o1.row
    obtain ⟨g, o', rfl, _, _⟩ := r1.at (by omega)
    have ho' : o' = 0 := by
      rcases o1.2 with ⟨h, _⟩ | ⟨_, _, _, h, _⟩ <;> cases h; rfl
    subst ho'
    obtain ⟨Z, hblk, hBg, hZ, hZc⟩ := own_bytes o1
    obtain ⟨_, _, e0, _, hcell⟩ := r1.bytes (by omega)
    cases e0
    have hc0 := hcell A (by omega)
    rw [Nat.zero_add] at hc0
    have hf0 := hblk.frozen A
    have hxb0 := bAt_lt L A
    have hBg' : w.heap.size ≤ g := Nat.le_trans A0.size hBg
    clear A0 d1 o1 hcell r1
    have HBLK := hid hblk; clear hblk
    go_wp2_with fail
    have hb2 := set_blk HBLK.out (A := A) (by omega) (L.getD A 0 ^^^ UInt8.ofNat X)
    rw [xor_byte L A hX] at hb2
    have b2 : Below w.heap.size w (w1.setCell ⟨g, A, none⟩ (.int .u8 (bits BinOp.xor IntKind.u8 (bAt L A : Int) (X : Int)))) := b1.setCell hBg' (.int .u8 (bits BinOp.xor IntKind.u8 (bAt L A : Int) (X : Int)))
    clear hc0 hf0 HBLK b1
    generalize World.setCell _ _ _ = w2 at *
    have ls : (L.set A (L.getD A 0 ^^^ UInt8.ofNat X)).length = 64 := by rw [List.length_set]; exact HL.out
    obtain ⟨e2, h2, r2, er2, i2, wr2, v1⟩ := rsV_slot (L.set A (L.getD A 0 ^^^ UInt8.ofNat X))
    have rd := readS_any (some ⟨g, 0, none⟩) c1 (L.set A (L.getD A 0 ^^^ UInt8.ofNat X)) w2 (blk_row hb2 (by rw [List.length_set]; exact hZc) (by omega))
    rw [v1, TU.out, ls] at rd
    unfold slotV at rd
    refine rd.mono ?_
    rintro en w3 ⟨rfl, d3⟩
    have b3 := below_trans b2 d3 b2.size
    have b4 := hid (b3.alloc b3.size (.cells #[.int .i64 e2, .int .i64 h2, .int .i64 r2, .int .i64 er2, .int .i64 i2, .int .i64 wr2] 26))
    clear rd hb2 b2 d3 b3 ls v1
    go_wp2_with fail
    have b5 := b4.out
    generalize w3.alloc _ = w5 at *
    refine (lives13_any w5).mono ?_
    rintro en w11 ⟨rfl, d11⟩
    go_wp2_with fail
    go_ret
    exact ⟨rfl, below_trans b5 d11 b5.size⟩

end Go.Proofs.Ytpkmkmkknhnihaa
