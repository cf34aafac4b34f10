/- Packets in transit: Lose. -/
import Derived.Test.YtgigadjohjpdkaaNetL
namespace Go.Proofs.Ytgigadjohjpdkaa
open Go.RowKit
set_option linter.unusedSimpArgs false
set_option linter.unusedVariables false

theorem grown_refl21 (w : World) (r : Option Nat) : w.grownBy w r := ⟨rfl, rfl, rfl, Nat.le_refl _, fun _ _ _ => rfl⟩
theorem grown_trans21 {w w1 w2 : World} {r : Option Nat} (a : w.grownBy w1 r) (b : w1.grownBy w2 r) : w.grownBy w2 r :=
  ⟨b.os.trans a.os, b.tape.trans a.tape, b.output.trans a.output, Nat.le_trans a.size b.size, fun k hk hne => (b.block k (Nat.lt_of_lt_of_le hk a.size) hne).trans (a.block k hk hne)⟩
theorem grown_below21 {w w' : World} (b : Below w.heap.size w w') (r : Option Nat) : w.grownBy w' r := ⟨b.os, b.tape, b.output, b.size, fun k hk _ => b.block k hk⟩

theorem run_clear_pks (w : World) (ty : TypeId) (b o c n : Nat) (hn : 0 < n) (hc : ∀ j, j < n * 2 → (w.cell? ⟨b, o + j, none⟩).isSome = true) (hf : ∀ j, j < n * 2 → w.frozen? ⟨b, o + j, none⟩ = false) :
    ∃ Z : List Value, Z.length = n * 2 ∧ (Builtin.clear_ #[44] ty #[.slice (some ⟨b, o, none⟩) n c]).run Try.prog w = .ok (.tuple #[]) (w.setCells b o Z) := by
  have hv := Try.zeroValue56
  obtain ⟨m, rfl⟩ : ∃ m, n = m + 1 := ⟨n - 1, by omega⟩
  have hl : (Builtin.zeroCells (Value.agg #[.int .i64 0, .slice none 0 0]).cells (m + 1)).toList.length = (m + 1) * 2 := by
    rw [Array.length_toList]; exact size_zeroCells _ _
  have h1 : ∀ v ∈ (Builtin.zeroCells (Value.agg #[.int .i64 0, .slice none 0 0]).cells (m + 1)).toList, v.oneCell' = true := by
    intro v hv'
    unfold Builtin.zeroCells at hv'
    simp only [Array.toList_map, List.mem_map] at hv'
    obtain ⟨i, _, rfl⟩ := hv'
    show (((#[.int .i64 0, .slice none 0 0] : Array Value)[i % 2]!).oneCell') = true
    have : i % 2 < 2 := Nat.mod_lt _ (by omega)
    rcases (show i % 2 = 0 ∨ i % 2 = 1 by omega) with h | h <;> rw [h] <;> rfl
  refine ⟨_, hl, ?_⟩
  generalize hZ : (Builtin.zeroCells (Value.agg #[.int .i64 0, .slice none 0 0]).cells (m + 1)).toList = Z at *
  have hst := run_storeCells_cells (P := Try.prog) b o Z 0 w (by rw [hl]; simpa using hc) (by rw [hl]; simpa using hf) h1
  simp only [Nat.add_zero] at hst
  simp [Builtin.clear_, run_underlying Try.underlying44, hv, hZ, hst]

/-- where the first packet to a node stands, or -1 -/
def ixF (node : Int) : List PkT → Nat → Int
  | [], _ => -1
  | p :: r, j => if p.to = node then (j : Int) else ixF node r (j + 1)
theorem ixF_none (node : Int) : ∀ (L : List PkT) (j : Nat), ixF node L j = -1 → L.filter (fun p => !decide (p.to = node)) = L
  | [], _, _ => rfl
  | p :: r, j, h => by
    unfold ixF at h
    by_cases hp : p.to = node
    · rw [if_pos hp] at h; omega
    · rw [if_neg hp] at h
      rw [List.filter_cons_of_pos (by simp [hp]), ixF_none node r (j + 1) h]
theorem ixF_some (node : Int) : ∀ (L : List PkT) (j : Nat), ixF node L j ≠ -1 → ∃ i, i < L.length ∧ ixF node L j = ((j + i : Nat) : Int) ∧ (∀ h : i < L.length, L[i].to = node) ∧ (L.take i).filter (fun p => !decide (p.to = node)) = L.take i
  | [], _, h => absurd rfl h
  | p :: r, j, h => by
    unfold ixF at h ⊢
    by_cases hp : p.to = node
    · rw [if_pos hp]
      exact ⟨0, by simp, rfl, fun _ => hp, rfl⟩
    · rw [if_neg hp] at h ⊢
      obtain ⟨i, h1, h2, h3, h4⟩ := ixF_some node r (j + 1) h
      refine ⟨i + 1, by simp; omega, by rw [h2]; congr 1; omega, fun h => ?_, ?_⟩
      · exact h3 (by simpa using h)
      · rw [List.take_succ_cons, List.filter_cons_of_pos (by simp [hp]), h4]

set_option maxHeartbeats 2000000 in
theorem index_pk (a : Option Addr) (c : Nat) (L : List PkT) (node : Int) (Nb : Nat) (w : World) (ha : Row w 2 a L.length c (L.flatMap pkC)) (hb : Blk w Nb 3 [.int .i64 node]) (hn9 : L.length ≤ 1000) :
    Calls Try.prog 28 #[.slice a L.length c, .func (.func 27) #[] #[.pointer (some ⟨Nb, 0, none⟩)]] w fun e w' => e = .returned (.int .i64 (ixF node L 0)) ∧ Below w.heap.size w w' := by
  obtain ⟨R, hR⟩ : ∃ R, R = ixF node L 0 := ⟨_, rfl⟩
  rw [← hR]
  have HR := hid (show ixF node (L.drop 0) 0 = R by rw [hR]; rfl)
  have HROW := hid ha
  have HB := hid hb
  clear hR ha hb
  go_enter Try.func28, Try.ntmps28
  go_wp2_with fail
  go_loopw [8] (fun i wr => ∃ j : Nat, j ≤ L.length ∧ i = .int .i64 j ∧ ixF node (L.drop j) j = R ∧ Below w.heap.size w wr) (fun i _ => L.length - (intOf i).toNat)
  case atStart => exact ⟨0, by omega, rfl, HR.out, Below.refl _ _⟩
  case round =>
    obtain ⟨j, hj, rfl, hp, hbel⟩ := hrel
    by_cases hlt : j < L.length
    · obtain ⟨b, off, e, hbl, hc⟩ := row_flat (enc := pkC) (fun _ => rfl) (HROW.out.mono hbel) (by omega)
      subst e
      have hc0 : wr.cell? ⟨b, off + j * 2, none⟩ = some (.int .i64 L[j].to) := hc j hlt 0 _ rfl
      have hc1 : wr.cell? ⟨b, off + j * 2 + 1, none⟩ = some (.slice L[j].a L[j].xs.length L[j].c) := hc j hlt 1 _ rfl
      have hcap : L.length ≤ c := HROW.out.2.1
      have hc9 := HROW.out.2.2.1
      have ltd : decide ((j : Int) < (L.length : Int)) = true := decide_eq_true (by omega)
      rw [List.drop_eq_getElem_cons hlt] at hp
      simp only [ixF] at hp
      have HI := hid (toIn_any L[j].to node (.slice L[j].a L[j].xs.length L[j].c) Nb wr (HB.out.mono hbel) rfl)
      have HBL := hid hbel
      clear hc hbel
      generalize L[j].a = pa at *
      generalize L[j].xs.length = pl at *
      generalize L[j].c = pc at *
      by_cases hto : L[j].to = node
      · rw [decide_eq_true hto] at HI
        rw [if_pos hto] at hp
        have HP := hid hp
        clear hp hto HR
        generalize L[j].to = to at *
        go_wp2_with (go_at_call 27; refine HI.out.mono ?_; rintro e w1 ⟨rfl, b1⟩; have B1 := hid b1; clear b1)
        go_ret
        exact ⟨ret_int HP.out, kept_trans HBL.out B1.out⟩
      · rw [decide_eq_false hto] at HI
        rw [if_neg hto] at hp
        have HP := hid hp
        clear hp hto HR
        generalize L[j].to = to at *
        go_wp2_with (go_at_call 27; refine HI.out.mono ?_; rintro e w1 ⟨rfl, b1⟩; have B1 := hid b1; clear b1)
        go_roundw
        case rel => exact ⟨j + 1, by omega, by go_num, HP.out, kept_trans HBL.out B1.out⟩
        case measure => simp [intOf]; omega
    · obtain rfl : j = L.length := by omega
      rw [List.drop_length] at hp
      have HP := hid hp
      have HBL := hid hbel
      have ltd : decide ((L.length : Int) < (L.length : Int)) = false := decide_eq_false (by omega)
      clear hp HR hbel
      go_wp2_with fail
      go_ret
      exact ⟨ret_int HP.out, HBL.out⟩

/-- the row while packets are deleted: the first i places hold what is kept of the first j packets, those from j on are as they were -/
def DelR (g c : Nat) (node : Int) (L : List PkT) (C : List Value) (w0 : World) (i j : Nat) (wr : World) : Prop :=
  ∃ C', Blk wr g 56 C' ∧ C'.length = c * 2 ∧ C'.take (i * 2) = ((L.take j).filter (fun p => !decide (p.to = node))).flatMap pkC ∧ ((L.take j).filter (fun p => !decide (p.to = node))).length = i ∧ C'.drop (j * 2) = C.drop (j * 2) ∧ w0.grownBy wr (some g)

theorem take_succ21 (L : List PkT) (j : Nat) (hj : j < L.length) (node : Int) : (L.take (j + 1)).filter (fun p => !decide (p.to = node)) = (L.take j).filter (fun p => !decide (p.to = node)) ++ (if L[j].to = node then [] else [L[j]]) := by
  rw [List.take_succ_eq_append_getElem hj, List.filter_append]
  congr 1
  by_cases h : L[j].to = node
  · rw [if_pos h]; simp [h]
  · rw [if_neg h]; simp [h]
theorem DelR.skip {g c : Nat} {node : Int} {L : List PkT} {C : List Value} {w0 wr wr' : World} {i j : Nat} (h : DelR g c node L C w0 i j wr) (hj : j < L.length) (hto : L[j].to = node) (b : Below wr.heap.size wr wr') : DelR g c node L C w0 i (j + 1) wr' := by
  obtain ⟨C', h1, h2, h3, h4, h5, h6⟩ := h
  have e := take_succ21 L j hj node
  rw [if_pos hto, List.append_nil] at e
  refine ⟨C', h1.mono b, h2, by rw [e]; exact h3, by rw [e]; exact h4, ?_, grown_trans21 h6 (grown_below21 b _)⟩
  rw [show (j + 1) * 2 = j * 2 + 2 by omega, ← List.drop_drop, h5, List.drop_drop]
theorem DelR.keep {g c : Nat} {node : Int} {L : List PkT} {C : List Value} {w0 wr wr' : World} {i j : Nat} (h : DelR g c node L C w0 i j wr) (hj : j < L.length) (hij : i < j) (hjc : L.length ≤ c) (hto : L[j].to ≠ node) (b : Below wr.heap.size wr wr') :
    DelR g c node L C w0 (i + 1) (j + 1) ((wr'.setCell ⟨g, i * 2, none⟩ (.int .i64 L[j].to)).setCell ⟨g, i * 2 + 1, none⟩ (.slice L[j].a L[j].xs.length L[j].c)) := by
  obtain ⟨C', h1, h2, h3, h4, h5, h6⟩ := h
  have e := take_succ21 L j hj node
  rw [if_neg hto] at e
  obtain ⟨k1, k2⟩ := Blk.setCells (pkC L[j]) (i * 2) wr' C' (h1.mono b) (by show i * 2 + 2 ≤ _; omega)
  refine ⟨_, k1, by rw [length_splice _ _ _ (by show i * 2 + 2 ≤ _; omega), h2], ?_, ?_, ?_, grown_trans21 (grown_trans21 h6 (grown_below21 b _)) k2⟩
  · rw [e, List.flatMap_append, ← h3]
    unfold splice
    rw [← List.append_assoc, List.take_left' (by rw [List.length_append, List.length_take]; show min _ _ + 2 = _; omega)]
    simp [List.flatMap_cons]
  · rw [e, List.length_append, h4]; rfl
  · have hp2 : (pkC L[j]).length = 2 := rfl
    unfold splice
    rw [hp2, List.drop_append, List.length_take, List.drop_of_length_le (by rw [List.length_take]; omega), List.nil_append, List.drop_append, hp2, List.drop_of_length_le (by rw [hp2]; omega), List.nil_append, List.drop_drop]
    rw [show i * 2 + 2 + ((j + 1) * 2 - min (i * 2) C'.length - 2) = j * 2 + 2 by omega, ← List.drop_drop, h5, List.drop_drop]
    congr 1
    omega
end Go.Proofs.Ytgigadjohjpdkaa
