import Derived.Test.YtmjdplnadclgnaaBitsB
namespace Go.Proofs.Ytmjdplnadclgnaa
open Go.RowKit Go.WideShapes
set_option linter.unusedSimpArgs false
set_option linter.unusedVariables false

theorem wpl_loadW {w : World} {ops : Array Oper} {rest : List Oper} {o : Oper} {act : Act} {Q : Exit → Act → World → Prop} (x : Operand)
    (ho : o.op = .load 24 x) (g : Nat) (hx : act.eval x = .pointer (some ⟨g, 0, none⟩)) {e : TypeId} (xs : List UInt8) (hl : xs.length = 16) (hb : Blk w g e (xs.map byteV))
    (hw : Region.wanted o (yielded ops act.tmps) = true)
    (h : wpList Try.prog ops Q rest (act.put o.dst (.agg (mapC xs))) w) : wpList Try.prog ops Q (o :: rest) act w :=
  wpList_step fun K hK => by
    simp only [hw, if_true]
    exact wp_load_mid 24 x ho g 0 hx (xs.map byteV) _ (blk_range hb) Try.underlying24 rfl (by rw [infoM]; simp [hl]) (hK _ _ h)

def firstFrom (xs : List UInt8) (frm : Int) : Nat → Nat → Int
  | 0, _ => 0
  | k + 1, i => if frm ≤ (i : Int) + 1 ∧ bitB xs i = false then (i : Int) + 1 else firstFrom xs frm k (i + 1)
def firstX (xs : List UInt8) (frm : Int) : Int := firstFrom xs frm 128 0
theorem first_step (xs : List UInt8) (frm : Int) {j : Nat} (h : j < 128) : firstFrom xs frm (128 - j) j = if frm ≤ (j : Int) + 1 ∧ bitB xs j = false then (j : Int) + 1 else firstFrom xs frm (128 - (j + 1)) (j + 1) := by
  rw [show 128 - j = (128 - (j + 1)) + 1 by omega]; rfl
theorem usedB_succ (xs : List UInt8) {j : Nat} (h : j < 128) : usedB xs ((j : Int) + 1) = bitB xs j := by
  unfold usedB; rw [decide_eq_true (by omega)]; simp

set_option maxHeartbeats 2000000 in
set_option maxRecDepth 100000 in
theorem first_any (xs : List UInt8) (frm : Int) (w : World) (hx : xs.length = 16) (hn : -9223372036854775808 ≤ frm ∧ frm ≤ 9223372036854775807) :
    Calls Try.prog 19 #[.agg (mapC xs), .int .i64 frm] w fun e w' => e = .returned (.int .i64 (firstX xs frm)) ∧ Below w.heap.size w w' := by
  have K0 : Blk (w.alloc (.cells (mapC xs) 24)) w.heap.size 24 (xs.map byteV) := heap_alloc_new w _
  have B0 : Below w.heap.size w (w.alloc (.cells (mapC xs) 24)) := (Below.refl _ w).alloc (Nat.le_refl _) _
  generalize hR : firstX xs frm = R
  have HR := hid (show firstFrom xs frm (128 - 0) 0 = R from hR)
  clear hR
  go_enter Try.func19, Try.ntmps19
  go_wp2_with fail
  generalize (w.alloc (.cells (mapC xs) 24)) = w1 at *
  go_loopw [7] (fun i wr => ∃ j : Nat, j ≤ 128 ∧ i = .int .i64 j ∧ firstFrom xs frm (128 - j) j = R ∧ Blk wr w.heap.size 24 (xs.map byteV) ∧ Below w.heap.size w wr)
    (fun i _ => 128 - (intOf i).toNat)
  case atStart => exact ⟨0, by omega, rfl, HR.out, K0, B0⟩
  case round =>
    obtain ⟨j, hj, rfl, hp, kr, br⟩ := hrel
    by_cases hlt : j < 128
    · rw [first_step xs frm hlt] at hp
      have HU := hid (fun w1 => used_any xs ((j : Int) + 1) w1 hx (by omega))
      rw [usedB_succ xs hlt] at HU
      by_cases hf : frm ≤ (j : Int) + 1
      · cases hb : bitB xs j
        · rw [if_pos ⟨hf, hb⟩] at hp
          rw [hb] at HU
          have HP := hid hp
          clear hb hp HR
          go_wp2_with (first
            | ((with_reducible refine wpl_loadW (.tmp 2) rfl w.heap.size rfl xs hx kr ?hw ?_); (case hw => exact (Eq.refl true)))
            | (go_at_call 16; refine (HU.out _).mono ?_; rintro e w2 ⟨rfl, b2⟩))
          go_ret
          exact ⟨ret_int HP.out, below_trans br b2 br.size⟩
        · rw [if_neg (by rw [hb]; simp)] at hp
          rw [hb] at HU
          have HP := hid hp
          clear hb hp HR
          go_wp2_with (first
            | ((with_reducible refine wpl_loadW (.tmp 2) rfl w.heap.size rfl xs hx kr ?hw ?_); (case hw => exact (Eq.refl true)))
            | (go_at_call 16; refine (HU.out _).mono ?_; rintro e w2 ⟨rfl, b2⟩))
          go_roundw
          case rel => exact ⟨j + 1, by omega, by go_num, HP.out, Blk.mono kr b2, below_trans br b2 br.size⟩
          case measure => simp [intOf]; omega
      · rw [if_neg (fun h => hf h.1)] at hp
        have HP := hid hp
        clear hp HR HU
        go_wp2_with fail
        go_roundw
        case rel => exact ⟨j + 1, by omega, by go_num, HP.out, kr, br⟩
        case measure => simp [intOf]; omega
    · obtain rfl : j = 128 := by omega
      have HP := hid hp
      clear hp HR
      go_wp2_with fail
      go_ret
      exact ⟨ret_int HP.out, br⟩

/-- the used blocks among the first n -/
def allX (xs : List UInt8) (n : Nat) : List Nat := (List.range n).filter (bitB xs)
def intV (n : Nat) : Value := .int .i64 ((n : Int) + 1)
theorem all_step (xs : List UInt8) (j : Nat) : allX xs (j + 1) = if bitB xs j = true then allX xs j ++ [j] else allX xs j := by
  unfold allX
  rw [List.range_succ, List.filter_append]
  cases h : bitB xs j <;> simp [h]
theorem all_len (xs : List UInt8) (j : Nat) : (allX xs j).length ≤ j := by
  unfold allX
  have := List.length_filter_le (bitB xs) (List.range j)
  simpa using this
theorem EI : ElemT Try.prog 39 3 1 8 := elemT Try.underlying39 (z := .int .i64 0) (by kernel_rfl) rfl (by omega)

set_option maxHeartbeats 2000000 in
set_option maxRecDepth 100000 in
theorem all_any (xs : List UInt8) (w : World) (hx : xs.length = 16) :
    Calls Try.prog 21 #[.agg (mapC xs)] w fun e w' => ∃ a c, e = .returned (.slice a (allX xs 128).length c) ∧ Own w' w.heap.size 3 1 a (allX xs 128).length c ((allX xs 128).map intV) ∧ Below w.heap.size w w' := by
  have K0 : Blk (w.alloc (.cells (mapC xs) 24)) w.heap.size 24 (xs.map byteV) := heap_alloc_new w _
  have B0 : Below w.heap.size w (w.alloc (.cells (mapC xs) 24)) := (Below.refl _ w).alloc (Nat.le_refl _) _
  go_enter Try.func21, Try.ntmps21
  go_wp2_with fail
  generalize (w.alloc (.cells (mapC xs) 24)) = w1 at *
  have hsz1 : w.heap.size + 1 ≤ w1.heap.size := K0.lt
  go_loopw [3, 5] (fun l i wr => ∃ (j : Nat) (a' : Option Addr) (c' : Nat), j ≤ 128 ∧ i = .int .i64 j ∧ l = .slice a' (allX xs j).length c' ∧ Own wr (w.heap.size + 1) 3 1 a' (allX xs j).length c' ((allX xs j).map intV) ∧ Blk wr w.heap.size 24 (xs.map byteV) ∧ Below w.heap.size w wr)
    (fun _ i _ => 128 - (intOf i).toNat)
  case atStart => exact ⟨0, none, 0, by omega, rfl, rfl, Own.nil _ _ _ _, K0, B0⟩
  case round =>
    obtain ⟨j, a', c', hj, rfl, rfl, ho, kr, br⟩ := hrel
    have hstep := all_step xs j
    have hll := all_len xs j
    by_cases hlt : j < 128
    · have HU := hid (fun w1 => used_any xs ((j : Int) + 1) w1 hx (by omega))
      rw [usedB_succ xs hlt] at HU
      cases hb : bitB xs j
      · rw [if_neg (by rw [hb]; simp)] at hstep
        rw [hb] at HU
        have HS := hid hstep
        clear hb hstep
        generalize allX xs j = L at *
        go_wp2_with (first
          | ((with_reducible refine wpl_loadM rfl (.tmp 1) rfl w.heap.size rfl xs hx kr ?_))
          | (go_at_call 16; refine (HU.out _).mono ?_; rintro e w2 ⟨rfl, b2⟩))
        go_roundw
        case rel => exact ⟨j + 1, a', c', by omega, by go_num, by rw [HS.out], by rw [HS.out]; exact Own.mono ho b2, Blk.mono kr b2, below_trans br b2 br.size⟩
        case measure => simp [intOf]; omega
      · rw [if_pos hb] at hstep
        rw [hb] at HU
        have HS := hid hstep
        clear hb hstep
        generalize allX xs j = L at *
        go_wp2_with (first
          | ((with_reducible refine wpl_loadM rfl (.tmp 1) rfl w.heap.size rfl xs hx kr ?_))
          | (go_at_call 16; refine (HU.out _).mono ?_; rintro e w2 ⟨rfl, b2⟩; have b2s := b2.size)
          | (at_builtin; refine wpl_append rfl (.tmp 12) (.tmp 15) rfl EI (w.heap.size + 1) rfl rfl ((Own.mono ho b2).alloc _) (row_new1 _ _ _) (by simp [Value.oneCell']) (by omega) (by omega) (by have := kr.lt; simp; omega) ?_; intro a3 c3 w3 o3 g3 b3))
        go_roundw
        case rel =>
          refine ⟨j + 1, a3, c3, by omega, by go_num, ?_, ?_, ?_, ?_⟩
          · rw [HS.out]; simp
          · rw [HS.out]; simpa [intV] using o3
          · exact Blk.below ((Blk.mono kr b2).mono ((Below.refl _ _).alloc (Nat.le_refl _) _)) b3 (by omega)
          · exact (below_trans br b2 br.size |>.alloc (by have := kr.lt; omega) _).trans (b3.mono (by omega))
        case measure => simp [intOf]; omega
    · obtain rfl : j = 128 := by omega
      clear hstep
      go_wp2_with fail
      go_ret
      exact ⟨_, _, rfl, ho.low (by omega), br⟩

set_option maxHeartbeats 1000000 in
theorem count_any (xs : List UInt8) (w : World) (hx : xs.length = 16) :
    Calls Try.prog 22 #[.agg (mapC xs)] w fun e w' => e = .returned (.int .i64 (allX xs 128).length) ∧ Below w.heap.size w w' := by
  have K0 : Blk (w.alloc (.cells (mapC xs) 24)) w.heap.size 24 (xs.map byteV) := heap_alloc_new w _
  have B0 : Below w.heap.size w (w.alloc (.cells (mapC xs) 24)) := (Below.refl _ w).alloc (Nat.le_refl _) _
  have HA := hid (fun w1 => all_any xs w1 hx)
  have hll := all_len xs 128
  generalize allX xs 128 = L at *
  go_enter Try.func22, Try.ntmps22
  go_wp2_with (first
    | ((with_reducible refine wpl_loadM rfl (.tmp 1) rfl w.heap.size rfl xs hx K0 ?_))
    | (go_at_call 21; refine (HA.out _).mono ?_; rintro e w2 ⟨a2, c2, rfl, o2, b2⟩))
  go_ret
  exact ⟨rfl, below_trans B0 b2 B0.size⟩

end Go.Proofs.Ytmjdplnadclgnaa
