/- The statements of stage 12: DirRound. -/
import Derived.Test.YtejfkjfidhdfaaaDirR
namespace Go.Proofs.Ytejfkjfidhdfaaa
open Go.RowKit Go.Shelf
set_option linter.unusedSimpArgs false
set_option linter.unusedVariables false

set_option maxHeartbeats 2000000 in
set_option maxRecDepth 100000 in
theorem DirRound_walk (w : World) (a : Option Addr) (c : Nat) (L : List EntT) (r : RowE w a c L) :
    Calls Try.prog 8 #[.slice a L.length c] w fun e w' => e = .returned (.bool true) ∧ Below w.heap.size w w' := by
  obtain ⟨z, hz⟩ : ∃ z, z = zeroT := ⟨_, rfl⟩
  have HZE := hid hz
  have HZ := hid (show z.length = 16 by rw [hz]; exact zero_len)
  have HL := hid (tab_len HZ.out)
  have HT := hid (tabE_len L)
  have HTab := hid (table_any a c L w r)
  clear hz r
  generalize tabE L = t at *
  go_enter Try.func8, Try.ntmps8
  go_wp2_with (go_at_call 10; fail)
  refine (HTab.out).mono ?_
  rintro e w1 ⟨g, c1, rfl, o1, b1⟩
  have B1 := hid b1
  clear o1 b1
  go_wp2_with (first
    | (have _t := K3; (with_reducible refine wpl_allocT (z := z) HZE.out rfl rfl ?_); intro w4 k4 b4 s4; have K4 := hid k4; have B4 := hid (kept_trans B3.out b4); have T4 := hid (K3.out.mono b4); clear k4 b4 s4)
    | ((with_reducible refine wpl_allocT (z := z) HZE.out rfl rfl ?_); intro w2 k2 b2 s2; have K2 := hid k2; have B2 := hid (kept_trans B1.out b2); clear k2 b2 s2)
    | ((with_reducible refine wpl_storeT rfl _ _ rfl w1.heap.size rfl t HT.out rfl K2.out HL.out ?_); intro w3 k3 g3; have K3 := hid k3; have B3 := hid (below_grownS B2.out g3 B1.out.size B2.out.size); have hlt := Nat.lt_of_lt_of_le K2.out.lt g3.size; clear k3 g3))
  have K4' := K4.out
  rw [HZE.out, ← backT_zero t] at K4'
  have hw1 : w.heap.size ≤ w1.heap.size := B1.out.size
  have hw3 : w.heap.size ≤ w3.heap.size := B3.out.size
  have hne : w1.heap.size ≠ w3.heap.size := by omega
  go_loopw [6] (fun i wr => ∃ j : Nat, j ≤ 4 ∧ i = .int .i64 j ∧ Blk wr w1.heap.size 26 (tabC t) ∧ Blk wr w3.heap.size 26 (tabC (backT t j)) ∧ Below w.heap.size w wr) (fun i _ => 4 - (intOf i).toNat)
  case atStart => exact ⟨0, by omega, rfl, T4.out, K4', B4.out⟩
  case round =>
    obtain ⟨j, hj, rfl, ht, hk, hb⟩ := hrel
    have T5 := hid ht; have K5 := hid hk; have B5 := hid hb
    clear ht hk hb T4 K4 K4' B4 K3 K2 B2 B3
    by_cases hj4 : j < 4
    · have ij : (j : Int) < 4 := by omega
      have dj : decide ((j : Int) < 4) = true := decide_eq_true ij
      have HB := fun w1 => tblock_any t HT.out (j : Int) w1
      unfold RetO at HB
      cases ho : blockF t (j : Int) with
      | none =>
        rw [ho] at HB
        simp only [Option.getD_none, Option.isSome_none, Bool.false_eq_true, if_false, List.length_nil] at HB
        have HB := hid HB
        clear ho
        go_wp2_with (first
          | (with_reducible refine wpl_loadT rfl _ rfl w1.heap.size rfl t HT.out T5.out ?_)
          | (go_at_call 26; refine (HB.out _).mono ?_; rintro e w6 ⟨a6, c6, rfl, o6, b6⟩; have B6 := hid (kept_trans B5.out b6); clear o6 b6)
          | (go_at_call 16; refine (lives12_any _).mono ?_; rintro e w7 ⟨rfl, b7⟩; have B7 := hid (kept_trans B6.out b7); clear b7))
        go_ret
        exact ⟨rfl, B7.out⟩
      | some bs =>
        obtain ⟨hrb, hb64⟩ := read_back HT.out hj4 ho
        rw [ho] at HB
        simp only [Option.getD_some, Option.isSome_some, if_true] at HB
        rw [hb64] at HB
        have HBK := hid (backT_len HT.out (k := j) (by omega))
        have HBK2 := hid (backT_len HT.out (k := j + 1) (by omega))
        have HRD := fun (a6 : Option Addr) (c6 : Nat) (w6 : World) (h : RowB w6 a6 c6 bs) => tread_any (backT t j) HBK.out (j : Int) a6 c6 bs w6 h
        rw [hrb, hb64] at HRD
        unfold ReadP at HRD
        have HB := hid HB; have HRD := hid HRD; have HBB := hid hb64
        clear ho hrb hb64
        generalize ht2 : backT t (j + 1) = t2 at *
        have HT2 := hid ht2
        clear ht2
        generalize backT t j = t1 at *
        go_wp2_with (first
          | (with_reducible refine wpl_loadT rfl _ rfl w1.heap.size rfl t HT.out T5.out ?_)
          | (go_at_call 26; refine (HB.out _).mono ?_; rintro e w6 ⟨a6, c6, rfl, o6, b6⟩; have B6 := hid (kept_trans B5.out b6); have T6 := hid (T5.out.mono b6); have K6 := hid (K5.out.mono b6); have R6 := hid o6.row; clear o6 b6)
          | (with_reducible refine wpl_loadT rfl _ rfl w3.heap.size rfl t1 HBK.out K6.out ?_)
          | (go_at_call 29; refine (HRD.out _ _ _ R6.out).mono ?_; rintro e w7 ⟨rfl, b7⟩; have B7 := hid (kept_trans B6.out b7); have T7 := hid (T6.out.mono b7); have K7 := hid (K6.out.mono b7); clear b7)
          | ((with_reducible refine wpl_allocT (z := z) HZE.out rfl rfl ?_); intro w8 k8 b8 s8; have N8 := hid k8; have B8 := hid (kept_trans B7.out b8); have T8 := hid (T7.out.mono b8); have K8 := hid (K7.out.mono b8); clear k8 b8 s8)
          | (have _t := N8; (with_reducible refine wpl_storeT rfl _ _ rfl w7.heap.size rfl t2 HBK2.out rfl N8.out HL.out ?_); intro w9 k9 g9; have N9 := hid k9; have B9 := hid (below_grownS B8.out g9 B7.out.size B8.out.size); have T9 := hid (T8.out.grownS g9 (by have := T7.out.lt; omega)); have K9 := hid (K8.out.grownS g9 (by have := K7.out.lt; omega)); clear N8 k9 g9)
          | (with_reducible refine wpl_loadT rfl _ rfl w7.heap.size rfl t2 HBK2.out N9.out ?_)
          | ((with_reducible refine wpl_storeT rfl _ _ rfl w3.heap.size rfl t2 HBK2.out rfl K9.out (tab_len HBK.out) ?_); intro w10 k10 g10; have K10 := hid k10; have B10 := hid (below_grownS B9.out g10 hw3 B9.out.size); have T10 := hid (T9.out.grownS g10 hne); clear k10 g10))
        go_roundw
        case rel => exact ⟨j + 1, by omega, by go_num, T10.out, by rw [HT2.out]; exact K10.out, B10.out⟩
        case measure => simp [intOf]; omega
    · obtain rfl : j = 4 := by omega
      have dj : decide (((4 : Nat) : Int) < 4) = false := by decide
      rw [backT_all HT.out] at K5
      have E := fun w1 => run_eqTab t w1 HT.out
      go_wp2_with (first
        | (with_reducible refine wpl_loadT rfl _ rfl w3.heap.size rfl t HT.out K5.out ?_)
        | (with_reducible refine wpl_loadT rfl _ rfl w1.heap.size rfl t HT.out T5.out ?_)
        | (go_at_call 16; refine (lives12_any _).mono ?_; rintro e w7 ⟨rfl, b7⟩; have B7 := hid (kept_trans B5.out b7); clear b7))
      go_ret
      exact ⟨rfl, B7.out⟩
end Go.Proofs.Ytejfkjfidhdfaaa
