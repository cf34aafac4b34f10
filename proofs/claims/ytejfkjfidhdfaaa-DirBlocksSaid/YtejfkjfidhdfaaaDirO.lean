/- The statements of stage 12: DirBlocks. -/
import Derived.Test.YtejfkjfidhdfaaaDirN
namespace Go.Proofs.Ytejfkjfidhdfaaa
open Go.RowKit Go.Shelf
set_option linter.unusedSimpArgs false
set_option linter.unusedVariables false

theorem blockF_len {t : List EntT} (k : Int) : ((blockF t k).getD []).length ≤ 64 := by
  unfold blockF
  split
  · unfold blkO
    split
    · rename_i h
      have := flat_lenE _ h
      simp only [Option.getD_some]
      rw [this, List.length_take]; omega
    · simp
  · simp

set_option maxHeartbeats 1000000 in
set_option maxRecDepth 100000 in
theorem DirBlocks_walk (w : World) (a : Option Addr) (c : Nat) (L : List EntT) (r : RowE w a c L) (k : Int) (wk : (Lit.int .i64 k).wf = true) :
    Calls Try.prog 6 #[.slice a L.length c, .int .i64 k] w fun e w' => e = .returned (.bool true) ∧ Below w.heap.size w w' := by
  obtain ⟨z, hz⟩ : ∃ z, z = zeroT := ⟨_, rfl⟩
  have HZE := hid hz
  have HZ := hid (show z.length = 16 by rw [hz]; exact zero_len)
  have HL := hid (tab_len HZ.out)
  have HT := hid (tabE_len L)
  have HTab := hid (table_any a c L w r)
  clear hz r wk
  generalize tabE L = t at *
  have HB1 := (fun w1 => tblock_any t HT.out k w1)
  have HB2 := (fun g c w1 h => rblock_any t HT.out k g c w1 h)
  unfold RetO at HB1 HB2
  have hbl := blockF_len (t := t) k
  generalize blockF t k = o at *
  generalize (if o.isSome = true then (0 : Int) else 1) = er at *
  generalize o.getD [] = bs at *
  have hb9 : bs.length ≤ 9223372036854775807 := by omega
  have HB1 := hid HB1; have HB2 := hid HB2
  clear hbl
  go_enter Try.func6, Try.ntmps6
  go_wp2_with (go_at_call 10; fail)
  refine (HTab.out).mono ?_
  rintro e w1 ⟨g, c1, rfl, o1, b1⟩
  have hE1 := own_entAt HT.out o1
  have HE1 := hid hE1; have B1 := hid b1
  clear o1 b1 hE1
  go_wp2_with (first
    | ((with_reducible refine wpl_allocT (z := z) HZE.out rfl rfl ?_); intro w2 k2 b2 s2; have K2 := hid k2; have B2 := hid (kept_trans B1.out b2); have E2 := hid (HE1.out.mono b2); clear k2 b2 s2)
    | ((with_reducible refine wpl_storeT rfl _ _ rfl w1.heap.size rfl t HT.out rfl K2.out HL.out ?_); intro w3 k3 g3; have K3 := hid k3; have B3 := hid (below_grownS B2.out g3 B1.out.size B2.out.size); have G3 := hid g3; clear k3 g3)
    | (with_reducible refine wpl_loadT rfl _ rfl w1.heap.size rfl t HT.out K3.out ?_)
    | (go_at_call 26; fail))
  have E3 := hid (E2.out.grown G3.out (by have := HE1.out.1; omega))
  refine (HB1.out w3).mono ?_
  rintro e w4 ⟨a4, c4, rfl, o4, b4⟩
  have E4 := hid (E3.out.mono b4); have B4 := hid (kept_trans B3.out b4); have O4 := hid o4
  clear b4 o4
  go_wp2_with (go_at_call 27; fail)
  refine (HB2.out g c1 w4 E4.out).mono ?_
  rintro e w5 ⟨a5, c5, rfl, o5, b5⟩
  have O4' := hid (O4.out.mono b5); have B5 := hid (kept_trans B4.out b5); have O5 := hid o5
  clear b5 o5
  go_wp2_with (go_at_call 28; fail)
  refine (same_any a4 a5 c4 c5 bs bs w5 O4'.out.row O5.out.row hb9 hb9).mono ?_
  rintro e w6 ⟨rfl, b6⟩
  rw [decide_eq_true rfl]
  have B6 := hid (kept_trans B5.out b6)
  clear b6
  go_wp2_with (go_at_call 16; fail)
  refine (lives12_any w6).mono ?_
  rintro e w9 ⟨rfl, b9⟩
  go_wp2_with fail
  go_ret
  exact ⟨rfl, kept_trans B6.out b9⟩
end Go.Proofs.Ytejfkjfidhdfaaa
