/- The statements of stage 12: lives. -/
import Derived.Test.YtejfkjfidhdfaaaDirG
namespace Go.Proofs.Ytejfkjfidhdfaaa
open Go.RowKit Go.Shelf
set_option linter.unusedSimpArgs false
set_option linter.unusedVariables false

set_option maxHeartbeats 400000 in
set_option maxRecDepth 100000 in
theorem lives12_any (w : World) : Calls Try.prog 16 #[] w fun e w' => e = .returned (.bool true) ∧ Below w.heap.size w w' := by
  obtain ⟨z, hz⟩ : ∃ z, z = zeroT := ⟨_, rfl⟩
  obtain ⟨u, hu⟩ : ∃ u, u = oneT := ⟨_, rfl⟩
  have hz16 : z.length = 16 := by rw [hz]; exact zero_len
  have hu16 : u.length = 16 := by rw [hu]; exact one_len
  have hzl : (tabC z).length = 32 := tab_len hz16
  have H1 := fun w1 => l1 w1
  have H2 := fun w1 => l2 w1
  have H3 := fun w1 => l3 w1
  have H4 := fun w1 => l4 w1
  have H5 := fun w1 => l5 w1
  rw [← hz] at H1 H2
  rw [← hu] at H2 H3 H4 H5
  have HZE := hid hz
  have H1 := hid H1; have H2 := hid H2; have H3 := hid H3; have H4 := hid H4; have H5 := hid H5
  have HZ := hid hz16; have HU := hid hu16; have HL := hid hzl
  clear hz hu hz16 hu16 hzl
  go_enter Try.func16, Try.ntmps16
  go_wp2_with (first
    | ((with_reducible refine wpl_buildT HZE.out rfl rfl ?_))
    | ((with_reducible refine wpl_allocT HZE.out rfl rfl ?_); intro w1 k1 b1 s1; have K1 := hid k1; have B1 := hid b1; clear k1 b1 s1)
    | ((with_reducible refine wpl_storeT rfl _ _ rfl w.heap.size rfl z HZ.out rfl K1.out HL.out ?_); intro w2 k2 g2; have K2 := hid k2; have B2 := hid (below_grownS B1.out g2 (Nat.le_refl _) B1.out.size); clear k2 g2)
    | (with_reducible refine wpl_loadT rfl _ rfl w.heap.size rfl z HZ.out K2.out ?_)
    | (go_at_call 14; fail))
  refine (H1.out w2).mono ?_
  rintro e w3 ⟨rfl, b3⟩
  have K3 := hid (K2.out.mono b3)
  have B3 := hid (kept_trans B2.out b3)
  clear b3
  go_wp2_with (first
    | (with_reducible refine wpl_loadT rfl _ rfl w.heap.size rfl z HZ.out K3.out ?_)
    | (go_at_call 17; fail))
  refine (H2.out w3).mono ?_
  rintro e w4 ⟨rfl, b4⟩
  have K4 := hid (K3.out.mono b4)
  have B4 := hid (kept_trans B3.out b4)
  clear b4
  go_wp2_with (first
    | ((with_reducible refine wpl_storeT rfl _ _ rfl w.heap.size rfl u HU.out rfl K4.out HL.out ?_); intro w5 k5 g5; have K5 := hid k5; have B5 := hid (below_grownS B4.out g5 (Nat.le_refl _) B4.out.size); clear k5 g5)
    | (with_reducible refine wpl_loadGT (by kernel_rfl) _ rfl w.heap.size rfl u HU.out K5.out ?_)
    | (go_at_call 12; fail))
  refine (H3.out w5).mono ?_
  rintro e w6 ⟨rfl, b6⟩
  have K6 := hid (K5.out.mono b6)
  have B6 := hid (kept_trans B5.out b6)
  clear b6
  go_wp2_with (first
    | (with_reducible refine wpl_loadGT (by kernel_rfl) _ rfl w.heap.size rfl u HU.out K6.out ?_)
    | (go_at_call 14; fail))
  refine (H4.out w6).mono ?_
  rintro e w7 ⟨rfl, b7⟩
  have K7 := hid (K6.out.mono b7)
  have B7 := hid (kept_trans B6.out b7)
  clear b7
  go_wp2_with (first
    | (with_reducible refine wpl_loadGT (by kernel_rfl) _ rfl w.heap.size rfl u HU.out K7.out ?_)
    | (go_at_call 12; fail))
  refine (H5.out w7).mono ?_
  rintro e w8 ⟨rfl, b8⟩
  have B8 := hid (kept_trans B7.out b8)
  clear b8
  go_wp2_with fail
  go_ret
  exact ⟨rfl, B8.out⟩
end Go.Proofs.Ytejfkjfidhdfaaa
