/- PlogEncodes. -/
import Derived.Test.YtkhhoognemjibaaDoorPlgEr
import Derived.Test.YtkhhoognemjibaaDoorPlgFw
import Derived.Test.YtkhhoognemjibaaDoorPlgMf
import Derived.Test.YtkhhoognemjibaaDoorPlgX
namespace Go.Proofs.YtkhhoognemjibaaDoor
open Go.RowKit
set_option linter.unusedSimpArgs false
set_option linter.unusedVariables false
set_option maxRecDepth 100000

theorem cutP_len (n d : Nat) (L : List PtM) : (cutP n d L).length ≤ n := by unfold cutP; rw [List.length_map, List.length_take]; omega
theorem cutP_ok {n d : Nat} {L : List PtM} (h : okPts L) : okPts (cutP n d L) := by
  intro p hp
  unfold cutP at hp
  obtain ⟨q, hq, rfl⟩ := List.mem_map.1 hp
  exact h q (List.mem_of_mem_take hq)
theorem cutP_d {n d : Nat} {L : List PtM} : ∀ p ∈ cutP n d L, p.d.length ≤ d := by
  intro p hp
  unfold cutP at hp
  obtain ⟨q, hq, rfl⟩ := List.mem_map.1 hp
  show (q.d.take d).length ≤ d
  rw [List.length_take]; omega

set_option maxHeartbeats 4000000 in
theorem PlogEncodes_walk (w : World) (a : Option Addr) (c : Nat) (L : List PtM) (r : RowPt w a c L) (k : inPts L) :
    Calls Tryd.prog 3 #[.slice a L.length c] w fun e w' => e = .returned (.bool true) ∧ Below w.heap.size w w' := by
  have hF := hid (few_any r (Nat.le_trans k.2.2 (by unfold maxLen; omega)))
  obtain ⟨K, hK⟩ : ∃ K, K = cutP 70 300 L := ⟨_, rfl⟩
  have okK : okPts K := by rw [hK]; exact cutP_ok k.1
  have lenK : K.length ≤ 70 := by rw [hK]; exact cutP_len _ _ _
  rw [← hK] at hF
  obtain ⟨E, hE⟩ : ∃ E, E = encL K := ⟨_, rfl⟩
  obtain ⟨n, hn⟩ : ∃ n, n = encE K := ⟨_, rfl⟩
  have hEl : E.length ≤ 20000 := by rw [hE]; exact encL_len
  have HE1 : Hid (∀ W a1 c1, RowPt W a1 c1 K → Calls Tryd.prog 10 #[.slice a1 K.length c1] W fun e w' => ∃ ba bc, e = .returned (.tuple #[.slice ba E.length bc, .int .i64 n]) ∧ OwnB w' W.heap.size ba bc E ∧ Below W.heap.size W w') :=
    hid (fun W a1 c1 h => by rw [hE, hn]; exact encode_any h okK (by omega))
  have HE2 : Hid (∀ W a1 c1, RowPt W a1 c1 K → Calls Tryd.prog 11 #[.slice a1 K.length c1] W fun e w' => ∃ ba bc, e = .returned (.tuple #[.slice ba E.length bc, .int .i64 n]) ∧ OwnB w' W.heap.size ba bc E ∧ Below W.heap.size W w') :=
    hid (fun W a1 c1 h => by rw [hE, hn]; exact encodeR_any h okK (by omega))
  have HS : Hid (∀ W a1 c1 a2 c2, RowB W a1 c1 E → RowB W a2 c2 E → Calls Tryd.prog 12 #[.slice a1 E.length c1, .slice a2 E.length c2] W fun e w' => e = .returned (.bool true) ∧ Below W.heap.size W w') :=
    hid (fun W a1 c1 a2 c2 h1 h2 => (same_any a1 a2 c1 c2 E E W h1 h2 (by omega) (by omega)).mono fun e w' z => by rw [decide_eq_true rfl] at z; exact z)
  clear hE hn hK k
  go_enter Tryd.func3, Tryd.ntmps3
  go_wp2_with fail
  refine hF.out.mono ?_
  rintro e w1 ⟨la, lc, rfl, o1, b1⟩
  have R1 := hid (Own.row o1); have B1 := hid b1
  clear o1 b1
  go_wp2_with fail
  refine (HE1.out w1 la lc R1.out).mono ?_
  rintro e w2 ⟨ba, bc, rfl, o2, b2⟩
  have R2 := hid (Row.mono R1.out b2); have P2 := hid (Own.row o2); have B2 := hid (kept_trans B1.out b2)
  clear o2 b2
  go_wp2_with fail
  refine (HE2.out w2 la lc R2.out).mono ?_
  rintro e w3 ⟨da, dc, rfl, o3, b3⟩
  have P3 := hid (Row.mono P2.out b3); have Q3 := hid (Own.row o3); have B3 := hid (kept_trans B2.out b3)
  clear o3 b3
  go_wp2_with fail
  refine (HS.out w3 ba bc da dc P3.out Q3.out).mono ?_
  rintro e w4 ⟨rfl, b4⟩
  have B4 := hid (kept_trans B3.out b4)
  clear b4
  go_wp2_with fail
  refine (lives08_any _).mono ?_
  rintro e w5 ⟨rfl, b5⟩
  have B5 := hid (kept_trans B4.out b5)
  clear b5
  go_wp2_with fail
  go_ret
  exact ⟨rfl, B5.out⟩
end Go.Proofs.YtkhhoognemjibaaDoor
