/- PlogEncodes. -/
import Derived.Test.YtkhhoognemjibaaGreatDoorPlgEr
import Derived.Test.YtkhhoognemjibaaGreatDoorPlgFw
import Derived.Test.YtkhhoognemjibaaGreatDoorPlgMf
import Derived.Test.YtkhhoognemjibaaGreatDoorPlgX
namespace Go.Proofs.YtkhhoognemjibaaGreatDoor
open Go.RowKit
set_option linter.unusedSimpArgs false
set_option linter.unusedVariables false
set_option maxRecDepth 100000

theorem cutP_len (n d : Nat) (L : List PtM) : (cutP n d L).length ≤ n := by unfold cutP; rw [List.length_map, List.length_take]; omega
theorem cutP_ok {n d : Nat} {L : List PtM} (h : okPts L) : okPts (cutP n d L) := by
  intro p hp
  unfold cutP at hp
  obtain ⟨q, hq, rfl⟩ := List.mem_map.1 hp
  exact h q (List.mem_of_mem_take hq)
theorem cutP_d {n d : Nat} {L : List PtM} : ∀ p ∈ cutP n d L, p.d.length ≤ d := by
  intro p hp
  unfold cutP at hp
  obtain ⟨q, hq, rfl⟩ := List.mem_map.1 hp
  show (q.d.take d).length ≤ d
  rw [List.length_take]; omega
