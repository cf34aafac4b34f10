/- the document's open, file (sx/psF.py) -/
import Derived.Test.YtpdjnefgkcmdnaaGreatDoorPxI
import Derived.Test.YtpdjnefgkcmdnaaGreatDoorSxU
import Derived.Test.YtpdjnefgkcmdnaaGreatDoorPxZ
namespace Go.Proofs.YtpdjnefgkcmdnaaGreatDoor
open Go.RowKit
set_option linter.unusedSimpArgs false
set_option linter.unusedVariables false
set_option maxRecDepth 100000

def SmS (F : FsM) : Prop := F.N.length ≤ 900 ∧ F.E.length ≤ 900 ∧ F.O.length ≤ 900
theorem SmS.sm {F : FsM} (h : SmS F) : SmF F := ⟨by have := h.1; omega, by have := h.2.1; omega, by have := h.2.2; omega⟩
theorem SmS.node {F : FsM} (h : SmS F) (b : Bool) : SmF (nodeF F b) := ⟨by rw [nodeF_len]; have := h.1; omega, by have := h.2.1; show F.E.length ≤ _; omega, by have := h.2.2; show F.O.length ≤ _; omega⟩
theorem freeF_step {F : FsM} {c : Int} {i : Nat} (h : freeF F c = ((List.range 8).drop i).find? fun fd : Nat => (lookO F.O c (fd : Int)).isNone) (hi : i < 8) (hs : (lookO F.O c (i : Int)).isSome = true) : freeF F c = ((List.range 8).drop (i + 1)).find? fun fd : Nat => (lookO F.O c (fd : Int)).isNone := by
 rw [h, List.drop_eq_getElem_cons (by rw [List.length_range]; exact hi), List.getElem_range, List.find?_cons]
 cases hq : lookO F.O c (i : Int) with
 | none => rw [hq] at hs; cases hs
 | some m => rfl
theorem freeF_full {F : FsM} {c : Int} {i : Nat} (h : freeF F c = ((List.range 8).drop i).find? fun fd : Nat => (lookO F.O c (fd : Int)).isNone) (hi : 8 ≤ i) : freeF F c = none := by
 rw [h, List.drop_eq_nil_of_le (by rw [List.length_range]; exact hi)]; rfl
theorem freeF_at {F : FsM} {c : Int} {i : Nat} (h : freeF F c = ((List.range 8).drop i).find? fun fd : Nat => (lookO F.O c (fd : Int)).isNone) (hi : i < 8) (hs : (lookO F.O c (i : Int)).isSome = false) : freeF F c = some i := by
 rw [h, List.drop_eq_getElem_cons (by rw [List.length_range]; exact hi), List.getElem_range, List.find?_cons]
 cases hq : lookO F.O c (i : Int) with
 | none => rfl
 | some m => rw [hq] at hs; cases hs
end Go.Proofs.YtpdjnefgkcmdnaaGreatDoor
