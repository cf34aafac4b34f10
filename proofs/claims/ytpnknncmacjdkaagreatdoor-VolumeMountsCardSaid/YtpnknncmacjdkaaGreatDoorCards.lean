/-
  DERIVED. GIVEN WITH THE SEED: THE CARDS: each row of YtpnknncmacjdkaaGreatDoorRows.lean that lists a variable, with what it lists TIED to the program's text (the seventh form; the later family's looks); each row that meets fmt, with fmt's text TOLD by the authors' own Lean function (tested against real Go, not proved from fmt's source: count such statements apart). THE CARD IS WHAT COUNTS. Prove the row's statement (the work); the ties are given (YtpnknncmacjdkaaGreatDoorTie.lean); close each card by the builder's one call (the guide's Derived/Test/ToyasCard.lean, 'card_holds'). Laid BY PROGRAM, IN A SANDBOX (cutbox-door.mjs). By AI agents, Wed Nov 11 2026. No macro, syntax, notation, axiom, sorry.
-/
import Derived.Test.YtpnknncmacjdkaaGreatDoorRows
import GoSem.ClaimSeven
namespace Go.Proofs.YtpnknncmacjdkaaGreatDoor
namespace Rows

/-- THE TIED CARD OF 'commonslaw17.VolumeMounts'. -/
def volumeMountsCard : Claim7 := { stood := { row := volumeMountsRow, standIns := [], harness := (true, "35f23cbbc2fc97b36be6bfa318f7376f4466e077cf46689e403d907e9e949c88"), looks := false }, kinds := [], alts := [], laidByText := true, laidKinds := [.data, .pinned], laidTests := true, laidLooks := .later }
def VolumeMountsCardSaid : Prop := Claim7.holds Tryz.pinned (.plain (OpenSpec.ofChange volumeMountsSpec)) volumeMountsCard

/-- THE SECOND FORM's CARD OF 'commonslaw17.VolumeMounts'. -/
def volumeMountsUptoCard : Claim7 := { stood := { row := volumeMountsUptoRow, standIns := [], harness := (true, "35f23cbbc2fc97b36be6bfa318f7376f4466e077cf46689e403d907e9e949c88"), looks := false }, kinds := [], alts := [], laidByText := true, laidKinds := [.data, .pinned], laidTests := true, laidLooks := .later }
def VolumeMountsUptoCardSaid : Prop := Claim7.holds Tryz.pinned (.plain (OpenSpec.upto volumeMountsSpec)) volumeMountsUptoCard
end Rows
end Go.Proofs.YtpnknncmacjdkaaGreatDoor
