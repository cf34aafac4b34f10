/-
  DERIVED. GIVEN WITH THE SEED: THE CARDS: each row of YtkhhoognemjibaaGreatDoorRows.lean that lists a variable, with what it lists TIED to the program's text (the seventh form; the later family's looks); each row that meets fmt, with fmt's text TOLD by the authors' own Lean function (tested against real Go, not proved from fmt's source: count such statements apart). THE CARD IS WHAT COUNTS. Prove the row's statement (the work); the ties are given (YtkhhoognemjibaaGreatDoorTie.lean); close each card by the builder's one call (the guide's Derived/Test/ToyasCard.lean, 'card_holds'). Laid BY PROGRAM, IN A SANDBOX (cutbox-door.mjs). By AI agents, Wed Nov 11 2026. No macro, syntax, notation, axiom, sorry.
-/
import Derived.Test.YtkhhoognemjibaaGreatDoorRows
import GoSem.ClaimSeven
namespace Go.Proofs.YtkhhoognemjibaaGreatDoor
namespace Rows

/-- THE TIED CARD OF 'commonslaw08.PlogPlays'. -/
def plogPlaysCard : Claim7 := { stood := { row := plogPlaysRow, standIns := [], harness := (true, "0f468480b921319557fa72b5e3013a87db5c924779fa1db8bf6b7b7c4fb51371"), looks := false }, kinds := [], alts := [], laidByText := true, laidKinds := [.data, .pinned], laidTests := true, laidLooks := .later }
def PlogPlaysCardSaid : Prop := Claim7.holds Tryz.pinned (.plain (OpenSpec.ofChange plogPlaysSpec)) plogPlaysCard

/-- THE TIED CARD OF 'commonslaw08.PlogLasts'. -/
def plogLastsCard : Claim7 := { stood := { row := plogLastsRow, standIns := [], harness := (true, "0f468480b921319557fa72b5e3013a87db5c924779fa1db8bf6b7b7c4fb51371"), looks := false }, kinds := [], alts := [], laidByText := true, laidKinds := [.data, .pinned], laidTests := true, laidLooks := .later }
def PlogLastsCardSaid : Prop := Claim7.holds Tryz.pinned (.plain (OpenSpec.ofChange plogLastsSpec)) plogLastsCard

/-- THE TIED CARD OF 'commonslaw08.PlogTorn'. -/
def plogTornCard : Claim7 := { stood := { row := plogTornRow, standIns := [], harness := (true, "0f468480b921319557fa72b5e3013a87db5c924779fa1db8bf6b7b7c4fb51371"), looks := false }, kinds := [], alts := [], laidByText := true, laidKinds := [.data, .pinned], laidTests := true, laidLooks := .later }
def PlogTornCardSaid : Prop := Claim7.holds Tryz.pinned (.plain (OpenSpec.ofChange plogTornSpec)) plogTornCard

/-- THE SECOND FORM's CARD OF 'commonslaw08.PlogPlays'. -/
def plogPlaysUptoCard : Claim7 := { stood := { row := plogPlaysUptoRow, standIns := [], harness := (true, "0f468480b921319557fa72b5e3013a87db5c924779fa1db8bf6b7b7c4fb51371"), looks := false }, kinds := [], alts := [], laidByText := true, laidKinds := [.data, .pinned], laidTests := true, laidLooks := .later }
def PlogPlaysUptoCardSaid : Prop := Claim7.holds Tryz.pinned (.plain (OpenSpec.upto plogPlaysSpec)) plogPlaysUptoCard

/-- THE SECOND FORM's CARD OF 'commonslaw08.PlogLasts'. -/
def plogLastsUptoCard : Claim7 := { stood := { row := plogLastsUptoRow, standIns := [], harness := (true, "0f468480b921319557fa72b5e3013a87db5c924779fa1db8bf6b7b7c4fb51371"), looks := false }, kinds := [], alts := [], laidByText := true, laidKinds := [.data, .pinned], laidTests := true, laidLooks := .later }
def PlogLastsUptoCardSaid : Prop := Claim7.holds Tryz.pinned (.plain (OpenSpec.upto plogLastsSpec)) plogLastsUptoCard

/-- THE SECOND FORM's CARD OF 'commonslaw08.PlogTorn'. -/
def plogTornUptoCard : Claim7 := { stood := { row := plogTornUptoRow, standIns := [], harness := (true, "0f468480b921319557fa72b5e3013a87db5c924779fa1db8bf6b7b7c4fb51371"), looks := false }, kinds := [], alts := [], laidByText := true, laidKinds := [.data, .pinned], laidTests := true, laidLooks := .later }
def PlogTornUptoCardSaid : Prop := Claim7.holds Tryz.pinned (.plain (OpenSpec.upto plogTornSpec)) plogTornUptoCard
end Rows
end Go.Proofs.YtkhhoognemjibaaGreatDoor
