/-
  DERIVED. GIVEN WITH THE SEED: THE CARDS: each row of YthiplgahhejmcaaGreatDoorRows.lean that lists a variable, with what it lists TIED to the program's text (the seventh form; the later family's looks); each row that meets fmt, with fmt's text TOLD by the authors' own Lean function (tested against real Go, not proved from fmt's source: count such statements apart). THE CARD IS WHAT COUNTS. Prove the row's statement (the work); the ties are given (YthiplgahhejmcaaGreatDoorTie.lean); close each card by the builder's one call (the guide's Derived/Test/ToyasCard.lean, 'card_holds'). Laid BY PROGRAM, IN A SANDBOX (cutbox-door.mjs). By AI agents, Wed Nov 11 2026. No macro, syntax, notation, axiom, sorry.
-/
import Derived.Test.YthiplgahhejmcaaGreatDoorRows
import GoSem.ClaimSeven
namespace Go.Proofs.YthiplgahhejmcaaGreatDoor
namespace Rows

/-- THE TIED CARD OF 'commonslaw14.MetaSets'. -/
def metaSetsCard : Claim7 := { stood := { row := metaSetsRow, standIns := [], harness := (true, "0edcf0b047a184b0530c76448f6dd1516105feca49a4969f9adfb2acc04029d2"), looks := false }, kinds := [], alts := [], laidByText := true, laidKinds := [.data, .pinned], laidTests := true, laidLooks := .later }
def MetaSetsCardSaid : Prop := Claim7.holds Tryz.pinned (.plain (OpenSpec.ofChange metaSetsSpec)) metaSetsCard

/-- THE TIED CARD OF 'commonslaw14.MetaBlocks'. -/
def metaBlocksCard : Claim7 := { stood := { row := metaBlocksRow, standIns := [], harness := (true, "0edcf0b047a184b0530c76448f6dd1516105feca49a4969f9adfb2acc04029d2"), looks := false }, kinds := [], alts := [], laidByText := true, laidKinds := [.data, .pinned], laidTests := true, laidLooks := .later }
def MetaBlocksCardSaid : Prop := Claim7.holds Tryz.pinned (.plain (OpenSpec.ofChange metaBlocksSpec)) metaBlocksCard

/-- THE TIED CARD OF 'commonslaw14.MetaFormats'. -/
def metaFormatsCard : Claim7 := { stood := { row := metaFormatsRow, standIns := [], harness := (true, "0edcf0b047a184b0530c76448f6dd1516105feca49a4969f9adfb2acc04029d2"), looks := false }, kinds := [], alts := [], laidByText := true, laidKinds := [.data, .pinned], laidTests := true, laidLooks := .later }
def MetaFormatsCardSaid : Prop := Claim7.holds Tryz.pinned (.plain (OpenSpec.ofChange metaFormatsSpec)) metaFormatsCard

/-- THE SECOND FORM's CARD OF 'commonslaw14.MetaSets'. -/
def metaSetsUptoCard : Claim7 := { stood := { row := metaSetsUptoRow, standIns := [], harness := (true, "0edcf0b047a184b0530c76448f6dd1516105feca49a4969f9adfb2acc04029d2"), looks := false }, kinds := [], alts := [], laidByText := true, laidKinds := [.data, .pinned], laidTests := true, laidLooks := .later }
def MetaSetsUptoCardSaid : Prop := Claim7.holds Tryz.pinned (.plain (OpenSpec.upto metaSetsSpec)) metaSetsUptoCard

/-- THE SECOND FORM's CARD OF 'commonslaw14.MetaBlocks'. -/
def metaBlocksUptoCard : Claim7 := { stood := { row := metaBlocksUptoRow, standIns := [], harness := (true, "0edcf0b047a184b0530c76448f6dd1516105feca49a4969f9adfb2acc04029d2"), looks := false }, kinds := [], alts := [], laidByText := true, laidKinds := [.data, .pinned], laidTests := true, laidLooks := .later }
def MetaBlocksUptoCardSaid : Prop := Claim7.holds Tryz.pinned (.plain (OpenSpec.upto metaBlocksSpec)) metaBlocksUptoCard

/-- THE SECOND FORM's CARD OF 'commonslaw14.MetaFormats'. -/
def metaFormatsUptoCard : Claim7 := { stood := { row := metaFormatsUptoRow, standIns := [], harness := (true, "0edcf0b047a184b0530c76448f6dd1516105feca49a4969f9adfb2acc04029d2"), looks := false }, kinds := [], alts := [], laidByText := true, laidKinds := [.data, .pinned], laidTests := true, laidLooks := .later }
def MetaFormatsUptoCardSaid : Prop := Claim7.holds Tryz.pinned (.plain (OpenSpec.upto metaFormatsSpec)) metaFormatsUptoCard
end Rows
end Go.Proofs.YthiplgahhejmcaaGreatDoor
