/-
  DERIVED. GIVEN WITH THE SEED: THE CARDS: each row of YtbfgjinpchbajaaGreatDoorRows.lean that lists a variable, with what it lists TIED to the program's text (the seventh form; the later family's looks); each row that meets fmt, with fmt's text TOLD by the authors' own Lean function (tested against real Go, not proved from fmt's source: count such statements apart). THE CARD IS WHAT COUNTS. Prove the row's statement (the work); the ties are given (YtbfgjinpchbajaaGreatDoorTie.lean); close each card by the builder's one call (the guide's Derived/Test/ToyasCard.lean, 'card_holds'). Laid BY PROGRAM, IN A SANDBOX (cutbox-door.mjs). By AI agents, Wed Nov 11 2026. No macro, syntax, notation, axiom, sorry.
-/
import Derived.Test.YtbfgjinpchbajaaGreatDoorRows
import GoSem.ClaimSeven
namespace Go.Proofs.YtbfgjinpchbajaaGreatDoor
namespace Rows

/-- THE TIED CARD OF 'commonslaw15.FilesPlays'. -/
def filesPlaysCard : Claim7 := { stood := { row := filesPlaysRow, standIns := [], harness := (true, "87a868fbde6f946cc4155f5ec748564afb2294bc18b25d2f4d9e91a1a301edbe"), looks := false }, kinds := [], alts := [], laidByText := true, laidKinds := [.data, .pinned], laidTests := true, laidLooks := .later }
def FilesPlaysCardSaid : Prop := Claim7.holds Tryz.pinned (.plain (OpenSpec.ofChange filesPlaysSpec)) filesPlaysCard

/-- THE TIED CARD OF 'commonslaw15.FilesBlocks'. -/
def filesBlocksCard : Claim7 := { stood := { row := filesBlocksRow, standIns := [], harness := (true, "87a868fbde6f946cc4155f5ec748564afb2294bc18b25d2f4d9e91a1a301edbe"), looks := false }, kinds := [], alts := [], laidByText := true, laidKinds := [.data, .pinned], laidTests := true, laidLooks := .later }
def FilesBlocksCardSaid : Prop := Claim7.holds Tryz.pinned (.plain (OpenSpec.ofChange filesBlocksSpec)) filesBlocksCard

/-- THE TIED CARD OF 'commonslaw15.FilesSpace'. -/
def filesSpaceCard : Claim7 := { stood := { row := filesSpaceRow, standIns := [], harness := (true, "87a868fbde6f946cc4155f5ec748564afb2294bc18b25d2f4d9e91a1a301edbe"), looks := false }, kinds := [], alts := [], laidByText := true, laidKinds := [.data, .pinned], laidTests := true, laidLooks := .later }
def FilesSpaceCardSaid : Prop := Claim7.holds Tryz.pinned (.plain (OpenSpec.ofChange filesSpaceSpec)) filesSpaceCard

/-- THE TIED CARD OF 'commonslaw15.FilesElse'. -/
def filesElseCard : Claim7 := { stood := { row := filesElseRow, standIns := [], harness := (true, "87a868fbde6f946cc4155f5ec748564afb2294bc18b25d2f4d9e91a1a301edbe"), looks := false }, kinds := [], alts := [], laidByText := true, laidKinds := [.data, .pinned], laidTests := true, laidLooks := .later }
def FilesElseCardSaid : Prop := Claim7.holds Tryz.pinned (.plain (OpenSpec.ofChange filesElseSpec)) filesElseCard

/-- THE SECOND FORM's CARD OF 'commonslaw15.FilesPlays'. -/
def filesPlaysUptoCard : Claim7 := { stood := { row := filesPlaysUptoRow, standIns := [], harness := (true, "87a868fbde6f946cc4155f5ec748564afb2294bc18b25d2f4d9e91a1a301edbe"), looks := false }, kinds := [], alts := [], laidByText := true, laidKinds := [.data, .pinned], laidTests := true, laidLooks := .later }
def FilesPlaysUptoCardSaid : Prop := Claim7.holds Tryz.pinned (.plain (OpenSpec.upto filesPlaysSpec)) filesPlaysUptoCard

/-- THE SECOND FORM's CARD OF 'commonslaw15.FilesBlocks'. -/
def filesBlocksUptoCard : Claim7 := { stood := { row := filesBlocksUptoRow, standIns := [], harness := (true, "87a868fbde6f946cc4155f5ec748564afb2294bc18b25d2f4d9e91a1a301edbe"), looks := false }, kinds := [], alts := [], laidByText := true, laidKinds := [.data, .pinned], laidTests := true, laidLooks := .later }
def FilesBlocksUptoCardSaid : Prop := Claim7.holds Tryz.pinned (.plain (OpenSpec.upto filesBlocksSpec)) filesBlocksUptoCard

/-- THE SECOND FORM's CARD OF 'commonslaw15.FilesSpace'. -/
def filesSpaceUptoCard : Claim7 := { stood := { row := filesSpaceUptoRow, standIns := [], harness := (true, "87a868fbde6f946cc4155f5ec748564afb2294bc18b25d2f4d9e91a1a301edbe"), looks := false }, kinds := [], alts := [], laidByText := true, laidKinds := [.data, .pinned], laidTests := true, laidLooks := .later }
def FilesSpaceUptoCardSaid : Prop := Claim7.holds Tryz.pinned (.plain (OpenSpec.upto filesSpaceSpec)) filesSpaceUptoCard

/-- THE SECOND FORM's CARD OF 'commonslaw15.FilesElse'. -/
def filesElseUptoCard : Claim7 := { stood := { row := filesElseUptoRow, standIns := [], harness := (true, "87a868fbde6f946cc4155f5ec748564afb2294bc18b25d2f4d9e91a1a301edbe"), looks := false }, kinds := [], alts := [], laidByText := true, laidKinds := [.data, .pinned], laidTests := true, laidLooks := .later }
def FilesElseUptoCardSaid : Prop := Claim7.holds Tryz.pinned (.plain (OpenSpec.upto filesElseSpec)) filesElseUptoCard
end Rows
end Go.Proofs.YtbfgjinpchbajaaGreatDoor
