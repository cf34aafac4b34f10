/-
  DERIVED. GIVEN WITH THE SEED: THE CARDS: each row of YtcanemamnmmbcaaGreatDoorRows.lean that lists a variable, with what it lists TIED to the program's text (the seventh form; the later family's looks); each row that meets fmt, with fmt's text TOLD by the authors' own Lean function (tested against real Go, not proved from fmt's source: count such statements apart). THE CARD IS WHAT COUNTS. Prove the row's statement (the work); the ties are given (YtcanemamnmmbcaaGreatDoorTie.lean); close each card by the builder's one call (the guide's Derived/Test/ToyasCard.lean, 'card_holds'). Laid BY PROGRAM, IN A SANDBOX (cutbox-door.mjs). By AI agents, Wed Nov 11 2026. No macro, syntax, notation, axiom, sorry.
-/
import Derived.Test.YtcanemamnmmbcaaGreatDoorRows
import GoSem.ClaimSeven
namespace Go.Proofs.YtcanemamnmmbcaaGreatDoor
namespace Rows

/-- THE TIED CARD OF 'commonslaw06.PosixPlays'. -/
def posixPlaysCard : Claim7 := { stood := { row := posixPlaysRow, standIns := [], harness := (true, "3b79b2a2017b35716cd12d2d9e9d46cb097a38b3ac14562742d5eae8a01e50ce"), looks := false }, kinds := [], alts := [], laidByText := true, laidKinds := [.data, .pinned], laidTests := true, laidLooks := .later }
def PosixPlaysCardSaid : Prop := Claim7.holds Tryz.pinned (.plain (OpenSpec.ofChange posixPlaysSpec)) posixPlaysCard

/-- THE TIED CARD OF 'commonslaw06.PosixRefuses'. -/
def posixRefusesCard : Claim7 := { stood := { row := posixRefusesRow, standIns := [], harness := (true, "3b79b2a2017b35716cd12d2d9e9d46cb097a38b3ac14562742d5eae8a01e50ce"), looks := false }, kinds := [], alts := [], laidByText := true, laidKinds := [.data, .pinned], laidTests := true, laidLooks := .later }
def PosixRefusesCardSaid : Prop := Claim7.holds Tryz.pinned (.plain (OpenSpec.ofChange posixRefusesSpec)) posixRefusesCard

/-- THE TIED CARD OF 'commonslaw06.PosixCopies'. -/
def posixCopiesCard : Claim7 := { stood := { row := posixCopiesRow, standIns := [], harness := (true, "3b79b2a2017b35716cd12d2d9e9d46cb097a38b3ac14562742d5eae8a01e50ce"), looks := false }, kinds := [], alts := [], laidByText := true, laidKinds := [.data, .pinned], laidTests := true, laidLooks := .later }
def PosixCopiesCardSaid : Prop := Claim7.holds Tryz.pinned (.plain (OpenSpec.ofChange posixCopiesSpec)) posixCopiesCard

/-- THE TIED CARD OF 'commonslaw06.PosixSame'. -/
def posixSameCard : Claim7 := { stood := { row := posixSameRow, standIns := [], harness := (true, "3b79b2a2017b35716cd12d2d9e9d46cb097a38b3ac14562742d5eae8a01e50ce"), looks := false }, kinds := [], alts := [], laidByText := true, laidKinds := [.data, .pinned], laidTests := true, laidLooks := .later }
def PosixSameCardSaid : Prop := Claim7.holds Tryz.pinned (.plain (OpenSpec.ofChange posixSameSpec)) posixSameCard

/-- THE TIED CARD OF 'commonslaw06.PosixReads'. -/
def posixReadsCard : Claim7 := { stood := { row := posixReadsRow, standIns := [], harness := (true, "3b79b2a2017b35716cd12d2d9e9d46cb097a38b3ac14562742d5eae8a01e50ce"), looks := false }, kinds := [], alts := [], laidByText := true, laidKinds := [.data, .pinned], laidTests := true, laidLooks := .later }
def PosixReadsCardSaid : Prop := Claim7.holds Tryz.pinned (.plain (OpenSpec.ofChange posixReadsSpec)) posixReadsCard

/-- THE TIED CARD OF 'commonslaw06.PosixFds'. -/
def posixFdsCard : Claim7 := { stood := { row := posixFdsRow, standIns := [], harness := (true, "3b79b2a2017b35716cd12d2d9e9d46cb097a38b3ac14562742d5eae8a01e50ce"), looks := false }, kinds := [], alts := [], laidByText := true, laidKinds := [.data, .pinned], laidTests := true, laidLooks := .later }
def PosixFdsCardSaid : Prop := Claim7.holds Tryz.pinned (.plain (OpenSpec.ofChange posixFdsSpec)) posixFdsCard

/-- THE TIED CARD OF 'commonslaw06.PosixNames'. -/
def posixNamesCard : Claim7 := { stood := { row := posixNamesRow, standIns := [], harness := (true, "3b79b2a2017b35716cd12d2d9e9d46cb097a38b3ac14562742d5eae8a01e50ce"), looks := false }, kinds := [], alts := [], laidByText := true, laidKinds := [.data, .pinned], laidTests := true, laidLooks := .later }
def PosixNamesCardSaid : Prop := Claim7.holds Tryz.pinned (.plain (OpenSpec.ofChange posixNamesSpec)) posixNamesCard

/-- THE TIED CARD OF 'commonslaw06.PosixRenames'. -/
def posixRenamesCard : Claim7 := { stood := { row := posixRenamesRow, standIns := [], harness := (true, "3b79b2a2017b35716cd12d2d9e9d46cb097a38b3ac14562742d5eae8a01e50ce"), looks := false }, kinds := [], alts := [], laidByText := true, laidKinds := [.data, .pinned], laidTests := true, laidLooks := .later }
def PosixRenamesCardSaid : Prop := Claim7.holds Tryz.pinned (.plain (OpenSpec.ofChange posixRenamesSpec)) posixRenamesCard

/-- THE SECOND FORM's CARD OF 'commonslaw06.PosixPlays'. -/
def posixPlaysUptoCard : Claim7 := { stood := { row := posixPlaysUptoRow, standIns := [], harness := (true, "3b79b2a2017b35716cd12d2d9e9d46cb097a38b3ac14562742d5eae8a01e50ce"), looks := false }, kinds := [], alts := [], laidByText := true, laidKinds := [.data, .pinned], laidTests := true, laidLooks := .later }
def PosixPlaysUptoCardSaid : Prop := Claim7.holds Tryz.pinned (.plain (OpenSpec.upto posixPlaysSpec)) posixPlaysUptoCard

/-- THE SECOND FORM's CARD OF 'commonslaw06.PosixRefuses'. -/
def posixRefusesUptoCard : Claim7 := { stood := { row := posixRefusesUptoRow, standIns := [], harness := (true, "3b79b2a2017b35716cd12d2d9e9d46cb097a38b3ac14562742d5eae8a01e50ce"), looks := false }, kinds := [], alts := [], laidByText := true, laidKinds := [.data, .pinned], laidTests := true, laidLooks := .later }
def PosixRefusesUptoCardSaid : Prop := Claim7.holds Tryz.pinned (.plain (OpenSpec.upto posixRefusesSpec)) posixRefusesUptoCard

/-- THE SECOND FORM's CARD OF 'commonslaw06.PosixCopies'. -/
def posixCopiesUptoCard : Claim7 := { stood := { row := posixCopiesUptoRow, standIns := [], harness := (true, "3b79b2a2017b35716cd12d2d9e9d46cb097a38b3ac14562742d5eae8a01e50ce"), looks := false }, kinds := [], alts := [], laidByText := true, laidKinds := [.data, .pinned], laidTests := true, laidLooks := .later }
def PosixCopiesUptoCardSaid : Prop := Claim7.holds Tryz.pinned (.plain (OpenSpec.upto posixCopiesSpec)) posixCopiesUptoCard

/-- THE SECOND FORM's CARD OF 'commonslaw06.PosixSame'. -/
def posixSameUptoCard : Claim7 := { stood := { row := posixSameUptoRow, standIns := [], harness := (true, "3b79b2a2017b35716cd12d2d9e9d46cb097a38b3ac14562742d5eae8a01e50ce"), looks := false }, kinds := [], alts := [], laidByText := true, laidKinds := [.data, .pinned], laidTests := true, laidLooks := .later }
def PosixSameUptoCardSaid : Prop := Claim7.holds Tryz.pinned (.plain (OpenSpec.upto posixSameSpec)) posixSameUptoCard

/-- THE SECOND FORM's CARD OF 'commonslaw06.PosixReads'. -/
def posixReadsUptoCard : Claim7 := { stood := { row := posixReadsUptoRow, standIns := [], harness := (true, "3b79b2a2017b35716cd12d2d9e9d46cb097a38b3ac14562742d5eae8a01e50ce"), looks := false }, kinds := [], alts := [], laidByText := true, laidKinds := [.data, .pinned], laidTests := true, laidLooks := .later }
def PosixReadsUptoCardSaid : Prop := Claim7.holds Tryz.pinned (.plain (OpenSpec.upto posixReadsSpec)) posixReadsUptoCard

/-- THE SECOND FORM's CARD OF 'commonslaw06.PosixFds'. -/
def posixFdsUptoCard : Claim7 := { stood := { row := posixFdsUptoRow, standIns := [], harness := (true, "3b79b2a2017b35716cd12d2d9e9d46cb097a38b3ac14562742d5eae8a01e50ce"), looks := false }, kinds := [], alts := [], laidByText := true, laidKinds := [.data, .pinned], laidTests := true, laidLooks := .later }
def PosixFdsUptoCardSaid : Prop := Claim7.holds Tryz.pinned (.plain (OpenSpec.upto posixFdsSpec)) posixFdsUptoCard

/-- THE SECOND FORM's CARD OF 'commonslaw06.PosixNames'. -/
def posixNamesUptoCard : Claim7 := { stood := { row := posixNamesUptoRow, standIns := [], harness := (true, "3b79b2a2017b35716cd12d2d9e9d46cb097a38b3ac14562742d5eae8a01e50ce"), looks := false }, kinds := [], alts := [], laidByText := true, laidKinds := [.data, .pinned], laidTests := true, laidLooks := .later }
def PosixNamesUptoCardSaid : Prop := Claim7.holds Tryz.pinned (.plain (OpenSpec.upto posixNamesSpec)) posixNamesUptoCard

/-- THE SECOND FORM's CARD OF 'commonslaw06.PosixRenames'. -/
def posixRenamesUptoCard : Claim7 := { stood := { row := posixRenamesUptoRow, standIns := [], harness := (true, "3b79b2a2017b35716cd12d2d9e9d46cb097a38b3ac14562742d5eae8a01e50ce"), looks := false }, kinds := [], alts := [], laidByText := true, laidKinds := [.data, .pinned], laidTests := true, laidLooks := .later }
def PosixRenamesUptoCardSaid : Prop := Claim7.holds Tryz.pinned (.plain (OpenSpec.upto posixRenamesSpec)) posixRenamesUptoCard
end Rows
end Go.Proofs.YtcanemamnmmbcaaGreatDoor
