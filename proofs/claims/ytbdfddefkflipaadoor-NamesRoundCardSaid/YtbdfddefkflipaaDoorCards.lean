/-
  DERIVED. GIVEN WITH THE SEED: THE CARDS: each row of YtbdfddefkflipaaDoorRows.lean that lists a variable, with what it lists TIED to the program's text (the seventh form; the later family's looks); each row that meets fmt, with fmt's text TOLD by the authors' own Lean function (tested against real Go, not proved from fmt's source: count such statements apart). THE CARD IS WHAT COUNTS. Prove the row's statement (the work); the ties are given (YtbdfddefkflipaaDoorTie.lean); close each card by the builder's one call (the guide's Derived/Test/ToyasCard.lean, 'card_holds'). Laid BY PROGRAM, IN A SANDBOX (cutbox-door.mjs). By AI agents, Wed Nov 11 2026. No macro, syntax, notation, axiom, sorry.
-/
import Derived.Test.YtbdfddefkflipaaDoorRows
import GoSem.ClaimSeven
namespace Go.Proofs.YtbdfddefkflipaaDoor
namespace Rows

/-- THE TIED CARD OF 'commonslaw05.NamesMay'. -/
def namesMayCard : Claim7 := { stood := { row := namesMayRow, standIns := [], harness := (true, "e02bee0e97a8e8e6f3cba3a03cfb6277f66f32adc335eef28eea9103e1e20c41"), looks := false }, kinds := [], alts := [], laidByText := true, laidKinds := [.data, .pinned], laidTests := true, laidLooks := .later }
def NamesMayCardSaid : Prop := Claim7.holds Tryd.pinned (.plain (OpenSpec.ofChange namesMaySpec)) namesMayCard

/-- THE TIED CARD OF 'commonslaw05.NamesPaths'. -/
def namesPathsCard : Claim7 := { stood := { row := namesPathsRow, standIns := [], harness := (true, "e02bee0e97a8e8e6f3cba3a03cfb6277f66f32adc335eef28eea9103e1e20c41"), looks := false }, kinds := [], alts := [], laidByText := true, laidKinds := [.data, .pinned], laidTests := true, laidLooks := .later }
def NamesPathsCardSaid : Prop := Claim7.holds Tryd.pinned (.plain (OpenSpec.ofChange namesPathsSpec)) namesPathsCard

/-- THE TIED CARD OF 'commonslaw05.NamesParents'. -/
def namesParentsCard : Claim7 := { stood := { row := namesParentsRow, standIns := [], harness := (true, "e02bee0e97a8e8e6f3cba3a03cfb6277f66f32adc335eef28eea9103e1e20c41"), looks := false }, kinds := [], alts := [], laidByText := true, laidKinds := [.data, .pinned], laidTests := true, laidLooks := .later }
def NamesParentsCardSaid : Prop := Claim7.holds Tryd.pinned (.plain (OpenSpec.ofChange namesParentsSpec)) namesParentsCard

/-- THE TIED CARD OF 'commonslaw05.NamesJoins'. -/
def namesJoinsCard : Claim7 := { stood := { row := namesJoinsRow, standIns := [], harness := (true, "e02bee0e97a8e8e6f3cba3a03cfb6277f66f32adc335eef28eea9103e1e20c41"), looks := false }, kinds := [], alts := [], laidByText := true, laidKinds := [.data, .pinned], laidTests := true, laidLooks := .later }
def NamesJoinsCardSaid : Prop := Claim7.holds Tryd.pinned (.plain (OpenSpec.ofChange namesJoinsSpec)) namesJoinsCard

/-- THE TIED CARD OF 'commonslaw05.NamesRound'. -/
def namesRoundCard : Claim7 := { stood := { row := namesRoundRow, standIns := [], harness := (true, "e02bee0e97a8e8e6f3cba3a03cfb6277f66f32adc335eef28eea9103e1e20c41"), looks := false }, kinds := [], alts := [], laidByText := true, laidKinds := [.data, .pinned], laidTests := true, laidLooks := .later }
def NamesRoundCardSaid : Prop := Claim7.holds Tryd.pinned (.plain (OpenSpec.ofChange namesRoundSpec)) namesRoundCard

/-- THE TIED CARD OF 'commonslaw05.NamesHashes'. -/
def namesHashesCard : Claim7 := { stood := { row := namesHashesRow, standIns := [], harness := (true, "e02bee0e97a8e8e6f3cba3a03cfb6277f66f32adc335eef28eea9103e1e20c41"), looks := false }, kinds := [], alts := [], laidByText := true, laidKinds := [.data, .pinned], laidTests := true, laidLooks := .later }
def NamesHashesCardSaid : Prop := Claim7.holds Tryd.pinned (.plain (OpenSpec.ofChange namesHashesSpec)) namesHashesCard

/-- THE TIED CARD OF 'commonslaw05.NamesInside'. -/
def namesInsideCard : Claim7 := { stood := { row := namesInsideRow, standIns := [], harness := (true, "e02bee0e97a8e8e6f3cba3a03cfb6277f66f32adc335eef28eea9103e1e20c41"), looks := false }, kinds := [], alts := [], laidByText := true, laidKinds := [.data, .pinned], laidTests := true, laidLooks := .later }
def NamesInsideCardSaid : Prop := Claim7.holds Tryd.pinned (.plain (OpenSpec.ofChange namesInsideSpec)) namesInsideCard

/-- THE TIED CARD OF 'commonslaw05.NamesOwns'. -/
def namesOwnsCard : Claim7 := { stood := { row := namesOwnsRow, standIns := [], harness := (true, "e02bee0e97a8e8e6f3cba3a03cfb6277f66f32adc335eef28eea9103e1e20c41"), looks := false }, kinds := [], alts := [], laidByText := true, laidKinds := [.data, .pinned], laidTests := true, laidLooks := .later }
def NamesOwnsCardSaid : Prop := Claim7.holds Tryd.pinned (.plain (OpenSpec.ofChange namesOwnsSpec)) namesOwnsCard

/-- THE SECOND FORM's CARD OF 'commonslaw05.NamesMay'. -/
def namesMayUptoCard : Claim7 := { stood := { row := namesMayUptoRow, standIns := [], harness := (true, "e02bee0e97a8e8e6f3cba3a03cfb6277f66f32adc335eef28eea9103e1e20c41"), looks := false }, kinds := [], alts := [], laidByText := true, laidKinds := [.data, .pinned], laidTests := true, laidLooks := .later }
def NamesMayUptoCardSaid : Prop := Claim7.holds Tryd.pinned (.plain (OpenSpec.upto namesMaySpec)) namesMayUptoCard

/-- THE SECOND FORM's CARD OF 'commonslaw05.NamesPaths'. -/
def namesPathsUptoCard : Claim7 := { stood := { row := namesPathsUptoRow, standIns := [], harness := (true, "e02bee0e97a8e8e6f3cba3a03cfb6277f66f32adc335eef28eea9103e1e20c41"), looks := false }, kinds := [], alts := [], laidByText := true, laidKinds := [.data, .pinned], laidTests := true, laidLooks := .later }
def NamesPathsUptoCardSaid : Prop := Claim7.holds Tryd.pinned (.plain (OpenSpec.upto namesPathsSpec)) namesPathsUptoCard

/-- THE SECOND FORM's CARD OF 'commonslaw05.NamesParents'. -/
def namesParentsUptoCard : Claim7 := { stood := { row := namesParentsUptoRow, standIns := [], harness := (true, "e02bee0e97a8e8e6f3cba3a03cfb6277f66f32adc335eef28eea9103e1e20c41"), looks := false }, kinds := [], alts := [], laidByText := true, laidKinds := [.data, .pinned], laidTests := true, laidLooks := .later }
def NamesParentsUptoCardSaid : Prop := Claim7.holds Tryd.pinned (.plain (OpenSpec.upto namesParentsSpec)) namesParentsUptoCard

/-- THE SECOND FORM's CARD OF 'commonslaw05.NamesJoins'. -/
def namesJoinsUptoCard : Claim7 := { stood := { row := namesJoinsUptoRow, standIns := [], harness := (true, "e02bee0e97a8e8e6f3cba3a03cfb6277f66f32adc335eef28eea9103e1e20c41"), looks := false }, kinds := [], alts := [], laidByText := true, laidKinds := [.data, .pinned], laidTests := true, laidLooks := .later }
def NamesJoinsUptoCardSaid : Prop := Claim7.holds Tryd.pinned (.plain (OpenSpec.upto namesJoinsSpec)) namesJoinsUptoCard

/-- THE SECOND FORM's CARD OF 'commonslaw05.NamesRound'. -/
def namesRoundUptoCard : Claim7 := { stood := { row := namesRoundUptoRow, standIns := [], harness := (true, "e02bee0e97a8e8e6f3cba3a03cfb6277f66f32adc335eef28eea9103e1e20c41"), looks := false }, kinds := [], alts := [], laidByText := true, laidKinds := [.data, .pinned], laidTests := true, laidLooks := .later }
def NamesRoundUptoCardSaid : Prop := Claim7.holds Tryd.pinned (.plain (OpenSpec.upto namesRoundSpec)) namesRoundUptoCard

/-- THE SECOND FORM's CARD OF 'commonslaw05.NamesHashes'. -/
def namesHashesUptoCard : Claim7 := { stood := { row := namesHashesUptoRow, standIns := [], harness := (true, "e02bee0e97a8e8e6f3cba3a03cfb6277f66f32adc335eef28eea9103e1e20c41"), looks := false }, kinds := [], alts := [], laidByText := true, laidKinds := [.data, .pinned], laidTests := true, laidLooks := .later }
def NamesHashesUptoCardSaid : Prop := Claim7.holds Tryd.pinned (.plain (OpenSpec.upto namesHashesSpec)) namesHashesUptoCard

/-- THE SECOND FORM's CARD OF 'commonslaw05.NamesInside'. -/
def namesInsideUptoCard : Claim7 := { stood := { row := namesInsideUptoRow, standIns := [], harness := (true, "e02bee0e97a8e8e6f3cba3a03cfb6277f66f32adc335eef28eea9103e1e20c41"), looks := false }, kinds := [], alts := [], laidByText := true, laidKinds := [.data, .pinned], laidTests := true, laidLooks := .later }
def NamesInsideUptoCardSaid : Prop := Claim7.holds Tryd.pinned (.plain (OpenSpec.upto namesInsideSpec)) namesInsideUptoCard

/-- THE SECOND FORM's CARD OF 'commonslaw05.NamesOwns'. -/
def namesOwnsUptoCard : Claim7 := { stood := { row := namesOwnsUptoRow, standIns := [], harness := (true, "e02bee0e97a8e8e6f3cba3a03cfb6277f66f32adc335eef28eea9103e1e20c41"), looks := false }, kinds := [], alts := [], laidByText := true, laidKinds := [.data, .pinned], laidTests := true, laidLooks := .later }
def NamesOwnsUptoCardSaid : Prop := Claim7.holds Tryd.pinned (.plain (OpenSpec.upto namesOwnsSpec)) namesOwnsUptoCard
end Rows
end Go.Proofs.YtbdfddefkflipaaDoor
