/-
  DERIVED. GIVEN WITH THE SEED: THE CARDS: each row of YtkhhoognemjibaaDoorRows.lean that lists a variable, with what it lists TIED to the program's text (the seventh form; the later family's looks); each row that meets fmt, with fmt's text TOLD by the authors' own Lean function (tested against real Go, not proved from fmt's source: count such statements apart). THE CARD IS WHAT COUNTS. Prove the row's statement (the work); the ties are given (YtkhhoognemjibaaDoorTie.lean); close each card by the builder's one call (the guide's Derived/Test/ToyasCard.lean, 'card_holds'). Laid BY PROGRAM, IN A SANDBOX (cutbox-door.mjs). By AI agents, Wed Nov 11 2026. No macro, syntax, notation, axiom, sorry.
-/
import Derived.Test.YtkhhoognemjibaaDoorRows
import GoSem.ClaimSeven
namespace Go.Proofs.YtkhhoognemjibaaDoor
namespace Rows

/-- THE TIED CARD OF 'commonslaw08.PlogEncodes'. -/
def plogEncodesCard : Claim7 := { stood := { row := plogEncodesRow, standIns := [], harness := (true, "6574b6b9cefdf78956dd99f4f9a145a0726d930aa5400d6c73293959934ff528"), looks := false }, kinds := [], alts := [], laidByText := true, laidKinds := [.data, .pinned], laidTests := true, laidLooks := .later }
def PlogEncodesCardSaid : Prop := Claim7.holds Tryd.pinned (.plain (OpenSpec.ofChange plogEncodesSpec)) plogEncodesCard

/-- THE TIED CARD OF 'commonslaw08.PlogDecodes'. -/
def plogDecodesCard : Claim7 := { stood := { row := plogDecodesRow, standIns := [], harness := (true, "6574b6b9cefdf78956dd99f4f9a145a0726d930aa5400d6c73293959934ff528"), looks := false }, kinds := [], alts := [], laidByText := true, laidKinds := [.data, .pinned], laidTests := true, laidLooks := .later }
def PlogDecodesCardSaid : Prop := Claim7.holds Tryd.pinned (.plain (OpenSpec.ofChange plogDecodesSpec)) plogDecodesCard

/-- THE TIED CARD OF 'commonslaw08.PlogRound'. -/
def plogRoundCard : Claim7 := { stood := { row := plogRoundRow, standIns := [], harness := (true, "6574b6b9cefdf78956dd99f4f9a145a0726d930aa5400d6c73293959934ff528"), looks := false }, kinds := [], alts := [], laidByText := true, laidKinds := [.data, .pinned], laidTests := true, laidLooks := .later }
def PlogRoundCardSaid : Prop := Claim7.holds Tryd.pinned (.plain (OpenSpec.ofChange plogRoundSpec)) plogRoundCard

/-- THE TIED CARD OF 'commonslaw08.PlogPlaces'. -/
def plogPlacesCard : Claim7 := { stood := { row := plogPlacesRow, standIns := [], harness := (true, "6574b6b9cefdf78956dd99f4f9a145a0726d930aa5400d6c73293959934ff528"), looks := false }, kinds := [], alts := [], laidByText := true, laidKinds := [.data, .pinned], laidTests := true, laidLooks := .later }
def PlogPlacesCardSaid : Prop := Claim7.holds Tryd.pinned (.plain (OpenSpec.ofChange plogPlacesSpec)) plogPlacesCard

/-- THE TIED CARD OF 'commonslaw08.PlogTwice'. -/
def plogTwiceCard : Claim7 := { stood := { row := plogTwiceRow, standIns := [], harness := (true, "6574b6b9cefdf78956dd99f4f9a145a0726d930aa5400d6c73293959934ff528"), looks := false }, kinds := [], alts := [], laidByText := true, laidKinds := [.data, .pinned], laidTests := true, laidLooks := .later }
def PlogTwiceCardSaid : Prop := Claim7.holds Tryd.pinned (.plain (OpenSpec.ofChange plogTwiceSpec)) plogTwiceCard

/-- THE TIED CARD OF 'commonslaw08.PlogOwns'. -/
def plogOwnsCard : Claim7 := { stood := { row := plogOwnsRow, standIns := [], harness := (true, "6574b6b9cefdf78956dd99f4f9a145a0726d930aa5400d6c73293959934ff528"), looks := false }, kinds := [], alts := [], laidByText := true, laidKinds := [.data, .pinned], laidTests := true, laidLooks := .later }
def PlogOwnsCardSaid : Prop := Claim7.holds Tryd.pinned (.plain (OpenSpec.ofChange plogOwnsSpec)) plogOwnsCard

/-- THE SECOND FORM's CARD OF 'commonslaw08.PlogEncodes'. -/
def plogEncodesUptoCard : Claim7 := { stood := { row := plogEncodesUptoRow, standIns := [], harness := (true, "6574b6b9cefdf78956dd99f4f9a145a0726d930aa5400d6c73293959934ff528"), looks := false }, kinds := [], alts := [], laidByText := true, laidKinds := [.data, .pinned], laidTests := true, laidLooks := .later }
def PlogEncodesUptoCardSaid : Prop := Claim7.holds Tryd.pinned (.plain (OpenSpec.upto plogEncodesSpec)) plogEncodesUptoCard

/-- THE SECOND FORM's CARD OF 'commonslaw08.PlogDecodes'. -/
def plogDecodesUptoCard : Claim7 := { stood := { row := plogDecodesUptoRow, standIns := [], harness := (true, "6574b6b9cefdf78956dd99f4f9a145a0726d930aa5400d6c73293959934ff528"), looks := false }, kinds := [], alts := [], laidByText := true, laidKinds := [.data, .pinned], laidTests := true, laidLooks := .later }
def PlogDecodesUptoCardSaid : Prop := Claim7.holds Tryd.pinned (.plain (OpenSpec.upto plogDecodesSpec)) plogDecodesUptoCard

/-- THE SECOND FORM's CARD OF 'commonslaw08.PlogRound'. -/
def plogRoundUptoCard : Claim7 := { stood := { row := plogRoundUptoRow, standIns := [], harness := (true, "6574b6b9cefdf78956dd99f4f9a145a0726d930aa5400d6c73293959934ff528"), looks := false }, kinds := [], alts := [], laidByText := true, laidKinds := [.data, .pinned], laidTests := true, laidLooks := .later }
def PlogRoundUptoCardSaid : Prop := Claim7.holds Tryd.pinned (.plain (OpenSpec.upto plogRoundSpec)) plogRoundUptoCard

/-- THE SECOND FORM's CARD OF 'commonslaw08.PlogPlaces'. -/
def plogPlacesUptoCard : Claim7 := { stood := { row := plogPlacesUptoRow, standIns := [], harness := (true, "6574b6b9cefdf78956dd99f4f9a145a0726d930aa5400d6c73293959934ff528"), looks := false }, kinds := [], alts := [], laidByText := true, laidKinds := [.data, .pinned], laidTests := true, laidLooks := .later }
def PlogPlacesUptoCardSaid : Prop := Claim7.holds Tryd.pinned (.plain (OpenSpec.upto plogPlacesSpec)) plogPlacesUptoCard

/-- THE SECOND FORM's CARD OF 'commonslaw08.PlogTwice'. -/
def plogTwiceUptoCard : Claim7 := { stood := { row := plogTwiceUptoRow, standIns := [], harness := (true, "6574b6b9cefdf78956dd99f4f9a145a0726d930aa5400d6c73293959934ff528"), looks := false }, kinds := [], alts := [], laidByText := true, laidKinds := [.data, .pinned], laidTests := true, laidLooks := .later }
def PlogTwiceUptoCardSaid : Prop := Claim7.holds Tryd.pinned (.plain (OpenSpec.upto plogTwiceSpec)) plogTwiceUptoCard

/-- THE SECOND FORM's CARD OF 'commonslaw08.PlogOwns'. -/
def plogOwnsUptoCard : Claim7 := { stood := { row := plogOwnsUptoRow, standIns := [], harness := (true, "6574b6b9cefdf78956dd99f4f9a145a0726d930aa5400d6c73293959934ff528"), looks := false }, kinds := [], alts := [], laidByText := true, laidKinds := [.data, .pinned], laidTests := true, laidLooks := .later }
def PlogOwnsUptoCardSaid : Prop := Claim7.holds Tryd.pinned (.plain (OpenSpec.upto plogOwnsSpec)) plogOwnsUptoCard
end Rows
end Go.Proofs.YtkhhoognemjibaaDoor
