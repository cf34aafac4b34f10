/-
  DERIVED. GIVEN WITH THE SEED: THE CARDS: each row of YtcackliabemecaaGreatDoorRows.lean that lists a variable, with what it lists TIED to the program's text (the seventh form; the later family's looks); each row that meets fmt, with fmt's text TOLD by the authors' own Lean function (tested against real Go, not proved from fmt's source: count such statements apart). THE CARD IS WHAT COUNTS. Prove the row's statement (the work); the ties are given (YtcackliabemecaaGreatDoorTie.lean); close each card by the builder's one call (the guide's Derived/Test/ToyasCard.lean, 'card_holds'). Laid BY PROGRAM, IN A SANDBOX (cutbox-door.mjs). By AI agents, Wed Nov 11 2026. No macro, syntax, notation, axiom, sorry.
-/
import Derived.Test.YtcackliabemecaaGreatDoorRows
import GoSem.ClaimSeven
namespace Go.Proofs.YtcackliabemecaaGreatDoor
namespace Rows

/-- THE TIED CARD OF 'commonslaw09.TxnPlays'. -/
def txnPlaysCard : Claim7 := { stood := { row := txnPlaysRow, standIns := [], harness := (true, "ce89335219c53429066cad3ce3f12ebf8ab1aedf9df887da9ad11969cc858ea7"), looks := false }, kinds := [], alts := [], laidByText := true, laidKinds := [.data, .pinned], laidTests := true, laidLooks := .later }
def TxnPlaysCardSaid : Prop := Claim7.holds Tryz.pinned (.plain (OpenSpec.ofChange txnPlaysSpec)) txnPlaysCard

/-- THE TIED CARD OF 'commonslaw09.TxnAlone'. -/
def txnAloneCard : Claim7 := { stood := { row := txnAloneRow, standIns := [], harness := (true, "ce89335219c53429066cad3ce3f12ebf8ab1aedf9df887da9ad11969cc858ea7"), looks := false }, kinds := [], alts := [], laidByText := true, laidKinds := [.data, .pinned], laidTests := true, laidLooks := .later }
def TxnAloneCardSaid : Prop := Claim7.holds Tryz.pinned (.plain (OpenSpec.ofChange txnAloneSpec)) txnAloneCard

/-- THE TIED CARD OF 'commonslaw09.TxnOwns'. -/
def txnOwnsCard : Claim7 := { stood := { row := txnOwnsRow, standIns := [], harness := (true, "ce89335219c53429066cad3ce3f12ebf8ab1aedf9df887da9ad11969cc858ea7"), looks := false }, kinds := [], alts := [], laidByText := true, laidKinds := [.data, .pinned], laidTests := true, laidLooks := .later }
def TxnOwnsCardSaid : Prop := Claim7.holds Tryz.pinned (.plain (OpenSpec.ofChange txnOwnsSpec)) txnOwnsCard

/-- THE SECOND FORM's CARD OF 'commonslaw09.TxnPlays'. -/
def txnPlaysUptoCard : Claim7 := { stood := { row := txnPlaysUptoRow, standIns := [], harness := (true, "ce89335219c53429066cad3ce3f12ebf8ab1aedf9df887da9ad11969cc858ea7"), looks := false }, kinds := [], alts := [], laidByText := true, laidKinds := [.data, .pinned], laidTests := true, laidLooks := .later }
def TxnPlaysUptoCardSaid : Prop := Claim7.holds Tryz.pinned (.plain (OpenSpec.upto txnPlaysSpec)) txnPlaysUptoCard

/-- THE SECOND FORM's CARD OF 'commonslaw09.TxnAlone'. -/
def txnAloneUptoCard : Claim7 := { stood := { row := txnAloneUptoRow, standIns := [], harness := (true, "ce89335219c53429066cad3ce3f12ebf8ab1aedf9df887da9ad11969cc858ea7"), looks := false }, kinds := [], alts := [], laidByText := true, laidKinds := [.data, .pinned], laidTests := true, laidLooks := .later }
def TxnAloneUptoCardSaid : Prop := Claim7.holds Tryz.pinned (.plain (OpenSpec.upto txnAloneSpec)) txnAloneUptoCard

/-- THE SECOND FORM's CARD OF 'commonslaw09.TxnOwns'. -/
def txnOwnsUptoCard : Claim7 := { stood := { row := txnOwnsUptoRow, standIns := [], harness := (true, "ce89335219c53429066cad3ce3f12ebf8ab1aedf9df887da9ad11969cc858ea7"), looks := false }, kinds := [], alts := [], laidByText := true, laidKinds := [.data, .pinned], laidTests := true, laidLooks := .later }
def TxnOwnsUptoCardSaid : Prop := Claim7.holds Tryz.pinned (.plain (OpenSpec.upto txnOwnsSpec)) txnOwnsUptoCard
end Rows
end Go.Proofs.YtcackliabemecaaGreatDoor
