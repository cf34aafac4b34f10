/-
  DERIVED. GIVEN WITH THE SEED: THE CARDS: each row of YtcackliabemecaaDoorRows.lean that lists a variable, with what it lists TIED to the program's text (the seventh form; the later family's looks); each row that meets fmt, with fmt's text TOLD by the authors' own Lean function (tested against real Go, not proved from fmt's source: count such statements apart). THE CARD IS WHAT COUNTS. Prove the row's statement (the work); the ties are given (YtcackliabemecaaDoorTie.lean); close each card by the builder's one call (the guide's Derived/Test/ToyasCard.lean, 'card_holds'). Laid BY PROGRAM, IN A SANDBOX (cutbox-door.mjs). By AI agents, Wed Nov 11 2026. No macro, syntax, notation, axiom, sorry.
-/
import Derived.Test.YtcackliabemecaaDoorRows
import GoSem.ClaimSeven
namespace Go.Proofs.YtcackliabemecaaDoor
namespace Rows

/-- THE TIED CARD OF 'commonslaw09.TxnMany'. -/
def txnManyCard : Claim7 := { stood := { row := txnManyRow, standIns := [], harness := (true, "69ad715371651b744aac69d4351ce2aaa394a875784b82deb269a55969352dda"), looks := false }, kinds := [], alts := [], laidByText := true, laidKinds := [.data, .pinned], laidTests := true, laidLooks := .later }
def TxnManyCardSaid : Prop := Claim7.holds Tryd.pinned (.plain (OpenSpec.ofChange txnManySpec)) txnManyCard

/-- THE TIED CARD OF 'commonslaw09.TxnWhole'. -/
def txnWholeCard : Claim7 := { stood := { row := txnWholeRow, standIns := [], harness := (true, "69ad715371651b744aac69d4351ce2aaa394a875784b82deb269a55969352dda"), looks := false }, kinds := [], alts := [], laidByText := true, laidKinds := [.data, .pinned], laidTests := true, laidLooks := .later }
def TxnWholeCardSaid : Prop := Claim7.holds Tryd.pinned (.plain (OpenSpec.ofChange txnWholeSpec)) txnWholeCard

/-- THE SECOND FORM's CARD OF 'commonslaw09.TxnMany'. -/
def txnManyUptoCard : Claim7 := { stood := { row := txnManyUptoRow, standIns := [], harness := (true, "69ad715371651b744aac69d4351ce2aaa394a875784b82deb269a55969352dda"), looks := false }, kinds := [], alts := [], laidByText := true, laidKinds := [.data, .pinned], laidTests := true, laidLooks := .later }
def TxnManyUptoCardSaid : Prop := Claim7.holds Tryd.pinned (.plain (OpenSpec.upto txnManySpec)) txnManyUptoCard

/-- THE SECOND FORM's CARD OF 'commonslaw09.TxnWhole'. -/
def txnWholeUptoCard : Claim7 := { stood := { row := txnWholeUptoRow, standIns := [], harness := (true, "69ad715371651b744aac69d4351ce2aaa394a875784b82deb269a55969352dda"), looks := false }, kinds := [], alts := [], laidByText := true, laidKinds := [.data, .pinned], laidTests := true, laidLooks := .later }
def TxnWholeUptoCardSaid : Prop := Claim7.holds Tryd.pinned (.plain (OpenSpec.upto txnWholeSpec)) txnWholeUptoCard
end Rows
end Go.Proofs.YtcackliabemecaaDoor
