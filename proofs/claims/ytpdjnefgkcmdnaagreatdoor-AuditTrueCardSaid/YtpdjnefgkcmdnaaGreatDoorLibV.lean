/- Whole structs and arrays loaded in a region that draws its order. -/
import Derived.Test.YtpdjnefgkcmdnaaGreatDoorLibR
import Derived.Deep.MidRow
namespace Go.Proofs.YtpdjnefgkcmdnaaGreatDoor
open Go.RowKit
set_option linter.unusedSimpArgs false
set_option linter.unusedVariables false

theorem range_below {w w':World} {g o:Nat} {cs:List Value} (h:w.rangeAt g o cs) (hb:Below w.heap.size w w'):w'.rangeAt g o cs:=fun j v hv=>by
  have:=h j v hv
  exact (hb.cell (World.block_lt_of_cell? w _ this)).trans this
theorem At.step {w0:World} {g o:Nat} {cs:List Value} {w w':World} (h:w.rangeAt g o cs∧Below w0.heap.size w0 w) (hb:Below w.heap.size w w'):w'.rangeAt g o cs∧Below w0.heap.size w0 w':=
  ⟨range_below h.1 hb,kept_trans h.2 hb⟩
theorem Blk.range {w:World} {g:Nat} {e:TypeId} {L:List Value} (h:Blk w g e L):w.rangeAt g 0 L:=fun j v hv=>by
  obtain ⟨h1,h2⟩:=List.getElem?_eq_some_iff.1 hv
  rw [Nat.zero_add,h.cell h1,h2]
end Go.Proofs.YtpdjnefgkcmdnaaGreatDoor
