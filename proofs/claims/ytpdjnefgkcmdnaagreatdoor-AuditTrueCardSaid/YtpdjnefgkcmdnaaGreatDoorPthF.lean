/- The statements of stage 5: their examples, few, Same. -/
import Derived.Test.YtpdjnefgkcmdnaaGreatDoorPthE
import Derived.Test.YtpdjnefgkcmdnaaGreatDoorHashA
namespace Go.Proofs.YtpdjnefgkcmdnaaGreatDoor
open Go.RowKit Go.Shelf
set_option linter.unusedSimpArgs false
set_option linter.unusedVariables false
set_option maxRecDepth 100000

/-- the first 120 bytes -/
def fewL (X:List UInt8):List UInt8:=X.take 120
end Go.Proofs.YtpdjnefgkcmdnaaGreatDoor
