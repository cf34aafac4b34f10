/- Paths: the document's Path. -/
import Derived.Test.YtpdjnefgkcmdnaaGreatDoorPthD
namespace Go.Proofs.YtpdjnefgkcmdnaaGreatDoor
open Go.RowKit Go.Shelf
set_option linter.unusedSimpArgs false
set_option linter.unusedVariables false
set_option maxRecDepth 100000

end Go.Proofs.YtpdjnefgkcmdnaaGreatDoor
