/- The statements of stage 5: the document's Inside; NamesInside. -/
import Derived.Test.YtpdjnefgkcmdnaaGreatDoorPthI
namespace Go.Proofs.YtpdjnefgkcmdnaaGreatDoor
open Go.RowKit Go.Shelf
set_option linter.unusedSimpArgs false
set_option linter.unusedVariables false
set_option maxRecDepth 100000
