/- The statements of stage 5: NamesMay, NamesPaths, NamesHashes. -/
import Derived.Test.YtpdjnefgkcmdnaaGreatDoorPthF
namespace Go.Proofs.YtpdjnefgkcmdnaaGreatDoor
open Go.RowKit Go.Shelf
set_option linter.unusedSimpArgs false
set_option linter.unusedVariables false
set_option maxRecDepth 100000
