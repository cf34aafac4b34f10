/- The hashes of a name: names.Hash, and the document's. -/
import Derived.Test.YtpdjnefgkcmdnaaGreatDoorHashP
namespace Go.Proofs.YtpdjnefgkcmdnaaGreatDoor
open Go.RowKit
set_option linter.unusedSimpArgs false
set_option linter.unusedVariables false
set_option maxRecDepth 100000
