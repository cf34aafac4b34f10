/- The hashes of a name: names.Hash, and the document's. -/
import Derived.Test.YtcanemamnmmbcaaGreatDoorHashP
namespace Go.Proofs.YtcanemamnmmbcaaGreatDoor
open Go.RowKit
set_option linter.unusedSimpArgs false
set_option linter.unusedVariables false
set_option maxRecDepth 100000
