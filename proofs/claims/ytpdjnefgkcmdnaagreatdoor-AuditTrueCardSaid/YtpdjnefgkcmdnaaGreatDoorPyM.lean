/- played, PosixPlays (sx/ptJ.py) -/
import Derived.Test.YtpdjnefgkcmdnaaGreatDoorPyL
import Derived.Test.YtpdjnefgkcmdnaaGreatDoorSxU
import Derived.Test.YtpdjnefgkcmdnaaGreatDoorPxZ
import Derived.Test.YtpdjnefgkcmdnaaGreatDoorPxMb
namespace Go.Proofs.YtpdjnefgkcmdnaaGreatDoor
open Go.RowKit
set_option linter.unusedSimpArgs false
set_option linter.unusedVariables false
set_option maxRecDepth 100000

