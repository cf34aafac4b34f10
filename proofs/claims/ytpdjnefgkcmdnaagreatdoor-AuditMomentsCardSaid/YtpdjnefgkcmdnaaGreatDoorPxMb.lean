/- Merged: PxK PxL. -/
import Derived.Test.YtpdjnefgkcmdnaaGreatDoorPxJ
import Derived.Test.YtpdjnefgkcmdnaaGreatDoorSxU
import Derived.Test.YtpdjnefgkcmdnaaGreatDoorPxZ
/- the document's rename (sx/psG.py) -/
namespace Go.Proofs.YtpdjnefgkcmdnaaGreatDoor
open Go.RowKit
set_option linter.unusedSimpArgs false
set_option linter.unusedVariables false
set_option maxRecDepth 100000

end Go.Proofs.YtpdjnefgkcmdnaaGreatDoor
/- the document's Do, New (sx/psH.py) -/
namespace Go.Proofs.YtpdjnefgkcmdnaaGreatDoor
open Go.RowKit
set_option linter.unusedSimpArgs false
set_option linter.unusedVariables false
set_option maxRecDepth 100000


end Go.Proofs.YtpdjnefgkcmdnaaGreatDoor
