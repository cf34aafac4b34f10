/- pure: what the laws of stage 6 ask of doF. -/
import Derived.Test.YtpdjnefgkcmdnaaGreatDoorPyM
namespace Go.Proofs.YtpdjnefgkcmdnaaGreatDoor
open Go.RowKit
set_option linter.unusedSimpArgs false
set_option linter.unusedVariables false
set_option maxRecDepth 100000

abbrev syncX (fd:Int):CallM:=⟨6,[],[],0,fd,0,0,[]⟩
abbrev statX (X:List UInt8):CallM:=⟨13,X,[],0,0,0,0,[]⟩
abbrev listX (X:List UInt8):CallM:=⟨12,X,[],0,0,0,0,[]⟩
abbrev renX (X Y:List UInt8):CallM:=⟨11,X,Y,0,0,0,0,[]⟩
end Go.Proofs.YtpdjnefgkcmdnaaGreatDoor
