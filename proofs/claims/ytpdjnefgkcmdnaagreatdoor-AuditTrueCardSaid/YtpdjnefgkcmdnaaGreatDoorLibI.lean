/- Slices of ints. -/
import Derived.Test.YtpdjnefgkcmdnaaGreatDoorLib
namespace Go.Proofs.YtpdjnefgkcmdnaaGreatDoor
open Go.RowKit
set_option linter.unusedSimpArgs false
set_option linter.unusedVariables false

/-- an int as the model holds it -/
def iV (n:Int):Value:=.int .i64 n
abbrev RowI (w:World) (a:Option Addr) (c:Nat) (A:List Int):Prop:=Row w 1 a A.length c (A.map iV)