/- A text's number (pure). -/
import Derived.Test.YtpdjnefgkcmdnaaGreatDoorLib
import Derived.Laws.BitsAllLaws
namespace Go.Proofs.YtpdjnefgkcmdnaaGreatDoor
open Go.RowKit
set_option linter.unusedSimpArgs false
set_option linter.unusedVariables false
set_option maxRecDepth 100000

def stepG (p M h:Nat) (c:UInt8):Nat:=((h ^^^ c.toNat)*p) % M
def hashG (s p M:Nat) (l:List UInt8):Nat:=l.foldl (stepG p M) s
abbrev hashStep:Nat→UInt8→Nat:=stepG 16777619 4294967296
abbrev hashR:List UInt8→Nat:=hashG 2166136261 16777619 4294967296
def hashF (l:List UInt8):Nat:=hashR l / 268435456
end Go.Proofs.YtpdjnefgkcmdnaaGreatDoor
