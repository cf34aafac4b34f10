/- the document's examples (sx/ptI.py) -/
import Derived.Test.YtpdjnefgkcmdnaaGreatDoorPyMd
import Derived.Test.YtpdjnefgkcmdnaaGreatDoorSxU
import Derived.Test.YtpdjnefgkcmdnaaGreatDoorPxZ
namespace Go.Proofs.YtpdjnefgkcmdnaaGreatDoor
open Go.RowKit
set_option linter.unusedSimpArgs false
set_option linter.unusedVariables false
set_option maxRecDepth 100000
def lc0:CallM:=⟨1,[47,97],[],1,0,0,0,[]⟩
def lc1:CallM:=⟨4,[],[],0,0,2,0,[120]⟩
def lc2:CallM:=⟨3,[],[],0,0,0,9,[]⟩
def lc3:CallM:=⟨10,[47,97],[],0,0,0,0,[]⟩
def lc4:CallM:=⟨3,[],[],0,0,0,9,[]⟩
def lc5:CallM:=⟨7,[47,100],[],0,0,0,0,[]⟩
def lc6:CallM:=⟨11,[47,100],[47,100,47,101],0,0,0,0,[]⟩
def lF0:FsM:=fs0
def lF1:FsM:=(doF lF0 1 lc0).1
def lr1:RepM:=(doF lF0 1 lc0).2
def lF2:FsM:=(doF lF1 1 lc1).1
def lr2:RepM:=(doF lF1 1 lc1).2
def lF3:FsM:=(doF lF2 1 lc2).1
def lr3:RepM:=(doF lF2 1 lc2).2
def lF4:FsM:=(doF lF3 2 lc3).1
def lr4:RepM:=(doF lF3 2 lc3).2
def lF5:FsM:=(doF lF4 1 lc4).1
def lr5:RepM:=(doF lF4 1 lc4).2
def lF6:FsM:=(doF lF5 1 lc5).1
def lr6:RepM:=(doF lF5 1 lc5).2
def lF7:FsM:=(doF lF6 1 lc6).1
def lr7:RepM:=(doF lF6 1 lc6).2
def lFn:Nat→FsM | 0=>lF0 | 1=>lF1 | 2=>lF2 | 3=>lF3 | 4=>lF4 | 5=>lF5 | 6=>lF6 | _=>lF7