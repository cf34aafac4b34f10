/- Persistent memory, pure: what a memory has, and what is done to it. -/
import Derived.Test.YtpdjnefgkcmdnaaGreatDoorLibO
namespace Go.Proofs.YtpdjnefgkcmdnaaGreatDoor
open Go.RowKit
set_option linter.unusedSimpArgs false
set_option linter.unusedVariables false

/-- what is seen, what lasts, which cells are on their way -/
structure MemM where
  V:List UInt8
  D:List UInt8
  A:List Bool
def MemM.ok (M:MemM):Prop:=M.D.length=M.V.length∧M.A.length*8=M.V.length∧M.V.length % 64=0∧64≤M.V.length∧M.V.length≤1048576

/-- is a unit of s bytes touched by n bytes from at on -/
def inT (at_ n s k:Nat):Bool:=decide (0<n∧at_ / s≤k∧k*s<at_+n)
def mixF (f:Nat→Bool) (V D:List UInt8):List UInt8:=(List.range D.length).map fun i=>if f (i / 8) then V.getD i 0 else D.getD i 0
def tabF (n:Nat) (f:Nat→Bool):List Bool:=(List.range n).map f
def cell8 (X:List UInt8) (k:Nat):List UInt8:=(X.drop (8*k)).take 8
def dirtyB (V D:List UInt8) (k:Nat):Bool:=decide (cell8 V k≠cell8 D k)
def dirtyL (M:MemM):List Nat:=(List.range M.A.length).filter (dirtyB M.V M.D)
def oddP (p:Int):Bool:=decide ((if p<0 then -(p+1) else p) % 2=1)
def pickB (picks:List Int) (j:Nat):Bool:=decide (j<picks.length)&&oddP (picks.getD j 0)
def selF (L:List Nat) (picks:List Int) (n:Nat) (k:Nat):Bool:=(List.range n).any fun j=>(L.getD j 0 == k)&&pickB picks j

def storeM (M:MemM) (at_:Nat) (b:List UInt8):MemM:=⟨splice M.V at_ b,M.D,tabF M.A.length fun k=>M.A.getD k false&&!inT at_ b.length 8 k⟩
def flushM (M:MemM) (at_ n:Nat):MemM:=⟨M.V,M.D,tabF M.A.length fun k=>M.A.getD k false||(inT at_ n 64 (k / 8)&&dirtyB M.V M.D k)⟩
def fenceM (M:MemM):MemM:=⟨M.V,mixF (fun k=>M.A.getD k false) M.V M.D,tabF M.A.length fun _=>false⟩
def evictM (M:MemM) (line:Nat):MemM:=⟨M.V,mixF (fun k=>k / 8 == line) M.V M.D,tabF M.A.length fun k=>M.A.getD k false&&!(k / 8 == line)⟩
def crashD (M:MemM) (picks:List Int):List UInt8:=mixF (selF (dirtyL M) picks (dirtyL M).length) M.V M.D
def crashM (M:MemM) (picks:List Int):MemM:=⟨crashD M picks,crashD M picks,tabF M.A.length fun _=>false⟩

end Go.Proofs.YtpdjnefgkcmdnaaGreatDoor
