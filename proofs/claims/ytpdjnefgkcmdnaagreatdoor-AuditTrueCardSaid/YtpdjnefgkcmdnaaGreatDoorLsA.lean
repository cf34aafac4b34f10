/- The table's maps: grants by client and inode, waits by inode; looked at as functions. -/
import Derived.Test.YtpdjnefgkcmdnaaGreatDoorKeyA
import Derived.DeepKeys4
import Derived.Maps.OwnSet
import Derived.Maps.RangeWalk
namespace Go.Proofs.YtpdjnefgkcmdnaaGreatDoor
open Go.RowKit
open Go.Maps (Keyed)
set_option linter.unusedSimpArgs false
set_option linter.unusedVariables false
set_option maxRecDepth 100000

/-- a key, and how it is read -/
def kV (p:Int×Int):Value:=.agg #[.int .i64 p.1,.int .i64 p.2]
def kL (p:Int×Int):Lit:=.string (keyBytes [.int .i64 p.1,.int .i64 p.2])
def wfK (p:Int×Int):Prop:=(Lit.int .i64 p.1).wf=true∧(Lit.int .i64 p.2).wf=true
/-- elements: a grant, who waits -/
def gV (a:Bool×Int):Value:=.agg #[.bool a.1,.int .i64 a.2]
def gD (a:Bool×Int):DataW Unit:=.agg [.lit (.bool a.1),.lit (.int .i64 a.2)]
def gR2:List Value→Option (DataW Unit×List MemPlace)
  | [.bool o,.int .i64 u]=>some (gD (o,u),[])
  | _=>none
def gR:Value→Option (DataW Unit×List MemPlace)
  | .agg cs=>gR2 cs.toList
  | _=>none
def wV (a:Int×Int):Value:=.agg #[.int .i64 a.1,.int .i64 a.2]
def wD (a:Int×Int):DataW Unit:=.agg [.lit (.int .i64 a.1),.lit (.int .i64 a.2)]
def wR2:List Value→Option (DataW Unit×List MemPlace)
  | [.int .i64 o,.int .i64 u]=>some (wD (o,u),[])
  | _=>none
def wR:Value→Option (DataW Unit×List MemPlace)
  | .agg cs=>wR2 cs.toList
  | _=>none