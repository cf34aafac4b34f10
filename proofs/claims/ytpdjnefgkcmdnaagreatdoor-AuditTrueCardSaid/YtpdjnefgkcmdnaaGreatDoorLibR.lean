/- Regions that draw their order, walked step by step under a condition on the world. -/
import Derived.Test.YtpdjnefgkcmdnaaGreatDoorLib
import Derived.Deep.RegionHeld
namespace Go.Proofs.YtpdjnefgkcmdnaaGreatDoor
open Go.RowKit
set_option linter.unusedSimpArgs false
set_option linter.unusedVariables false

theorem put_someR {a:Act} {d:Option Tmp} {n:Tmp} {v:Value} (h:d=some n):a.put d v={ a with tmps:=a.tmps.setIfInBounds n v }:=by subst h;rfl
theorem takeR {P:Program} {ops:Array Oper} {Q:Exit→Act→World→Prop} {md:Region.Mode} {S:World→Prop} {i:Nat} {oi:Oper} {d:Tmp} {v:Value} {fuel:Nat} {listed:Array Bool} {a:Act} {w:World}
    (hi:ops[i]? = some oi) (hd:oi.dst=some d)
    (hs:Region.noSelect ops=true) (hf:Region.free md ops listed i=true) (hr:(Region.ready md ops listed).contains i=true)
    (hQ:∀ c a w,Q (.panic c) (a.put oi.dst v) w→Q (.panic c) a w) (hy:YieldsIf P ops S oi v a) (hS:S w)
    (h:wpAnyH P md ops Q S fuel (listed.setIfInBounds i true) { tmps:=a.tmps.setIfInBounds d v,defers:=a.defers } w):wpAnyH P md ops Q S (fuel+1) listed a w:=
  wpAnyH_take hi hs hf hr hQ hy hS (by rw [put_someR hd];exact h)

end Go.Proofs.YtpdjnefgkcmdnaaGreatDoor
