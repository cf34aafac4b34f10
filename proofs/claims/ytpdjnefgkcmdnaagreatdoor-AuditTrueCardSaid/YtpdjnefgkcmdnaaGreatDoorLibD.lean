/- Regions that draw their order, walked over an act of which only some slots are known: what comes alone, or as one of two. -/
import Derived.Test.YtpdjnefgkcmdnaaGreatDoorLibC
namespace Go.Proofs.YtpdjnefgkcmdnaaGreatDoor
open Go.RowKit
set_option linter.unusedSimpArgs false
set_option linter.unusedVariables false

section
variable {P:Program} {ops:Array Oper} {Q:Exit→Act→World→Prop} {md:Region.Mode} {S:World→Prop} {oi oj:Oper} {fuel:Nat} {listed:Array Bool} {a:Act} {w w':World} {N:Nat} {l:List (Nat×Value)} {K:Act→World→Prop}
/-- it yields a value, in another world maybe -/
theorem op_val (h:Kn N l a) {d:Nat} (hd:oi.dst=some d) (hdN:d<N) (hf:∀ x∈l,x.1≠d) (v:Value) (hrun:(execOp a.eval oi).run P w=.ok (.value v) w')
    (k:∀ a',Kn N ((d,v)::l) a'→K a' w'):Oper.wp P oi a w K Q:=by
  unfold Oper.wp
  rw [hrun,Oper.upon_value,hd]
  exact k _ (h.put hdN hf v)
/-- it stores -/
theorem op_skip (h:Kn N l a) (hd:oi.dst=none) (hrun:(execOp a.eval oi).run P w=.ok .skip w') (k:∀ a',Kn N l a'→K a' w'):Oper.wp P oi a w K Q:=by
  unfold Oper.wp
  rw [hrun,Oper.upon_skip,hd]
  exact k _ h
end
end Go.Proofs.YtpdjnefgkcmdnaaGreatDoor
