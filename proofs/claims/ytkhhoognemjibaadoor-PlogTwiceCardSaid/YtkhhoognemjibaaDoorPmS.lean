/- The document's memory: lines flushed, a line evicted, dirty cells told, a crash. -/
import Derived.Test.YtkhhoognemjibaaDoorPmMd
namespace Go.Proofs.YtkhhoognemjibaaDoor
open Go.RowKit
set_option linter.unusedSimpArgs false
set_option linter.unusedVariables false
set_option maxRecDepth 100000

/-- what Evict does -/
def EvictR (g v d a : Nat) (M : MemM) (line : Int) (w : World) (e : Ending) (w' : World) : Prop :=
  if 0 ≤ line ∧ line < (M.V.length / 64 : Nat) then e = .returned (.int .i64 0) ∧ MemR w' g v d a (evictM M line.toNat) ∧ Turns (fun k => k = d ∨ k = a) w w' else e = .returned (.int .i64 1) ∧ w = w'
