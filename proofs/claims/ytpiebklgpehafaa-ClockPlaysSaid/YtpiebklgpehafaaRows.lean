/-
  No cell of these rows narrows 'for every input' (looked for: loops, veiled, ifaces, maps, wideKeys, modest, calm, conditions, laid).
  DERIVED. THE GIVEN ROWS OF THIS SEAT. 4 by the template 'for every input the law returns true; each argument reads behind the call as it read before'; 0 by the template 'total and deterministic' (their statements: YtpiebklgpehafaaTotals.lean).
  GIVEN WITH THE SEED: the statements are not yours to turn. If you find one false, say at which input.
  Laid BY PROGRAM, IN A SANDBOX (cutbox-rows.mjs): the forced cells as the released guide's own fill.sh prints them over the translation 0d2a5e50eead1884… (all of the seat's roots in one cut). By AI agents, Wed Nov 11 2026. No macro, syntax, notation, axiom, sorry.
-/
import Derived.Test.YtpiebklgpehafaaChecked
import GoSem.Claim
import GoSem.ClaimJoined
import GoSem.ClaimMapViews
import Derived.JoinedTies
import Derived.KernelRfl
namespace Go.Proofs.Ytpiebklgpehafaa
/- THE CELL 'sum', in the pinned program and in every row, IS THE sha256 OF THE DUMP (.gsa) THAT YtpiebklgpehafaaProg.lean LOADS. Nothing in Lean hashes anything: it is a label: what it is worth is what the hold of that sum in a sandbox is worth. -/
noncomputable def Try.pinned : Pinned := { name := "ytpiebklgpehafaa", sum := "0d2a5e50eead1884b9df72625048d56bef99d99beb7af751ba17c50a7e2d55c0", checked := Try.checked }
namespace Rows
def none {H : Type} : Left H := { results := [], args := [] }

/-- 'commonslaw18.ClockPlays': WHATEVER THE INPUT: true; the input reads as it did. -/
def clockPlaysSpec : ChangeSpec := { name := "clockPlays", fn := fun _ => fun
  | [d1, d2] => { results := [.lit (.bool true)], args := [d1, d2] }
  | _ => none }
def clockPlaysRow : OpenClaim := { program := "ytpiebklgpehafaa", sum := "0d2a5e50eead1884b9df72625048d56bef99d99beb7af751ba17c50a7e2d55c0", func := "commons/commonslaw18.ClockPlays", spec := "clockPlays", unfollowed := true, recurses := true, apart := false }
def ClockPlaysSaid : Prop := clockPlaysRow.holds Try.pinned (OpenSpec.ofChange clockPlaysSpec)

/-- ITS FALSE NEIGHBOUR: 'it returns false'. Refute it at one input. -/
def clockPlaysWrong : ChangeSpec := { name := "clockPlays", fn := fun _ => fun
  | [d1, d2] => { results := [.lit (.bool false)], args := [d1, d2] }
  | _ => none }
def ClockPlaysWrongFalsely : Prop := clockPlaysRow.holds Try.pinned (OpenSpec.ofChange clockPlaysWrong)

/-- 'commonslaw18.ClockRises': WHATEVER THE INPUT: true; the input reads as it did. -/
def clockRisesSpec : ChangeSpec := { name := "clockRises", fn := fun _ => fun
  | [d1, d2] => { results := [.lit (.bool true)], args := [d1, d2] }
  | _ => none }
def clockRisesRow : OpenClaim := { program := "ytpiebklgpehafaa", sum := "0d2a5e50eead1884b9df72625048d56bef99d99beb7af751ba17c50a7e2d55c0", func := "commons/commonslaw18.ClockRises", spec := "clockRises", unfollowed := true, recurses := true, apart := false }
def ClockRisesSaid : Prop := clockRisesRow.holds Try.pinned (OpenSpec.ofChange clockRisesSpec)

/-- ITS FALSE NEIGHBOUR: 'it returns false'. Refute it at one input. -/
def clockRisesWrong : ChangeSpec := { name := "clockRises", fn := fun _ => fun
  | [d1, d2] => { results := [.lit (.bool false)], args := [d1, d2] }
  | _ => none }
def ClockRisesWrongFalsely : Prop := clockRisesRow.holds Try.pinned (OpenSpec.ofChange clockRisesWrong)

/-- 'commonslaw18.ClockBound': WHATEVER THE INPUT: true; the input reads as it did. -/
def clockBoundSpec : ChangeSpec := { name := "clockBound", fn := fun _ => fun
  | [d1, d2, d3] => { results := [.lit (.bool true)], args := [d1, d2, d3] }
  | _ => none }
def clockBoundRow : OpenClaim := { program := "ytpiebklgpehafaa", sum := "0d2a5e50eead1884b9df72625048d56bef99d99beb7af751ba17c50a7e2d55c0", func := "commons/commonslaw18.ClockBound", spec := "clockBound", unfollowed := true, recurses := true, apart := false }
def ClockBoundSaid : Prop := clockBoundRow.holds Try.pinned (OpenSpec.ofChange clockBoundSpec)

/-- ITS FALSE NEIGHBOUR: 'it returns false'. Refute it at one input. -/
def clockBoundWrong : ChangeSpec := { name := "clockBound", fn := fun _ => fun
  | [d1, d2, d3] => { results := [.lit (.bool false)], args := [d1, d2, d3] }
  | _ => none }
def ClockBoundWrongFalsely : Prop := clockBoundRow.holds Try.pinned (OpenSpec.ofChange clockBoundWrong)

/-- 'commonslaw18.ClockCuts': WHATEVER THE INPUT: true; the input reads as it did. -/
def clockCutsSpec : ChangeSpec := { name := "clockCuts", fn := fun _ => fun
  | [d1, d2, d3, d4] => { results := [.lit (.bool true)], args := [d1, d2, d3, d4] }
  | _ => none }
def clockCutsRow : OpenClaim := { program := "ytpiebklgpehafaa", sum := "0d2a5e50eead1884b9df72625048d56bef99d99beb7af751ba17c50a7e2d55c0", func := "commons/commonslaw18.ClockCuts", spec := "clockCuts", unfollowed := true, recurses := true, apart := false }
def ClockCutsSaid : Prop := clockCutsRow.holds Try.pinned (OpenSpec.ofChange clockCutsSpec)

/-- ITS FALSE NEIGHBOUR: 'it returns false'. Refute it at one input. -/
def clockCutsWrong : ChangeSpec := { name := "clockCuts", fn := fun _ => fun
  | [d1, d2, d3, d4] => { results := [.lit (.bool false)], args := [d1, d2, d3, d4] }
  | _ => none }
def ClockCutsWrongFalsely : Prop := clockCutsRow.holds Try.pinned (OpenSpec.ofChange clockCutsWrong)

/- THE SECOND FORM. 'bulk': how many values and letters a reading holds, each counted each time it is reached (what is shared counts as often as it is met; a slice's spare places count too). A statement '..UptoSaid' is the law's where the arguments, and the package variables that the reading takes, are together of bulk at most 1048576: NARROWER than '..Said'. Prove '..Said' where nothing that the law and all that it calls make is longer than what came in: it says more and counts as full. Else prove '..UptoSaid'. A law counts once. -/
mutual
def uptoBulk {H : Type} : DataW H → Nat
  | .lit (.string bytes) => bytes.length + 1
  | .lit _ => 1
  | .nil => 1
  | .ptr d => uptoBulk d + 1
  | .slice elems spare => uptoBulkAll elems + uptoBulkAll spare + 1
  | .agg parts => uptoBulkAll parts + 1
  | .iface _ d => uptoBulk d + 1
  | .map entries => uptoBulkEntries entries + 1
  | .held _ => 1
def uptoBulkAll {H : Type} : List (DataW H) → Nat
  | [] => 0
  | d :: r => uptoBulk d + uptoBulkAll r
def uptoBulkEntries {H : Type} : List (Lit × DataW H) → Nat
  | [] => 0
  | x :: r => uptoBulkEntry x + uptoBulkEntries r
def uptoBulkEntry {H : Type} : Lit × DataW H → Nat
  | (.string bytes, d) => bytes.length + uptoBulk d + 1
  | (_, d) => uptoBulk d + 1
 end
def uptoSmall : (H : Type) → List (DataW H) → Bool := fun _ ds => decide (uptoBulkAll ds ≤ 1048576)
def OpenSpec.upto (s : _root_.Go.ChangeSpec) : _root_.Go.OpenSpec := { _root_.Go.OpenSpec.ofChange s with cond := some uptoSmall }

/-- 'commonslaw18.ClockPlays', WHERE WHAT IT READS IS OF BULK AT MOST 1048576: true; the input reads as it did. -/
def clockPlaysUptoRow : OpenClaim := { program := "ytpiebklgpehafaa", sum := "0d2a5e50eead1884b9df72625048d56bef99d99beb7af751ba17c50a7e2d55c0", func := "commons/commonslaw18.ClockPlays", spec := "clockPlays", unfollowed := true, recurses := true, apart := false, narrowed := true }
def ClockPlaysUptoSaid : Prop := clockPlaysUptoRow.holds Try.pinned (OpenSpec.upto clockPlaysSpec)

/-- 'commonslaw18.ClockRises', WHERE WHAT IT READS IS OF BULK AT MOST 1048576: true; the input reads as it did. -/
def clockRisesUptoRow : OpenClaim := { program := "ytpiebklgpehafaa", sum := "0d2a5e50eead1884b9df72625048d56bef99d99beb7af751ba17c50a7e2d55c0", func := "commons/commonslaw18.ClockRises", spec := "clockRises", unfollowed := true, recurses := true, apart := false, narrowed := true }
def ClockRisesUptoSaid : Prop := clockRisesUptoRow.holds Try.pinned (OpenSpec.upto clockRisesSpec)

/-- 'commonslaw18.ClockBound', WHERE WHAT IT READS IS OF BULK AT MOST 1048576: true; the input reads as it did. -/
def clockBoundUptoRow : OpenClaim := { program := "ytpiebklgpehafaa", sum := "0d2a5e50eead1884b9df72625048d56bef99d99beb7af751ba17c50a7e2d55c0", func := "commons/commonslaw18.ClockBound", spec := "clockBound", unfollowed := true, recurses := true, apart := false, narrowed := true }
def ClockBoundUptoSaid : Prop := clockBoundUptoRow.holds Try.pinned (OpenSpec.upto clockBoundSpec)

/-- 'commonslaw18.ClockCuts', WHERE WHAT IT READS IS OF BULK AT MOST 1048576: true; the input reads as it did. -/
def clockCutsUptoRow : OpenClaim := { program := "ytpiebklgpehafaa", sum := "0d2a5e50eead1884b9df72625048d56bef99d99beb7af751ba17c50a7e2d55c0", func := "commons/commonslaw18.ClockCuts", spec := "clockCuts", unfollowed := true, recurses := true, apart := false, narrowed := true }
def ClockCutsUptoSaid : Prop := clockCutsUptoRow.holds Try.pinned (OpenSpec.upto clockCutsSpec)

end Rows
end Go.Proofs.Ytpiebklgpehafaa
