/-
  No cell of these rows narrows 'for every input' (looked for: loops, veiled, ifaces, maps, wideKeys, modest, calm, conditions, laid).
  DERIVED. THE GIVEN ROWS OF THIS SEAT. 4 by the template 'for every input the law returns true; each argument reads behind the call as it read before'; 0 by the template 'total and deterministic' (their statements: YtjgajoljgepioaaGreatTotals.lean).
  GIVEN WITH THE SEED: the statements are not yours to turn. If you find one false, say at which input.
  Laid BY PROGRAM, IN A SANDBOX (cutbox-rows.mjs): the forced cells as the released guide's own fill.sh prints them over the translation 44c2723b504cba03… (all of the seat's roots in one cut). By AI agents, Wed Nov 11 2026. No macro, syntax, notation, axiom, sorry.
-/
import Derived.Test.YtjgajoljgepioaaGreatChecked
import GoSem.Claim
import GoSem.ClaimJoined
import GoSem.ClaimMapViews
import Derived.JoinedTies
import Derived.KernelRfl
namespace Go.Proofs.YtjgajoljgepioaaGreat
/- THE CELL 'sum', in the pinned program and in every row, IS THE sha256 OF THE DUMP (.gsa) THAT YtjgajoljgepioaaGreatProg.lean LOADS. Nothing in Lean hashes anything: it is a label: what it is worth is what the hold of that sum in a sandbox is worth. -/
noncomputable def Tryz.pinned : Pinned := { name := "ytjgajoljgepioaagreat", sum := "44c2723b504cba03b88eafa4c50955d4acd6d8f25d50caf96ea176af6327f33a", checked := Tryz.checked }
namespace Rows
def none {H : Type} : Left H := { results := [], args := [] }

/-- 'commonslaw20.RegionPlays': WHATEVER THE INPUT: true; the input reads as it did. -/
def regionPlaysSpec : ChangeSpec := { name := "regionPlays", fn := fun _ => fun
  | [d] => { results := [.lit (.bool true)], args := [d] }
  | _ => none }
def regionPlaysRow : OpenClaim := { program := "ytjgajoljgepioaagreat", sum := "44c2723b504cba03b88eafa4c50955d4acd6d8f25d50caf96ea176af6327f33a", func := "commons/commonslaw20.RegionPlays", spec := "regionPlays", unfollowed := true, recurses := true, apart := false }
def RegionPlaysSaid : Prop := regionPlaysRow.holds Tryz.pinned (OpenSpec.ofChange regionPlaysSpec)

/-- ITS FALSE NEIGHBOUR: 'it returns false'. Refute it at one input. -/
def regionPlaysWrong : ChangeSpec := { name := "regionPlays", fn := fun _ => fun
  | [d] => { results := [.lit (.bool false)], args := [d] }
  | _ => none }
def RegionPlaysWrongFalsely : Prop := regionPlaysRow.holds Tryz.pinned (OpenSpec.ofChange regionPlaysWrong)

/-- 'commonslaw20.RegionFenced': WHATEVER THE INPUT: true; the input reads as it did. -/
def regionFencedSpec : ChangeSpec := { name := "regionFenced", fn := fun _ => fun
  | [d1, d2] => { results := [.lit (.bool true)], args := [d1, d2] }
  | _ => none }
def regionFencedRow : OpenClaim := { program := "ytjgajoljgepioaagreat", sum := "44c2723b504cba03b88eafa4c50955d4acd6d8f25d50caf96ea176af6327f33a", func := "commons/commonslaw20.RegionFenced", spec := "regionFenced", unfollowed := true, recurses := true, apart := false }
def RegionFencedSaid : Prop := regionFencedRow.holds Tryz.pinned (OpenSpec.ofChange regionFencedSpec)

/-- ITS FALSE NEIGHBOUR: 'it returns false'. Refute it at one input. -/
def regionFencedWrong : ChangeSpec := { name := "regionFenced", fn := fun _ => fun
  | [d1, d2] => { results := [.lit (.bool false)], args := [d1, d2] }
  | _ => none }
def RegionFencedWrongFalsely : Prop := regionFencedRow.holds Tryz.pinned (OpenSpec.ofChange regionFencedWrong)

/-- 'commonslaw20.RegionOnce': WHATEVER THE INPUT: true; the input reads as it did. -/
def regionOnceSpec : ChangeSpec := { name := "regionOnce", fn := fun _ => fun
  | [d1, d2, d3] => { results := [.lit (.bool true)], args := [d1, d2, d3] }
  | _ => none }
def regionOnceRow : OpenClaim := { program := "ytjgajoljgepioaagreat", sum := "44c2723b504cba03b88eafa4c50955d4acd6d8f25d50caf96ea176af6327f33a", func := "commons/commonslaw20.RegionOnce", spec := "regionOnce", unfollowed := true, recurses := true, apart := false }
def RegionOnceSaid : Prop := regionOnceRow.holds Tryz.pinned (OpenSpec.ofChange regionOnceSpec)

/-- ITS FALSE NEIGHBOUR: 'it returns false'. Refute it at one input. -/
def regionOnceWrong : ChangeSpec := { name := "regionOnce", fn := fun _ => fun
  | [d1, d2, d3] => { results := [.lit (.bool false)], args := [d1, d2, d3] }
  | _ => none }
def RegionOnceWrongFalsely : Prop := regionOnceRow.holds Tryz.pinned (OpenSpec.ofChange regionOnceWrong)

/-- 'commonslaw20.RegionOwn': WHATEVER THE INPUT: true; the input reads as it did. -/
def regionOwnSpec : ChangeSpec := { name := "regionOwn", fn := fun _ => fun
  | [d1, d2] => { results := [.lit (.bool true)], args := [d1, d2] }
  | _ => none }
def regionOwnRow : OpenClaim := { program := "ytjgajoljgepioaagreat", sum := "44c2723b504cba03b88eafa4c50955d4acd6d8f25d50caf96ea176af6327f33a", func := "commons/commonslaw20.RegionOwn", spec := "regionOwn", unfollowed := true, recurses := true, apart := false }
def RegionOwnSaid : Prop := regionOwnRow.holds Tryz.pinned (OpenSpec.ofChange regionOwnSpec)

/-- ITS FALSE NEIGHBOUR: 'it returns false'. Refute it at one input. -/
def regionOwnWrong : ChangeSpec := { name := "regionOwn", fn := fun _ => fun
  | [d1, d2] => { results := [.lit (.bool false)], args := [d1, d2] }
  | _ => none }
def RegionOwnWrongFalsely : Prop := regionOwnRow.holds Tryz.pinned (OpenSpec.ofChange regionOwnWrong)

/- THE SECOND FORM. 'bulk': how many values and letters a reading holds, each counted each time it is reached (what is shared counts as often as it is met; a slice's spare places count too). A statement '..UptoSaid' is the law's where the arguments, and the package variables that the reading takes, are together of bulk at most 1048576: NARROWER than '..Said'. Prove '..Said' where nothing that the law and all that it calls make is longer than what came in: it says more and counts as full. Else prove '..UptoSaid'. A law counts once. -/
mutual
def uptoBulk {H : Type} : DataW H → Nat
  | .lit (.string bytes) => bytes.length + 1
  | .lit _ => 1
  | .nil => 1
  | .ptr d => uptoBulk d + 1
  | .slice elems spare => uptoBulkAll elems + uptoBulkAll spare + 1
  | .agg parts => uptoBulkAll parts + 1
  | .iface _ d => uptoBulk d + 1
  | .map entries => uptoBulkEntries entries + 1
  | .held _ => 1
def uptoBulkAll {H : Type} : List (DataW H) → Nat
  | [] => 0
  | d :: r => uptoBulk d + uptoBulkAll r
def uptoBulkEntries {H : Type} : List (Lit × DataW H) → Nat
  | [] => 0
  | x :: r => uptoBulkEntry x + uptoBulkEntries r
def uptoBulkEntry {H : Type} : Lit × DataW H → Nat
  | (.string bytes, d) => bytes.length + uptoBulk d + 1
  | (_, d) => uptoBulk d + 1
 end
def uptoSmall : (H : Type) → List (DataW H) → Bool := fun _ ds => decide (uptoBulkAll ds ≤ 1048576)
def OpenSpec.upto (s : _root_.Go.ChangeSpec) : _root_.Go.OpenSpec := { _root_.Go.OpenSpec.ofChange s with cond := some uptoSmall }

/-- 'commonslaw20.RegionPlays', WHERE WHAT IT READS IS OF BULK AT MOST 1048576: true; the input reads as it did. -/
def regionPlaysUptoRow : OpenClaim := { program := "ytjgajoljgepioaagreat", sum := "44c2723b504cba03b88eafa4c50955d4acd6d8f25d50caf96ea176af6327f33a", func := "commons/commonslaw20.RegionPlays", spec := "regionPlays", unfollowed := true, recurses := true, apart := false, narrowed := true }
def RegionPlaysUptoSaid : Prop := regionPlaysUptoRow.holds Tryz.pinned (OpenSpec.upto regionPlaysSpec)

/-- 'commonslaw20.RegionFenced', WHERE WHAT IT READS IS OF BULK AT MOST 1048576: true; the input reads as it did. -/
def regionFencedUptoRow : OpenClaim := { program := "ytjgajoljgepioaagreat", sum := "44c2723b504cba03b88eafa4c50955d4acd6d8f25d50caf96ea176af6327f33a", func := "commons/commonslaw20.RegionFenced", spec := "regionFenced", unfollowed := true, recurses := true, apart := false, narrowed := true }
def RegionFencedUptoSaid : Prop := regionFencedUptoRow.holds Tryz.pinned (OpenSpec.upto regionFencedSpec)

/-- 'commonslaw20.RegionOnce', WHERE WHAT IT READS IS OF BULK AT MOST 1048576: true; the input reads as it did. -/
def regionOnceUptoRow : OpenClaim := { program := "ytjgajoljgepioaagreat", sum := "44c2723b504cba03b88eafa4c50955d4acd6d8f25d50caf96ea176af6327f33a", func := "commons/commonslaw20.RegionOnce", spec := "regionOnce", unfollowed := true, recurses := true, apart := false, narrowed := true }
def RegionOnceUptoSaid : Prop := regionOnceUptoRow.holds Tryz.pinned (OpenSpec.upto regionOnceSpec)

/-- 'commonslaw20.RegionOwn', WHERE WHAT IT READS IS OF BULK AT MOST 1048576: true; the input reads as it did. -/
def regionOwnUptoRow : OpenClaim := { program := "ytjgajoljgepioaagreat", sum := "44c2723b504cba03b88eafa4c50955d4acd6d8f25d50caf96ea176af6327f33a", func := "commons/commonslaw20.RegionOwn", spec := "regionOwn", unfollowed := true, recurses := true, apart := false, narrowed := true }
def RegionOwnUptoSaid : Prop := regionOwnUptoRow.holds Tryz.pinned (OpenSpec.upto regionOwnSpec)

end Rows
end Go.Proofs.YtjgajoljgepioaaGreat
