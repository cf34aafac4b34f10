/-
  No cell of these rows narrows 'for every input' (looked for: loops, veiled, ifaces, maps, wideKeys, modest, calm, conditions, laid).
  DERIVED. THE GIVEN ROWS OF THIS SEAT. 7 by the template 'for every input the law returns true; each argument reads behind the call as it read before'; 0 by the template 'total and deterministic' (their statements: YtejfkjfidhdfaaaTotals.lean).
  GIVEN WITH THE SEED: the statements are not yours to turn. If you find one false, say at which input.
  Laid BY PROGRAM, IN A SANDBOX (cutbox-rows.mjs): the forced cells as the released guide's own fill.sh prints them over the translation 6fe9902fd378fe9d… (all of the seat's roots in one cut). By AI agents, Wed Nov 11 2026. No macro, syntax, notation, axiom, sorry.
-/
import Derived.Test.YtejfkjfidhdfaaaChecked
import GoSem.Claim
import GoSem.ClaimJoined
import GoSem.ClaimMapViews
import Derived.JoinedTies
import Derived.KernelRfl
namespace Go.Proofs.Ytejfkjfidhdfaaa
/- THE CELL 'sum', in the pinned program and in every row, IS THE sha256 OF THE DUMP (.gsa) THAT YtejfkjfidhdfaaaProg.lean LOADS. Nothing in Lean hashes anything: it is a label: what it is worth is what the hold of that sum in a sandbox is worth. -/
noncomputable def Try.pinned : Pinned := { name := "ytejfkjfidhdfaaa", sum := "6fe9902fd378fe9d374bc5471f5bf91f33df365400b61924cc4526820b81d11a", checked := Try.checked }
namespace Rows
def none {H : Type} : Left H := { results := [], args := [] }

/-- 'commonslaw12.DirFinds': WHATEVER THE INPUT: true; the input reads as it did. -/
def dirFindsSpec : ChangeSpec := { name := "dirFinds", fn := fun _ => fun
  | [d1, d2] => { results := [.lit (.bool true)], args := [d1, d2] }
  | _ => none }
def dirFindsRow : OpenClaim := { program := "ytejfkjfidhdfaaa", sum := "6fe9902fd378fe9d374bc5471f5bf91f33df365400b61924cc4526820b81d11a", func := "commons/commonslaw12.DirFinds", spec := "dirFinds", unfollowed := true, recurses := true, apart := false }
def DirFindsSaid : Prop := dirFindsRow.holds Try.pinned (OpenSpec.ofChange dirFindsSpec)

/-- ITS FALSE NEIGHBOUR: 'it returns false'. Refute it at one input. -/
def dirFindsWrong : ChangeSpec := { name := "dirFinds", fn := fun _ => fun
  | [d1, d2] => { results := [.lit (.bool false)], args := [d1, d2] }
  | _ => none }
def DirFindsWrongFalsely : Prop := dirFindsRow.holds Try.pinned (OpenSpec.ofChange dirFindsWrong)

/-- 'commonslaw12.DirSets': WHATEVER THE INPUT: true; the input reads as it did. -/
def dirSetsSpec : ChangeSpec := { name := "dirSets", fn := fun _ => fun
  | [d1, d2, d3] => { results := [.lit (.bool true)], args := [d1, d2, d3] }
  | _ => none }
def dirSetsRow : OpenClaim := { program := "ytejfkjfidhdfaaa", sum := "6fe9902fd378fe9d374bc5471f5bf91f33df365400b61924cc4526820b81d11a", func := "commons/commonslaw12.DirSets", spec := "dirSets", unfollowed := true, recurses := true, apart := false }
def DirSetsSaid : Prop := dirSetsRow.holds Try.pinned (OpenSpec.ofChange dirSetsSpec)

/-- ITS FALSE NEIGHBOUR: 'it returns false'. Refute it at one input. -/
def dirSetsWrong : ChangeSpec := { name := "dirSets", fn := fun _ => fun
  | [d1, d2, d3] => { results := [.lit (.bool false)], args := [d1, d2, d3] }
  | _ => none }
def DirSetsWrongFalsely : Prop := dirSetsRow.holds Try.pinned (OpenSpec.ofChange dirSetsWrong)

/-- 'commonslaw12.DirNames': WHATEVER THE INPUT: true; the input reads as it did. -/
def dirNamesSpec : ChangeSpec := { name := "dirNames", fn := fun _ => fun
  | [d1, d2] => { results := [.lit (.bool true)], args := [d1, d2] }
  | _ => none }
def dirNamesRow : OpenClaim := { program := "ytejfkjfidhdfaaa", sum := "6fe9902fd378fe9d374bc5471f5bf91f33df365400b61924cc4526820b81d11a", func := "commons/commonslaw12.DirNames", spec := "dirNames", unfollowed := true, recurses := true, apart := false }
def DirNamesSaid : Prop := dirNamesRow.holds Try.pinned (OpenSpec.ofChange dirNamesSpec)

/-- ITS FALSE NEIGHBOUR: 'it returns false'. Refute it at one input. -/
def dirNamesWrong : ChangeSpec := { name := "dirNames", fn := fun _ => fun
  | [d1, d2] => { results := [.lit (.bool false)], args := [d1, d2] }
  | _ => none }
def DirNamesWrongFalsely : Prop := dirNamesRow.holds Try.pinned (OpenSpec.ofChange dirNamesWrong)

/-- 'commonslaw12.DirBlocks': WHATEVER THE INPUT: true; the input reads as it did. -/
def dirBlocksSpec : ChangeSpec := { name := "dirBlocks", fn := fun _ => fun
  | [d1, d2] => { results := [.lit (.bool true)], args := [d1, d2] }
  | _ => none }
def dirBlocksRow : OpenClaim := { program := "ytejfkjfidhdfaaa", sum := "6fe9902fd378fe9d374bc5471f5bf91f33df365400b61924cc4526820b81d11a", func := "commons/commonslaw12.DirBlocks", spec := "dirBlocks", unfollowed := true, recurses := true, apart := false }
def DirBlocksSaid : Prop := dirBlocksRow.holds Try.pinned (OpenSpec.ofChange dirBlocksSpec)

/-- ITS FALSE NEIGHBOUR: 'it returns false'. Refute it at one input. -/
def dirBlocksWrong : ChangeSpec := { name := "dirBlocks", fn := fun _ => fun
  | [d1, d2] => { results := [.lit (.bool false)], args := [d1, d2] }
  | _ => none }
def DirBlocksWrongFalsely : Prop := dirBlocksRow.holds Try.pinned (OpenSpec.ofChange dirBlocksWrong)

/-- 'commonslaw12.DirReads': WHATEVER THE INPUT: true; the input reads as it did. -/
def dirReadsSpec : ChangeSpec := { name := "dirReads", fn := fun _ => fun
  | [d1, d2, d3] => { results := [.lit (.bool true)], args := [d1, d2, d3] }
  | _ => none }
def dirReadsRow : OpenClaim := { program := "ytejfkjfidhdfaaa", sum := "6fe9902fd378fe9d374bc5471f5bf91f33df365400b61924cc4526820b81d11a", func := "commons/commonslaw12.DirReads", spec := "dirReads", unfollowed := true, recurses := true, apart := false }
def DirReadsSaid : Prop := dirReadsRow.holds Try.pinned (OpenSpec.ofChange dirReadsSpec)

/-- ITS FALSE NEIGHBOUR: 'it returns false'. Refute it at one input. -/
def dirReadsWrong : ChangeSpec := { name := "dirReads", fn := fun _ => fun
  | [d1, d2, d3] => { results := [.lit (.bool false)], args := [d1, d2, d3] }
  | _ => none }
def DirReadsWrongFalsely : Prop := dirReadsRow.holds Try.pinned (OpenSpec.ofChange dirReadsWrong)

/-- 'commonslaw12.DirRound': WHATEVER THE INPUT: true; the input reads as it did. -/
def dirRoundSpec : ChangeSpec := { name := "dirRound", fn := fun _ => fun
  | [d] => { results := [.lit (.bool true)], args := [d] }
  | _ => none }
def dirRoundRow : OpenClaim := { program := "ytejfkjfidhdfaaa", sum := "6fe9902fd378fe9d374bc5471f5bf91f33df365400b61924cc4526820b81d11a", func := "commons/commonslaw12.DirRound", spec := "dirRound", unfollowed := true, recurses := true, apart := false }
def DirRoundSaid : Prop := dirRoundRow.holds Try.pinned (OpenSpec.ofChange dirRoundSpec)

/-- ITS FALSE NEIGHBOUR: 'it returns false'. Refute it at one input. -/
def dirRoundWrong : ChangeSpec := { name := "dirRound", fn := fun _ => fun
  | [d] => { results := [.lit (.bool false)], args := [d] }
  | _ => none }
def DirRoundWrongFalsely : Prop := dirRoundRow.holds Try.pinned (OpenSpec.ofChange dirRoundWrong)

/-- 'commonslaw12.DirFill': WHATEVER THE INPUT: true; the input reads as it did. -/
def dirFillSpec : ChangeSpec := { name := "dirFill", fn := fun _ => fun
  | [d] => { results := [.lit (.bool true)], args := [d] }
  | _ => none }
def dirFillRow : OpenClaim := { program := "ytejfkjfidhdfaaa", sum := "6fe9902fd378fe9d374bc5471f5bf91f33df365400b61924cc4526820b81d11a", func := "commons/commonslaw12.DirFill", spec := "dirFill", unfollowed := true, recurses := true, apart := false }
def DirFillSaid : Prop := dirFillRow.holds Try.pinned (OpenSpec.ofChange dirFillSpec)

/-- ITS FALSE NEIGHBOUR: 'it returns false'. Refute it at one input. -/
def dirFillWrong : ChangeSpec := { name := "dirFill", fn := fun _ => fun
  | [d] => { results := [.lit (.bool false)], args := [d] }
  | _ => none }
def DirFillWrongFalsely : Prop := dirFillRow.holds Try.pinned (OpenSpec.ofChange dirFillWrong)

/- THE SECOND FORM. 'bulk': how many values and letters a reading holds, each counted each time it is reached (what is shared counts as often as it is met; a slice's spare places count too). A statement '..UptoSaid' is the law's where the arguments, and the package variables that the reading takes, are together of bulk at most 1048576: NARROWER than '..Said'. Prove '..Said' where nothing that the law and all that it calls make is longer than what came in: it says more and counts as full. Else prove '..UptoSaid'. A law counts once. -/
mutual
def uptoBulk {H : Type} : DataW H → Nat
  | .lit (.string bytes) => bytes.length + 1
  | .lit _ => 1
  | .nil => 1
  | .ptr d => uptoBulk d + 1
  | .slice elems spare => uptoBulkAll elems + uptoBulkAll spare + 1
  | .agg parts => uptoBulkAll parts + 1
  | .iface _ d => uptoBulk d + 1
  | .map entries => uptoBulkEntries entries + 1
  | .held _ => 1
def uptoBulkAll {H : Type} : List (DataW H) → Nat
  | [] => 0
  | d :: r => uptoBulk d + uptoBulkAll r
def uptoBulkEntries {H : Type} : List (Lit × DataW H) → Nat
  | [] => 0
  | x :: r => uptoBulkEntry x + uptoBulkEntries r
def uptoBulkEntry {H : Type} : Lit × DataW H → Nat
  | (.string bytes, d) => bytes.length + uptoBulk d + 1
  | (_, d) => uptoBulk d + 1
 end
def uptoSmall : (H : Type) → List (DataW H) → Bool := fun _ ds => decide (uptoBulkAll ds ≤ 1048576)
def OpenSpec.upto (s : _root_.Go.ChangeSpec) : _root_.Go.OpenSpec := { _root_.Go.OpenSpec.ofChange s with cond := some uptoSmall }

/-- 'commonslaw12.DirFinds', WHERE WHAT IT READS IS OF BULK AT MOST 1048576: true; the input reads as it did. -/
def dirFindsUptoRow : OpenClaim := { program := "ytejfkjfidhdfaaa", sum := "6fe9902fd378fe9d374bc5471f5bf91f33df365400b61924cc4526820b81d11a", func := "commons/commonslaw12.DirFinds", spec := "dirFinds", unfollowed := true, recurses := true, apart := false, narrowed := true }
def DirFindsUptoSaid : Prop := dirFindsUptoRow.holds Try.pinned (OpenSpec.upto dirFindsSpec)

/-- 'commonslaw12.DirSets', WHERE WHAT IT READS IS OF BULK AT MOST 1048576: true; the input reads as it did. -/
def dirSetsUptoRow : OpenClaim := { program := "ytejfkjfidhdfaaa", sum := "6fe9902fd378fe9d374bc5471f5bf91f33df365400b61924cc4526820b81d11a", func := "commons/commonslaw12.DirSets", spec := "dirSets", unfollowed := true, recurses := true, apart := false, narrowed := true }
def DirSetsUptoSaid : Prop := dirSetsUptoRow.holds Try.pinned (OpenSpec.upto dirSetsSpec)

/-- 'commonslaw12.DirNames', WHERE WHAT IT READS IS OF BULK AT MOST 1048576: true; the input reads as it did. -/
def dirNamesUptoRow : OpenClaim := { program := "ytejfkjfidhdfaaa", sum := "6fe9902fd378fe9d374bc5471f5bf91f33df365400b61924cc4526820b81d11a", func := "commons/commonslaw12.DirNames", spec := "dirNames", unfollowed := true, recurses := true, apart := false, narrowed := true }
def DirNamesUptoSaid : Prop := dirNamesUptoRow.holds Try.pinned (OpenSpec.upto dirNamesSpec)

/-- 'commonslaw12.DirBlocks', WHERE WHAT IT READS IS OF BULK AT MOST 1048576: true; the input reads as it did. -/
def dirBlocksUptoRow : OpenClaim := { program := "ytejfkjfidhdfaaa", sum := "6fe9902fd378fe9d374bc5471f5bf91f33df365400b61924cc4526820b81d11a", func := "commons/commonslaw12.DirBlocks", spec := "dirBlocks", unfollowed := true, recurses := true, apart := false, narrowed := true }
def DirBlocksUptoSaid : Prop := dirBlocksUptoRow.holds Try.pinned (OpenSpec.upto dirBlocksSpec)

/-- 'commonslaw12.DirReads', WHERE WHAT IT READS IS OF BULK AT MOST 1048576: true; the input reads as it did. -/
def dirReadsUptoRow : OpenClaim := { program := "ytejfkjfidhdfaaa", sum := "6fe9902fd378fe9d374bc5471f5bf91f33df365400b61924cc4526820b81d11a", func := "commons/commonslaw12.DirReads", spec := "dirReads", unfollowed := true, recurses := true, apart := false, narrowed := true }
def DirReadsUptoSaid : Prop := dirReadsUptoRow.holds Try.pinned (OpenSpec.upto dirReadsSpec)

/-- 'commonslaw12.DirRound', WHERE WHAT IT READS IS OF BULK AT MOST 1048576: true; the input reads as it did. -/
def dirRoundUptoRow : OpenClaim := { program := "ytejfkjfidhdfaaa", sum := "6fe9902fd378fe9d374bc5471f5bf91f33df365400b61924cc4526820b81d11a", func := "commons/commonslaw12.DirRound", spec := "dirRound", unfollowed := true, recurses := true, apart := false, narrowed := true }
def DirRoundUptoSaid : Prop := dirRoundUptoRow.holds Try.pinned (OpenSpec.upto dirRoundSpec)

/-- 'commonslaw12.DirFill', WHERE WHAT IT READS IS OF BULK AT MOST 1048576: true; the input reads as it did. -/
def dirFillUptoRow : OpenClaim := { program := "ytejfkjfidhdfaaa", sum := "6fe9902fd378fe9d374bc5471f5bf91f33df365400b61924cc4526820b81d11a", func := "commons/commonslaw12.DirFill", spec := "dirFill", unfollowed := true, recurses := true, apart := false, narrowed := true }
def DirFillUptoSaid : Prop := dirFillUptoRow.holds Try.pinned (OpenSpec.upto dirFillSpec)

end Rows
end Go.Proofs.Ytejfkjfidhdfaaa
