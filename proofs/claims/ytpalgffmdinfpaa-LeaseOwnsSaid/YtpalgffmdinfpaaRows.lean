/-
  No cell of these rows narrows 'for every input' (looked for: loops, veiled, ifaces, maps, wideKeys, modest, calm, conditions, laid).
  DERIVED. THE GIVEN ROWS OF THIS SEAT. 5 by the template 'for every input the law returns true; each argument reads behind the call as it read before'; 0 by the template 'total and deterministic' (their statements: YtpalgffmdinfpaaTotals.lean).
  GIVEN WITH THE SEED: the statements are not yours to turn. If you find one false, say at which input.
  Laid BY PROGRAM, IN A SANDBOX (cutbox-rows.mjs): the forced cells as the released guide's own fill.sh prints them over the translation b75d1bfa26577ae1… (all of the seat's roots in one cut). By AI agents, Wed Nov 11 2026. No macro, syntax, notation, axiom, sorry.
-/
import Derived.Test.YtpalgffmdinfpaaChecked
import GoSem.Claim
import GoSem.ClaimJoined
import GoSem.ClaimMapViews
import Derived.JoinedTies
import Derived.KernelRfl
namespace Go.Proofs.Ytpalgffmdinfpaa
/- THE CELL 'sum', in the pinned program and in every row, IS THE sha256 OF THE DUMP (.gsa) THAT YtpalgffmdinfpaaProg.lean LOADS. Nothing in Lean hashes anything: it is a label: what it is worth is what the hold of that sum in a sandbox is worth. -/
noncomputable def Try.pinned : Pinned := { name := "ytpalgffmdinfpaa", sum := "b75d1bfa26577ae1a0ea6704d19b8623c13043b5358e7d890eeb329378c1309a", checked := Try.checked }
namespace Rows
def none {H : Type} : Left H := { results := [], args := [] }

/-- 'commonslaw19.LeasePlays': WHATEVER THE INPUT: true; the input reads as it did. -/
def leasePlaysSpec : ChangeSpec := { name := "leasePlays", fn := fun _ => fun
  | [d] => { results := [.lit (.bool true)], args := [d] }
  | _ => none }
def leasePlaysRow : OpenClaim := { program := "ytpalgffmdinfpaa", sum := "b75d1bfa26577ae1a0ea6704d19b8623c13043b5358e7d890eeb329378c1309a", func := "commons/commonslaw19.LeasePlays", spec := "leasePlays", unfollowed := true, recurses := true, plainKeys := false, apart := false }
def LeasePlaysSaid : Prop := leasePlaysRow.holds Try.pinned (OpenSpec.ofChange leasePlaysSpec)

/-- ITS FALSE NEIGHBOUR: 'it returns false'. Refute it at one input. -/
def leasePlaysWrong : ChangeSpec := { name := "leasePlays", fn := fun _ => fun
  | [d] => { results := [.lit (.bool false)], args := [d] }
  | _ => none }
def LeasePlaysWrongFalsely : Prop := leasePlaysRow.holds Try.pinned (OpenSpec.ofChange leasePlaysWrong)

/-- 'commonslaw19.LeaseTogether': WHATEVER THE INPUT: true; the input reads as it did. -/
def leaseTogetherSpec : ChangeSpec := { name := "leaseTogether", fn := fun _ => fun
  | [d] => { results := [.lit (.bool true)], args := [d] }
  | _ => none }
def leaseTogetherRow : OpenClaim := { program := "ytpalgffmdinfpaa", sum := "b75d1bfa26577ae1a0ea6704d19b8623c13043b5358e7d890eeb329378c1309a", func := "commons/commonslaw19.LeaseTogether", spec := "leaseTogether", unfollowed := true, recurses := true, plainKeys := false, apart := false }
def LeaseTogetherSaid : Prop := leaseTogetherRow.holds Try.pinned (OpenSpec.ofChange leaseTogetherSpec)

/-- ITS FALSE NEIGHBOUR: 'it returns false'. Refute it at one input. -/
def leaseTogetherWrong : ChangeSpec := { name := "leaseTogether", fn := fun _ => fun
  | [d] => { results := [.lit (.bool false)], args := [d] }
  | _ => none }
def LeaseTogetherWrongFalsely : Prop := leaseTogetherRow.holds Try.pinned (OpenSpec.ofChange leaseTogetherWrong)

/-- 'commonslaw19.LeaseOver': WHATEVER THE INPUT: true; the input reads as it did. -/
def leaseOverSpec : ChangeSpec := { name := "leaseOver", fn := fun _ => fun
  | [d1, d2] => { results := [.lit (.bool true)], args := [d1, d2] }
  | _ => none }
def leaseOverRow : OpenClaim := { program := "ytpalgffmdinfpaa", sum := "b75d1bfa26577ae1a0ea6704d19b8623c13043b5358e7d890eeb329378c1309a", func := "commons/commonslaw19.LeaseOver", spec := "leaseOver", recurses := true, plainKeys := false, apart := false }
def LeaseOverSaid : Prop := leaseOverRow.holds Try.pinned (OpenSpec.ofChange leaseOverSpec)

/-- ITS FALSE NEIGHBOUR: 'it returns false'. Refute it at one input. -/
def leaseOverWrong : ChangeSpec := { name := "leaseOver", fn := fun _ => fun
  | [d1, d2] => { results := [.lit (.bool false)], args := [d1, d2] }
  | _ => none }
def LeaseOverWrongFalsely : Prop := leaseOverRow.holds Try.pinned (OpenSpec.ofChange leaseOverWrong)

/-- 'commonslaw19.LeaseWaits': WHATEVER THE INPUT: true; the input reads as it did. -/
def leaseWaitsSpec : ChangeSpec := { name := "leaseWaits", fn := fun _ => fun
  | [d1, d2, d3, d4, d5, d6] => { results := [.lit (.bool true)], args := [d1, d2, d3, d4, d5, d6] }
  | _ => none }
def leaseWaitsRow : OpenClaim := { program := "ytpalgffmdinfpaa", sum := "b75d1bfa26577ae1a0ea6704d19b8623c13043b5358e7d890eeb329378c1309a", func := "commons/commonslaw19.LeaseWaits", spec := "leaseWaits", recurses := true, plainKeys := false, apart := false }
def LeaseWaitsSaid : Prop := leaseWaitsRow.holds Try.pinned (OpenSpec.ofChange leaseWaitsSpec)

/-- ITS FALSE NEIGHBOUR: 'it returns false'. Refute it at one input. -/
def leaseWaitsWrong : ChangeSpec := { name := "leaseWaits", fn := fun _ => fun
  | [d1, d2, d3, d4, d5, d6] => { results := [.lit (.bool false)], args := [d1, d2, d3, d4, d5, d6] }
  | _ => none }
def LeaseWaitsWrongFalsely : Prop := leaseWaitsRow.holds Try.pinned (OpenSpec.ofChange leaseWaitsWrong)

/-- 'commonslaw19.LeaseOwns': WHATEVER THE INPUT: true; the input reads as it did. -/
def leaseOwnsSpec : ChangeSpec := { name := "leaseOwns", fn := fun _ => fun
  | [d] => { results := [.lit (.bool true)], args := [d] }
  | _ => none }
def leaseOwnsRow : OpenClaim := { program := "ytpalgffmdinfpaa", sum := "b75d1bfa26577ae1a0ea6704d19b8623c13043b5358e7d890eeb329378c1309a", func := "commons/commonslaw19.LeaseOwns", spec := "leaseOwns", unfollowed := true, recurses := true, plainKeys := false, apart := false }
def LeaseOwnsSaid : Prop := leaseOwnsRow.holds Try.pinned (OpenSpec.ofChange leaseOwnsSpec)

/-- ITS FALSE NEIGHBOUR: 'it returns false'. Refute it at one input. -/
def leaseOwnsWrong : ChangeSpec := { name := "leaseOwns", fn := fun _ => fun
  | [d] => { results := [.lit (.bool false)], args := [d] }
  | _ => none }
def LeaseOwnsWrongFalsely : Prop := leaseOwnsRow.holds Try.pinned (OpenSpec.ofChange leaseOwnsWrong)

/- THE SECOND FORM. 'bulk': how many values and letters a reading holds, each counted each time it is reached (what is shared counts as often as it is met; a slice's spare places count too). A statement '..UptoSaid' is the law's where the arguments, and the package variables that the reading takes, are together of bulk at most 1048576: NARROWER than '..Said'. Prove '..Said' where nothing that the law and all that it calls make is longer than what came in: it says more and counts as full. Else prove '..UptoSaid'. A law counts once. -/
mutual
def uptoBulk {H : Type} : DataW H → Nat
  | .lit (.string bytes) => bytes.length + 1
  | .lit _ => 1
  | .nil => 1
  | .ptr d => uptoBulk d + 1
  | .slice elems spare => uptoBulkAll elems + uptoBulkAll spare + 1
  | .agg parts => uptoBulkAll parts + 1
  | .iface _ d => uptoBulk d + 1
  | .map entries => uptoBulkEntries entries + 1
  | .held _ => 1
def uptoBulkAll {H : Type} : List (DataW H) → Nat
  | [] => 0
  | d :: r => uptoBulk d + uptoBulkAll r
def uptoBulkEntries {H : Type} : List (Lit × DataW H) → Nat
  | [] => 0
  | x :: r => uptoBulkEntry x + uptoBulkEntries r
def uptoBulkEntry {H : Type} : Lit × DataW H → Nat
  | (.string bytes, d) => bytes.length + uptoBulk d + 1
  | (_, d) => uptoBulk d + 1
 end
def uptoSmall : (H : Type) → List (DataW H) → Bool := fun _ ds => decide (uptoBulkAll ds ≤ 1048576)
def OpenSpec.upto (s : _root_.Go.ChangeSpec) : _root_.Go.OpenSpec := { _root_.Go.OpenSpec.ofChange s with cond := some uptoSmall }

/-- 'commonslaw19.LeasePlays', WHERE WHAT IT READS IS OF BULK AT MOST 1048576: true; the input reads as it did. -/
def leasePlaysUptoRow : OpenClaim := { program := "ytpalgffmdinfpaa", sum := "b75d1bfa26577ae1a0ea6704d19b8623c13043b5358e7d890eeb329378c1309a", func := "commons/commonslaw19.LeasePlays", spec := "leasePlays", unfollowed := true, recurses := true, plainKeys := false, apart := false, narrowed := true }
def LeasePlaysUptoSaid : Prop := leasePlaysUptoRow.holds Try.pinned (OpenSpec.upto leasePlaysSpec)

/-- 'commonslaw19.LeaseTogether', WHERE WHAT IT READS IS OF BULK AT MOST 1048576: true; the input reads as it did. -/
def leaseTogetherUptoRow : OpenClaim := { program := "ytpalgffmdinfpaa", sum := "b75d1bfa26577ae1a0ea6704d19b8623c13043b5358e7d890eeb329378c1309a", func := "commons/commonslaw19.LeaseTogether", spec := "leaseTogether", unfollowed := true, recurses := true, plainKeys := false, apart := false, narrowed := true }
def LeaseTogetherUptoSaid : Prop := leaseTogetherUptoRow.holds Try.pinned (OpenSpec.upto leaseTogetherSpec)

/-- 'commonslaw19.LeaseOver', WHERE WHAT IT READS IS OF BULK AT MOST 1048576: true; the input reads as it did. -/
def leaseOverUptoRow : OpenClaim := { program := "ytpalgffmdinfpaa", sum := "b75d1bfa26577ae1a0ea6704d19b8623c13043b5358e7d890eeb329378c1309a", func := "commons/commonslaw19.LeaseOver", spec := "leaseOver", recurses := true, plainKeys := false, apart := false, narrowed := true }
def LeaseOverUptoSaid : Prop := leaseOverUptoRow.holds Try.pinned (OpenSpec.upto leaseOverSpec)

/-- 'commonslaw19.LeaseWaits', WHERE WHAT IT READS IS OF BULK AT MOST 1048576: true; the input reads as it did. -/
def leaseWaitsUptoRow : OpenClaim := { program := "ytpalgffmdinfpaa", sum := "b75d1bfa26577ae1a0ea6704d19b8623c13043b5358e7d890eeb329378c1309a", func := "commons/commonslaw19.LeaseWaits", spec := "leaseWaits", recurses := true, plainKeys := false, apart := false, narrowed := true }
def LeaseWaitsUptoSaid : Prop := leaseWaitsUptoRow.holds Try.pinned (OpenSpec.upto leaseWaitsSpec)

/-- 'commonslaw19.LeaseOwns', WHERE WHAT IT READS IS OF BULK AT MOST 1048576: true; the input reads as it did. -/
def leaseOwnsUptoRow : OpenClaim := { program := "ytpalgffmdinfpaa", sum := "b75d1bfa26577ae1a0ea6704d19b8623c13043b5358e7d890eeb329378c1309a", func := "commons/commonslaw19.LeaseOwns", spec := "leaseOwns", unfollowed := true, recurses := true, plainKeys := false, apart := false, narrowed := true }
def LeaseOwnsUptoSaid : Prop := leaseOwnsUptoRow.holds Try.pinned (OpenSpec.upto leaseOwnsSpec)

end Rows
end Go.Proofs.Ytpalgffmdinfpaa
