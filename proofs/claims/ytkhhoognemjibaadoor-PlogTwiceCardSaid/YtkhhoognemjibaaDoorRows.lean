/-
  NARROWER THAN 'FOR EVERY INPUT', by the rows' own cells (each row's printed sentence says how): PlogEncodes: laid · PlogDecodes: laid · PlogRound: laid · PlogPlaces: laid · PlogTwice: laid · PlogOwns: laid.
  DERIVED. THE GIVEN ROWS OF THIS SEAT. 6 by the template 'for every input the law returns true; each argument reads behind the call as it read before'; 0 by the template 'total and deterministic' (their statements: YtkhhoognemjibaaDoorTotals.lean).
  GIVEN WITH THE SEED: the statements are not yours to turn. If you find one false, say at which input.
  Laid BY PROGRAM, IN A SANDBOX (cutbox-rows.mjs): the forced cells as the released guide's own fill.sh prints them over the translation a3d9a0c1e79bd61e… (all of the seat's roots in one cut). By AI agents, Wed Nov 11 2026. No macro, syntax, notation, axiom, sorry.
-/
import Derived.Test.YtkhhoognemjibaaDoorChecked
import GoSem.PinnedTables
import GoSem.Claim
import GoSem.ClaimJoined
import GoSem.ClaimMapViews
import Derived.JoinedTies
import Derived.KernelRfl
namespace Go.Proofs.YtkhhoognemjibaaDoor
/- THE CELL 'sum', in the pinned program and in every row, IS THE sha256 OF THE DUMP (.gsa) THAT YtkhhoognemjibaaDoorProg.lean LOADS. Nothing in Lean hashes anything: it is a label: what it is worth is what the hold of that sum in a sandbox is worth. -/
noncomputable def Tryd.pinned : Pinned := { name := "ytkhhoognemjibaadoor", sum := "a3d9a0c1e79bd61ee30b72ba1031a374d9e445300dd35a979c884bb707c2935a", checked := Tryd.checked }
namespace Rows
def none {H : Type} : Left H := { results := [], args := [] }

/- WHAT THE LISTED PACKAGE-LEVEL VARIABLES READ AS WHEN THE CALL BEGINS. Each datum BY PROGRAM (the guide's laid-datum.mjs) off the statement by which the dump's own 'gosem.cut.vars' lays the variable. In a bare row this is a premise. The card (YtkhhoognemjibaaDoorCards.lean) ties it to the program's text. -/
def laid_unicode_utf8_acceptRanges {H : Type} : DataW H := .agg [.agg [.lit (.int .u8 128), .lit (.int .u8 191)], .agg [.lit (.int .u8 160), .lit (.int .u8 191)], .agg [.lit (.int .u8 128), .lit (.int .u8 159)], .agg [.lit (.int .u8 144), .lit (.int .u8 191)], .agg [.lit (.int .u8 128), .lit (.int .u8 143)], .agg [.lit (.int .u8 0), .lit (.int .u8 0)], .agg [.lit (.int .u8 0), .lit (.int .u8 0)], .agg [.lit (.int .u8 0), .lit (.int .u8 0)], .agg [.lit (.int .u8 0), .lit (.int .u8 0)], .agg [.lit (.int .u8 0), .lit (.int .u8 0)], .agg [.lit (.int .u8 0), .lit (.int .u8 0)], .agg [.lit (.int .u8 0), .lit (.int .u8 0)], .agg [.lit (.int .u8 0), .lit (.int .u8 0)], .agg [.lit (.int .u8 0), .lit (.int .u8 0)], .agg [.lit (.int .u8 0), .lit (.int .u8 0)], .agg [.lit (.int .u8 0), .lit (.int .u8 0)]]
/-- One of Go's own tables, pinned by name: the form's constant. -/
def laid_unicode_utf8_first : DataW Unit := Go.Pinned.utf8First

/-- 'commonslaw08.PlogEncodes': WHATEVER THE INPUT: true; the input reads as it did. -/
def plogEncodesSpec : ChangeSpec := { name := "plogEncodes", fn := fun _ => fun
  | [d] => { results := [.lit (.bool true)], args := [d] }
  | _ => none }
def plogEncodesRow : OpenClaim := { program := "ytkhhoognemjibaadoor", sum := "a3d9a0c1e79bd61ee30b72ba1031a374d9e445300dd35a979c884bb707c2935a", func := "commons/commonslaw08.PlogEncodes", spec := "plogEncodes", inPlace := ["internal/bytealg.IndexByteString", "internal/bytealg.IndexString"], unfollowed := true, recurses := true, named := ["unicode/utf8.first", "unicode/utf8.acceptRanges", "internal/bytealg.MaxLen"], apart := false, laid := [("unicode/utf8.acceptRanges", laid_unicode_utf8_acceptRanges), ("unicode/utf8.first", laid_unicode_utf8_first)] }
def PlogEncodesSaid : Prop := plogEncodesRow.holds Tryd.pinned (OpenSpec.ofChange plogEncodesSpec)

/-- ITS FALSE NEIGHBOUR: 'it returns false'. Refute it at one input. -/
def plogEncodesWrong : ChangeSpec := { name := "plogEncodes", fn := fun _ => fun
  | [d] => { results := [.lit (.bool false)], args := [d] }
  | _ => none }
def PlogEncodesWrongFalsely : Prop := plogEncodesRow.holds Tryd.pinned (OpenSpec.ofChange plogEncodesWrong)

/-- 'commonslaw08.PlogDecodes': WHATEVER THE INPUT: true; the input reads as it did. -/
def plogDecodesSpec : ChangeSpec := { name := "plogDecodes", fn := fun _ => fun
  | [d] => { results := [.lit (.bool true)], args := [d] }
  | _ => none }
def plogDecodesRow : OpenClaim := { program := "ytkhhoognemjibaadoor", sum := "a3d9a0c1e79bd61ee30b72ba1031a374d9e445300dd35a979c884bb707c2935a", func := "commons/commonslaw08.PlogDecodes", spec := "plogDecodes", inPlace := ["internal/bytealg.IndexByteString", "internal/bytealg.IndexString"], unfollowed := true, recurses := true, named := ["unicode/utf8.first", "unicode/utf8.acceptRanges", "internal/bytealg.MaxLen"], apart := false, laid := [("unicode/utf8.acceptRanges", laid_unicode_utf8_acceptRanges), ("unicode/utf8.first", laid_unicode_utf8_first)] }
def PlogDecodesSaid : Prop := plogDecodesRow.holds Tryd.pinned (OpenSpec.ofChange plogDecodesSpec)

/-- ITS FALSE NEIGHBOUR: 'it returns false'. Refute it at one input. -/
def plogDecodesWrong : ChangeSpec := { name := "plogDecodes", fn := fun _ => fun
  | [d] => { results := [.lit (.bool false)], args := [d] }
  | _ => none }
def PlogDecodesWrongFalsely : Prop := plogDecodesRow.holds Tryd.pinned (OpenSpec.ofChange plogDecodesWrong)

/-- 'commonslaw08.PlogRound': WHATEVER THE INPUT: true; the input reads as it did. -/
def plogRoundSpec : ChangeSpec := { name := "plogRound", fn := fun _ => fun
  | [d1, d2] => { results := [.lit (.bool true)], args := [d1, d2] }
  | _ => none }
def plogRoundRow : OpenClaim := { program := "ytkhhoognemjibaadoor", sum := "a3d9a0c1e79bd61ee30b72ba1031a374d9e445300dd35a979c884bb707c2935a", func := "commons/commonslaw08.PlogRound", spec := "plogRound", inPlace := ["internal/bytealg.IndexByteString", "internal/bytealg.IndexString"], unfollowed := true, recurses := true, named := ["unicode/utf8.first", "unicode/utf8.acceptRanges", "internal/bytealg.MaxLen"], apart := false, laid := [("unicode/utf8.acceptRanges", laid_unicode_utf8_acceptRanges), ("unicode/utf8.first", laid_unicode_utf8_first)] }
def PlogRoundSaid : Prop := plogRoundRow.holds Tryd.pinned (OpenSpec.ofChange plogRoundSpec)

/-- ITS FALSE NEIGHBOUR: 'it returns false'. Refute it at one input. -/
def plogRoundWrong : ChangeSpec := { name := "plogRound", fn := fun _ => fun
  | [d1, d2] => { results := [.lit (.bool false)], args := [d1, d2] }
  | _ => none }
def PlogRoundWrongFalsely : Prop := plogRoundRow.holds Tryd.pinned (OpenSpec.ofChange plogRoundWrong)

/-- 'commonslaw08.PlogPlaces': WHATEVER THE INPUT: true; the input reads as it did. -/
def plogPlacesSpec : ChangeSpec := { name := "plogPlaces", fn := fun _ => fun
  | [d1, d2, d3] => { results := [.lit (.bool true)], args := [d1, d2, d3] }
  | _ => none }
def plogPlacesRow : OpenClaim := { program := "ytkhhoognemjibaadoor", sum := "a3d9a0c1e79bd61ee30b72ba1031a374d9e445300dd35a979c884bb707c2935a", func := "commons/commonslaw08.PlogPlaces", spec := "plogPlaces", inPlace := ["internal/bytealg.IndexByteString", "internal/bytealg.IndexString"], unfollowed := true, recurses := true, named := ["unicode/utf8.first", "unicode/utf8.acceptRanges", "internal/bytealg.MaxLen"], apart := false, laid := [("unicode/utf8.acceptRanges", laid_unicode_utf8_acceptRanges), ("unicode/utf8.first", laid_unicode_utf8_first)] }
def PlogPlacesSaid : Prop := plogPlacesRow.holds Tryd.pinned (OpenSpec.ofChange plogPlacesSpec)

/-- ITS FALSE NEIGHBOUR: 'it returns false'. Refute it at one input. -/
def plogPlacesWrong : ChangeSpec := { name := "plogPlaces", fn := fun _ => fun
  | [d1, d2, d3] => { results := [.lit (.bool false)], args := [d1, d2, d3] }
  | _ => none }
def PlogPlacesWrongFalsely : Prop := plogPlacesRow.holds Tryd.pinned (OpenSpec.ofChange plogPlacesWrong)

/-- 'commonslaw08.PlogTwice': WHATEVER THE INPUT: true; the input reads as it did. -/
def plogTwiceSpec : ChangeSpec := { name := "plogTwice", fn := fun _ => fun
  | [d1, d2, d3] => { results := [.lit (.bool true)], args := [d1, d2, d3] }
  | _ => none }
def plogTwiceRow : OpenClaim := { program := "ytkhhoognemjibaadoor", sum := "a3d9a0c1e79bd61ee30b72ba1031a374d9e445300dd35a979c884bb707c2935a", func := "commons/commonslaw08.PlogTwice", spec := "plogTwice", inPlace := ["internal/bytealg.IndexByteString", "internal/bytealg.IndexString"], unfollowed := true, recurses := true, named := ["unicode/utf8.first", "unicode/utf8.acceptRanges", "internal/bytealg.MaxLen"], apart := false, laid := [("unicode/utf8.acceptRanges", laid_unicode_utf8_acceptRanges), ("unicode/utf8.first", laid_unicode_utf8_first)] }
def PlogTwiceSaid : Prop := plogTwiceRow.holds Tryd.pinned (OpenSpec.ofChange plogTwiceSpec)

/-- ITS FALSE NEIGHBOUR: 'it returns false'. Refute it at one input. -/
def plogTwiceWrong : ChangeSpec := { name := "plogTwice", fn := fun _ => fun
  | [d1, d2, d3] => { results := [.lit (.bool false)], args := [d1, d2, d3] }
  | _ => none }
def PlogTwiceWrongFalsely : Prop := plogTwiceRow.holds Tryd.pinned (OpenSpec.ofChange plogTwiceWrong)

/-- 'commonslaw08.PlogOwns': WHATEVER THE INPUT: true; the input reads as it did. -/
def plogOwnsSpec : ChangeSpec := { name := "plogOwns", fn := fun _ => fun
  | [d] => { results := [.lit (.bool true)], args := [d] }
  | _ => none }
def plogOwnsRow : OpenClaim := { program := "ytkhhoognemjibaadoor", sum := "a3d9a0c1e79bd61ee30b72ba1031a374d9e445300dd35a979c884bb707c2935a", func := "commons/commonslaw08.PlogOwns", spec := "plogOwns", inPlace := ["internal/bytealg.IndexByteString", "internal/bytealg.IndexString"], unfollowed := true, recurses := true, named := ["unicode/utf8.first", "unicode/utf8.acceptRanges", "internal/bytealg.MaxLen"], apart := false, laid := [("unicode/utf8.acceptRanges", laid_unicode_utf8_acceptRanges), ("unicode/utf8.first", laid_unicode_utf8_first)] }
def PlogOwnsSaid : Prop := plogOwnsRow.holds Tryd.pinned (OpenSpec.ofChange plogOwnsSpec)

/-- ITS FALSE NEIGHBOUR: 'it returns false'. Refute it at one input. -/
def plogOwnsWrong : ChangeSpec := { name := "plogOwns", fn := fun _ => fun
  | [d] => { results := [.lit (.bool false)], args := [d] }
  | _ => none }
def PlogOwnsWrongFalsely : Prop := plogOwnsRow.holds Tryd.pinned (OpenSpec.ofChange plogOwnsWrong)

/- THE SECOND FORM. 'bulk': how many values and letters a reading holds, each counted each time it is reached (what is shared counts as often as it is met; a slice's spare places count too). A statement '..UptoSaid' is the law's where the arguments, and the package variables that the reading takes, are together of bulk at most 1048576: NARROWER than '..Said'. Prove '..Said' where nothing that the law and all that it calls make is longer than what came in: it says more and counts as full. Else prove '..UptoSaid'. A law counts once. -/
mutual
def uptoBulk {H : Type} : DataW H → Nat
  | .lit (.string bytes) => bytes.length + 1
  | .lit _ => 1
  | .nil => 1
  | .ptr d => uptoBulk d + 1
  | .slice elems spare => uptoBulkAll elems + uptoBulkAll spare + 1
  | .agg parts => uptoBulkAll parts + 1
  | .iface _ d => uptoBulk d + 1
  | .map entries => uptoBulkEntries entries + 1
  | .held _ => 1
def uptoBulkAll {H : Type} : List (DataW H) → Nat
  | [] => 0
  | d :: r => uptoBulk d + uptoBulkAll r
def uptoBulkEntries {H : Type} : List (Lit × DataW H) → Nat
  | [] => 0
  | x :: r => uptoBulkEntry x + uptoBulkEntries r
def uptoBulkEntry {H : Type} : Lit × DataW H → Nat
  | (.string bytes, d) => bytes.length + uptoBulk d + 1
  | (_, d) => uptoBulk d + 1
 end
def uptoSmall : (H : Type) → List (DataW H) → Bool := fun _ ds => decide (uptoBulkAll ds ≤ 1048576)
def OpenSpec.upto (s : _root_.Go.ChangeSpec) : _root_.Go.OpenSpec := { _root_.Go.OpenSpec.ofChange s with cond := some uptoSmall }

/-- 'commonslaw08.PlogEncodes', WHERE WHAT IT READS IS OF BULK AT MOST 1048576: true; the input reads as it did. -/
def plogEncodesUptoRow : OpenClaim := { program := "ytkhhoognemjibaadoor", sum := "a3d9a0c1e79bd61ee30b72ba1031a374d9e445300dd35a979c884bb707c2935a", func := "commons/commonslaw08.PlogEncodes", spec := "plogEncodes", inPlace := ["internal/bytealg.IndexByteString", "internal/bytealg.IndexString"], unfollowed := true, recurses := true, named := ["unicode/utf8.first", "unicode/utf8.acceptRanges", "internal/bytealg.MaxLen"], apart := false, laid := [("unicode/utf8.acceptRanges", laid_unicode_utf8_acceptRanges), ("unicode/utf8.first", laid_unicode_utf8_first)], narrowed := true }
def PlogEncodesUptoSaid : Prop := plogEncodesUptoRow.holds Tryd.pinned (OpenSpec.upto plogEncodesSpec)

/-- 'commonslaw08.PlogDecodes', WHERE WHAT IT READS IS OF BULK AT MOST 1048576: true; the input reads as it did. -/
def plogDecodesUptoRow : OpenClaim := { program := "ytkhhoognemjibaadoor", sum := "a3d9a0c1e79bd61ee30b72ba1031a374d9e445300dd35a979c884bb707c2935a", func := "commons/commonslaw08.PlogDecodes", spec := "plogDecodes", inPlace := ["internal/bytealg.IndexByteString", "internal/bytealg.IndexString"], unfollowed := true, recurses := true, named := ["unicode/utf8.first", "unicode/utf8.acceptRanges", "internal/bytealg.MaxLen"], apart := false, laid := [("unicode/utf8.acceptRanges", laid_unicode_utf8_acceptRanges), ("unicode/utf8.first", laid_unicode_utf8_first)], narrowed := true }
def PlogDecodesUptoSaid : Prop := plogDecodesUptoRow.holds Tryd.pinned (OpenSpec.upto plogDecodesSpec)

/-- 'commonslaw08.PlogRound', WHERE WHAT IT READS IS OF BULK AT MOST 1048576: true; the input reads as it did. -/
def plogRoundUptoRow : OpenClaim := { program := "ytkhhoognemjibaadoor", sum := "a3d9a0c1e79bd61ee30b72ba1031a374d9e445300dd35a979c884bb707c2935a", func := "commons/commonslaw08.PlogRound", spec := "plogRound", inPlace := ["internal/bytealg.IndexByteString", "internal/bytealg.IndexString"], unfollowed := true, recurses := true, named := ["unicode/utf8.first", "unicode/utf8.acceptRanges", "internal/bytealg.MaxLen"], apart := false, laid := [("unicode/utf8.acceptRanges", laid_unicode_utf8_acceptRanges), ("unicode/utf8.first", laid_unicode_utf8_first)], narrowed := true }
def PlogRoundUptoSaid : Prop := plogRoundUptoRow.holds Tryd.pinned (OpenSpec.upto plogRoundSpec)

/-- 'commonslaw08.PlogPlaces', WHERE WHAT IT READS IS OF BULK AT MOST 1048576: true; the input reads as it did. -/
def plogPlacesUptoRow : OpenClaim := { program := "ytkhhoognemjibaadoor", sum := "a3d9a0c1e79bd61ee30b72ba1031a374d9e445300dd35a979c884bb707c2935a", func := "commons/commonslaw08.PlogPlaces", spec := "plogPlaces", inPlace := ["internal/bytealg.IndexByteString", "internal/bytealg.IndexString"], unfollowed := true, recurses := true, named := ["unicode/utf8.first", "unicode/utf8.acceptRanges", "internal/bytealg.MaxLen"], apart := false, laid := [("unicode/utf8.acceptRanges", laid_unicode_utf8_acceptRanges), ("unicode/utf8.first", laid_unicode_utf8_first)], narrowed := true }
def PlogPlacesUptoSaid : Prop := plogPlacesUptoRow.holds Tryd.pinned (OpenSpec.upto plogPlacesSpec)

/-- 'commonslaw08.PlogTwice', WHERE WHAT IT READS IS OF BULK AT MOST 1048576: true; the input reads as it did. -/
def plogTwiceUptoRow : OpenClaim := { program := "ytkhhoognemjibaadoor", sum := "a3d9a0c1e79bd61ee30b72ba1031a374d9e445300dd35a979c884bb707c2935a", func := "commons/commonslaw08.PlogTwice", spec := "plogTwice", inPlace := ["internal/bytealg.IndexByteString", "internal/bytealg.IndexString"], unfollowed := true, recurses := true, named := ["unicode/utf8.first", "unicode/utf8.acceptRanges", "internal/bytealg.MaxLen"], apart := false, laid := [("unicode/utf8.acceptRanges", laid_unicode_utf8_acceptRanges), ("unicode/utf8.first", laid_unicode_utf8_first)], narrowed := true }
def PlogTwiceUptoSaid : Prop := plogTwiceUptoRow.holds Tryd.pinned (OpenSpec.upto plogTwiceSpec)

/-- 'commonslaw08.PlogOwns', WHERE WHAT IT READS IS OF BULK AT MOST 1048576: true; the input reads as it did. -/
def plogOwnsUptoRow : OpenClaim := { program := "ytkhhoognemjibaadoor", sum := "a3d9a0c1e79bd61ee30b72ba1031a374d9e445300dd35a979c884bb707c2935a", func := "commons/commonslaw08.PlogOwns", spec := "plogOwns", inPlace := ["internal/bytealg.IndexByteString", "internal/bytealg.IndexString"], unfollowed := true, recurses := true, named := ["unicode/utf8.first", "unicode/utf8.acceptRanges", "internal/bytealg.MaxLen"], apart := false, laid := [("unicode/utf8.acceptRanges", laid_unicode_utf8_acceptRanges), ("unicode/utf8.first", laid_unicode_utf8_first)], narrowed := true }
def PlogOwnsUptoSaid : Prop := plogOwnsUptoRow.holds Tryd.pinned (OpenSpec.upto plogOwnsSpec)

end Rows
end Go.Proofs.YtkhhoognemjibaaDoor
