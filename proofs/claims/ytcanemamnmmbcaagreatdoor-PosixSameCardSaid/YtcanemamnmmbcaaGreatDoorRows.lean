/-
  NARROWER THAN 'FOR EVERY INPUT', by the rows' own cells (each row's printed sentence says how): PosixPlays: laid · PosixRefuses: laid · PosixCopies: laid · PosixSame: laid · PosixReads: laid · PosixFds: laid · PosixNames: laid · PosixRenames: laid.
  DERIVED. THE GIVEN ROWS OF THIS SEAT. 8 by the template 'for every input the law returns true; each argument reads behind the call as it read before'; 0 by the template 'total and deterministic' (their statements: YtcanemamnmmbcaaGreatDoorTotals.lean).
  GIVEN WITH THE SEED: the statements are not yours to turn. If you find one false, say at which input.
  Laid BY PROGRAM, IN A SANDBOX (cutbox-rows.mjs): the forced cells as the released guide's own fill.sh prints them over the translation 25e3285d295bd858… (all of the seat's roots in one cut). By AI agents, Wed Nov 11 2026. No macro, syntax, notation, axiom, sorry.
-/
import Derived.Test.YtcanemamnmmbcaaGreatDoorChecked
import GoSem.PinnedTables
import GoSem.Claim
import GoSem.ClaimJoined
import GoSem.ClaimMapViews
import Derived.JoinedTies
import Derived.KernelRfl
namespace Go.Proofs.YtcanemamnmmbcaaGreatDoor
/- THE CELL 'sum', in the pinned program and in every row, IS THE sha256 OF THE DUMP (.gsa) THAT YtcanemamnmmbcaaGreatDoorProg.lean LOADS. Nothing in Lean hashes anything: it is a label: what it is worth is what the hold of that sum in a sandbox is worth. -/
noncomputable def Tryz.pinned : Pinned := { name := "ytcanemamnmmbcaagreatdoor", sum := "25e3285d295bd8583a0263480412a62393fe0b3327896cd79a7f066e9d748e2f", checked := Tryz.checked }
namespace Rows
def none {H : Type} : Left H := { results := [], args := [] }

/- WHAT THE LISTED PACKAGE-LEVEL VARIABLES READ AS WHEN THE CALL BEGINS. Each datum BY PROGRAM (the guide's laid-datum.mjs) off the statement by which the dump's own 'gosem.cut.vars' lays the variable. In a bare row this is a premise. The card (YtcanemamnmmbcaaGreatDoorCards.lean) ties it to the program's text. -/
def laid_unicode_utf8_acceptRanges {H : Type} : DataW H := .agg [.agg [.lit (.int .u8 128), .lit (.int .u8 191)], .agg [.lit (.int .u8 160), .lit (.int .u8 191)], .agg [.lit (.int .u8 128), .lit (.int .u8 159)], .agg [.lit (.int .u8 144), .lit (.int .u8 191)], .agg [.lit (.int .u8 128), .lit (.int .u8 143)], .agg [.lit (.int .u8 0), .lit (.int .u8 0)], .agg [.lit (.int .u8 0), .lit (.int .u8 0)], .agg [.lit (.int .u8 0), .lit (.int .u8 0)], .agg [.lit (.int .u8 0), .lit (.int .u8 0)], .agg [.lit (.int .u8 0), .lit (.int .u8 0)], .agg [.lit (.int .u8 0), .lit (.int .u8 0)], .agg [.lit (.int .u8 0), .lit (.int .u8 0)], .agg [.lit (.int .u8 0), .lit (.int .u8 0)], .agg [.lit (.int .u8 0), .lit (.int .u8 0)], .agg [.lit (.int .u8 0), .lit (.int .u8 0)], .agg [.lit (.int .u8 0), .lit (.int .u8 0)]]
/-- One of Go's own tables, pinned by name: the form's constant. -/
def laid_unicode_utf8_first : DataW Unit := Go.Pinned.utf8First

/-- 'commonslaw06.PosixPlays': WHATEVER THE INPUT: true; the input reads as it did. -/
def posixPlaysSpec : ChangeSpec := { name := "posixPlays", fn := fun _ => fun
  | [d] => { results := [.lit (.bool true)], args := [d] }
  | _ => none }
def posixPlaysRow : OpenClaim := { program := "ytcanemamnmmbcaagreatdoor", sum := "25e3285d295bd8583a0263480412a62393fe0b3327896cd79a7f066e9d748e2f", func := "commons/commonslaw06.PosixPlays", spec := "posixPlays", inPlace := ["internal/bytealg.CountString", "internal/bytealg.IndexByteString", "internal/bytealg.IndexString", "internal/abi.NoEscape", "internal/bytealg.MakeNoZero"], unfollowed := true, recurses := true, named := ["unicode/utf8.first", "unicode/utf8.acceptRanges", "internal/bytealg.MaxLen"], plainKeys := false, apart := false, laid := [("unicode/utf8.acceptRanges", laid_unicode_utf8_acceptRanges), ("unicode/utf8.first", laid_unicode_utf8_first)] }
def PosixPlaysSaid : Prop := posixPlaysRow.holds Tryz.pinned (OpenSpec.ofChange posixPlaysSpec)

/-- ITS FALSE NEIGHBOUR: 'it returns false'. Refute it at one input. -/
def posixPlaysWrong : ChangeSpec := { name := "posixPlays", fn := fun _ => fun
  | [d] => { results := [.lit (.bool false)], args := [d] }
  | _ => none }
def PosixPlaysWrongFalsely : Prop := posixPlaysRow.holds Tryz.pinned (OpenSpec.ofChange posixPlaysWrong)

/-- 'commonslaw06.PosixRefuses': WHATEVER THE INPUT: true; the input reads as it did. -/
def posixRefusesSpec : ChangeSpec := { name := "posixRefuses", fn := fun _ => fun
  | [d1, d2, d3] => { results := [.lit (.bool true)], args := [d1, d2, d3] }
  | _ => none }
def posixRefusesRow : OpenClaim := { program := "ytcanemamnmmbcaagreatdoor", sum := "25e3285d295bd8583a0263480412a62393fe0b3327896cd79a7f066e9d748e2f", func := "commons/commonslaw06.PosixRefuses", spec := "posixRefuses", inPlace := ["internal/bytealg.CountString", "internal/bytealg.IndexByteString", "internal/bytealg.IndexString", "internal/abi.NoEscape", "internal/bytealg.MakeNoZero"], unfollowed := true, recurses := true, named := ["unicode/utf8.first", "unicode/utf8.acceptRanges", "internal/bytealg.MaxLen"], plainKeys := false, apart := false, laid := [("unicode/utf8.acceptRanges", laid_unicode_utf8_acceptRanges), ("unicode/utf8.first", laid_unicode_utf8_first)] }
def PosixRefusesSaid : Prop := posixRefusesRow.holds Tryz.pinned (OpenSpec.ofChange posixRefusesSpec)

/-- ITS FALSE NEIGHBOUR: 'it returns false'. Refute it at one input. -/
def posixRefusesWrong : ChangeSpec := { name := "posixRefuses", fn := fun _ => fun
  | [d1, d2, d3] => { results := [.lit (.bool false)], args := [d1, d2, d3] }
  | _ => none }
def PosixRefusesWrongFalsely : Prop := posixRefusesRow.holds Tryz.pinned (OpenSpec.ofChange posixRefusesWrong)

/-- 'commonslaw06.PosixCopies': WHATEVER THE INPUT: true; the input reads as it did. -/
def posixCopiesSpec : ChangeSpec := { name := "posixCopies", fn := fun _ => fun
  | [d1, d2] => { results := [.lit (.bool true)], args := [d1, d2] }
  | _ => none }
def posixCopiesRow : OpenClaim := { program := "ytcanemamnmmbcaagreatdoor", sum := "25e3285d295bd8583a0263480412a62393fe0b3327896cd79a7f066e9d748e2f", func := "commons/commonslaw06.PosixCopies", spec := "posixCopies", inPlace := ["internal/bytealg.CountString", "internal/bytealg.IndexByteString", "internal/bytealg.IndexString", "internal/abi.NoEscape", "internal/bytealg.MakeNoZero"], unfollowed := true, recurses := true, named := ["unicode/utf8.first", "unicode/utf8.acceptRanges", "internal/bytealg.MaxLen"], plainKeys := false, apart := false, laid := [("unicode/utf8.acceptRanges", laid_unicode_utf8_acceptRanges), ("unicode/utf8.first", laid_unicode_utf8_first)] }
def PosixCopiesSaid : Prop := posixCopiesRow.holds Tryz.pinned (OpenSpec.ofChange posixCopiesSpec)

/-- ITS FALSE NEIGHBOUR: 'it returns false'. Refute it at one input. -/
def posixCopiesWrong : ChangeSpec := { name := "posixCopies", fn := fun _ => fun
  | [d1, d2] => { results := [.lit (.bool false)], args := [d1, d2] }
  | _ => none }
def PosixCopiesWrongFalsely : Prop := posixCopiesRow.holds Tryz.pinned (OpenSpec.ofChange posixCopiesWrong)

/-- 'commonslaw06.PosixSame': WHATEVER THE INPUT: true; the input reads as it did. -/
def posixSameSpec : ChangeSpec := { name := "posixSame", fn := fun _ => fun
  | [d1, d2, d3, d4] => { results := [.lit (.bool true)], args := [d1, d2, d3, d4] }
  | _ => none }
def posixSameRow : OpenClaim := { program := "ytcanemamnmmbcaagreatdoor", sum := "25e3285d295bd8583a0263480412a62393fe0b3327896cd79a7f066e9d748e2f", func := "commons/commonslaw06.PosixSame", spec := "posixSame", inPlace := ["internal/bytealg.CountString", "internal/bytealg.IndexByteString", "internal/bytealg.IndexString", "internal/abi.NoEscape", "internal/bytealg.MakeNoZero"], unfollowed := true, recurses := true, named := ["unicode/utf8.first", "unicode/utf8.acceptRanges", "internal/bytealg.MaxLen"], plainKeys := false, apart := false, laid := [("unicode/utf8.acceptRanges", laid_unicode_utf8_acceptRanges), ("unicode/utf8.first", laid_unicode_utf8_first)] }
def PosixSameSaid : Prop := posixSameRow.holds Tryz.pinned (OpenSpec.ofChange posixSameSpec)

/-- ITS FALSE NEIGHBOUR: 'it returns false'. Refute it at one input. -/
def posixSameWrong : ChangeSpec := { name := "posixSame", fn := fun _ => fun
  | [d1, d2, d3, d4] => { results := [.lit (.bool false)], args := [d1, d2, d3, d4] }
  | _ => none }
def PosixSameWrongFalsely : Prop := posixSameRow.holds Tryz.pinned (OpenSpec.ofChange posixSameWrong)

/-- 'commonslaw06.PosixReads': WHATEVER THE INPUT: true; the input reads as it did. -/
def posixReadsSpec : ChangeSpec := { name := "posixReads", fn := fun _ => fun
  | [d1, d2, d3, d4, d5, d6, d7] => { results := [.lit (.bool true)], args := [d1, d2, d3, d4, d5, d6, d7] }
  | _ => none }
def posixReadsRow : OpenClaim := { program := "ytcanemamnmmbcaagreatdoor", sum := "25e3285d295bd8583a0263480412a62393fe0b3327896cd79a7f066e9d748e2f", func := "commons/commonslaw06.PosixReads", spec := "posixReads", inPlace := ["internal/bytealg.CountString", "internal/bytealg.IndexByteString", "internal/bytealg.IndexString", "internal/abi.NoEscape", "internal/bytealg.MakeNoZero"], unfollowed := true, recurses := true, named := ["unicode/utf8.first", "unicode/utf8.acceptRanges", "internal/bytealg.MaxLen"], plainKeys := false, apart := false, laid := [("unicode/utf8.acceptRanges", laid_unicode_utf8_acceptRanges), ("unicode/utf8.first", laid_unicode_utf8_first)] }
def PosixReadsSaid : Prop := posixReadsRow.holds Tryz.pinned (OpenSpec.ofChange posixReadsSpec)

/-- ITS FALSE NEIGHBOUR: 'it returns false'. Refute it at one input. -/
def posixReadsWrong : ChangeSpec := { name := "posixReads", fn := fun _ => fun
  | [d1, d2, d3, d4, d5, d6, d7] => { results := [.lit (.bool false)], args := [d1, d2, d3, d4, d5, d6, d7] }
  | _ => none }
def PosixReadsWrongFalsely : Prop := posixReadsRow.holds Tryz.pinned (OpenSpec.ofChange posixReadsWrong)

/-- 'commonslaw06.PosixFds': WHATEVER THE INPUT: true; the input reads as it did. -/
def posixFdsSpec : ChangeSpec := { name := "posixFds", fn := fun _ => fun
  | [d1, d2, d3] => { results := [.lit (.bool true)], args := [d1, d2, d3] }
  | _ => none }
def posixFdsRow : OpenClaim := { program := "ytcanemamnmmbcaagreatdoor", sum := "25e3285d295bd8583a0263480412a62393fe0b3327896cd79a7f066e9d748e2f", func := "commons/commonslaw06.PosixFds", spec := "posixFds", inPlace := ["internal/bytealg.CountString", "internal/bytealg.IndexByteString", "internal/bytealg.IndexString", "internal/abi.NoEscape", "internal/bytealg.MakeNoZero"], unfollowed := true, recurses := true, named := ["unicode/utf8.first", "unicode/utf8.acceptRanges", "internal/bytealg.MaxLen"], plainKeys := false, apart := false, laid := [("unicode/utf8.acceptRanges", laid_unicode_utf8_acceptRanges), ("unicode/utf8.first", laid_unicode_utf8_first)] }
def PosixFdsSaid : Prop := posixFdsRow.holds Tryz.pinned (OpenSpec.ofChange posixFdsSpec)

/-- ITS FALSE NEIGHBOUR: 'it returns false'. Refute it at one input. -/
def posixFdsWrong : ChangeSpec := { name := "posixFds", fn := fun _ => fun
  | [d1, d2, d3] => { results := [.lit (.bool false)], args := [d1, d2, d3] }
  | _ => none }
def PosixFdsWrongFalsely : Prop := posixFdsRow.holds Tryz.pinned (OpenSpec.ofChange posixFdsWrong)

/-- 'commonslaw06.PosixNames': WHATEVER THE INPUT: true; the input reads as it did. -/
def posixNamesSpec : ChangeSpec := { name := "posixNames", fn := fun _ => fun
  | [d1, d2] => { results := [.lit (.bool true)], args := [d1, d2] }
  | _ => none }
def posixNamesRow : OpenClaim := { program := "ytcanemamnmmbcaagreatdoor", sum := "25e3285d295bd8583a0263480412a62393fe0b3327896cd79a7f066e9d748e2f", func := "commons/commonslaw06.PosixNames", spec := "posixNames", inPlace := ["internal/bytealg.CountString", "internal/bytealg.IndexByteString", "internal/bytealg.IndexString", "internal/abi.NoEscape", "internal/bytealg.MakeNoZero"], unfollowed := true, recurses := true, named := ["unicode/utf8.first", "unicode/utf8.acceptRanges", "internal/bytealg.MaxLen"], plainKeys := false, apart := false, laid := [("unicode/utf8.acceptRanges", laid_unicode_utf8_acceptRanges), ("unicode/utf8.first", laid_unicode_utf8_first)] }
def PosixNamesSaid : Prop := posixNamesRow.holds Tryz.pinned (OpenSpec.ofChange posixNamesSpec)

/-- ITS FALSE NEIGHBOUR: 'it returns false'. Refute it at one input. -/
def posixNamesWrong : ChangeSpec := { name := "posixNames", fn := fun _ => fun
  | [d1, d2] => { results := [.lit (.bool false)], args := [d1, d2] }
  | _ => none }
def PosixNamesWrongFalsely : Prop := posixNamesRow.holds Tryz.pinned (OpenSpec.ofChange posixNamesWrong)

/-- 'commonslaw06.PosixRenames': WHATEVER THE INPUT: true; the input reads as it did. -/
def posixRenamesSpec : ChangeSpec := { name := "posixRenames", fn := fun _ => fun
  | [d1, d2, d3] => { results := [.lit (.bool true)], args := [d1, d2, d3] }
  | _ => none }
def posixRenamesRow : OpenClaim := { program := "ytcanemamnmmbcaagreatdoor", sum := "25e3285d295bd8583a0263480412a62393fe0b3327896cd79a7f066e9d748e2f", func := "commons/commonslaw06.PosixRenames", spec := "posixRenames", inPlace := ["internal/bytealg.CountString", "internal/bytealg.IndexByteString", "internal/bytealg.IndexString", "internal/abi.NoEscape", "internal/bytealg.MakeNoZero"], unfollowed := true, recurses := true, named := ["unicode/utf8.first", "unicode/utf8.acceptRanges", "internal/bytealg.MaxLen"], plainKeys := false, apart := false, laid := [("unicode/utf8.acceptRanges", laid_unicode_utf8_acceptRanges), ("unicode/utf8.first", laid_unicode_utf8_first)] }
def PosixRenamesSaid : Prop := posixRenamesRow.holds Tryz.pinned (OpenSpec.ofChange posixRenamesSpec)

/-- ITS FALSE NEIGHBOUR: 'it returns false'. Refute it at one input. -/
def posixRenamesWrong : ChangeSpec := { name := "posixRenames", fn := fun _ => fun
  | [d1, d2, d3] => { results := [.lit (.bool false)], args := [d1, d2, d3] }
  | _ => none }
def PosixRenamesWrongFalsely : Prop := posixRenamesRow.holds Tryz.pinned (OpenSpec.ofChange posixRenamesWrong)

/- THE SECOND FORM. 'bulk': how many values and letters a reading holds, each counted each time it is reached (what is shared counts as often as it is met; a slice's spare places count too). A statement '..UptoSaid' is the law's where the arguments, and the package variables that the reading takes, are together of bulk at most 1048576: NARROWER than '..Said'. Prove '..Said' where nothing that the law and all that it calls make is longer than what came in: it says more and counts as full. Else prove '..UptoSaid'. A law counts once. -/
mutual
def uptoBulk {H : Type} : DataW H → Nat
  | .lit (.string bytes) => bytes.length + 1
  | .lit _ => 1
  | .nil => 1
  | .ptr d => uptoBulk d + 1
  | .slice elems spare => uptoBulkAll elems + uptoBulkAll spare + 1
  | .agg parts => uptoBulkAll parts + 1
  | .iface _ d => uptoBulk d + 1
  | .map entries => uptoBulkEntries entries + 1
  | .held _ => 1
def uptoBulkAll {H : Type} : List (DataW H) → Nat
  | [] => 0
  | d :: r => uptoBulk d + uptoBulkAll r
def uptoBulkEntries {H : Type} : List (Lit × DataW H) → Nat
  | [] => 0
  | x :: r => uptoBulkEntry x + uptoBulkEntries r
def uptoBulkEntry {H : Type} : Lit × DataW H → Nat
  | (.string bytes, d) => bytes.length + uptoBulk d + 1
  | (_, d) => uptoBulk d + 1
 end
def uptoSmall : (H : Type) → List (DataW H) → Bool := fun _ ds => decide (uptoBulkAll ds ≤ 1048576)
def OpenSpec.upto (s : _root_.Go.ChangeSpec) : _root_.Go.OpenSpec := { _root_.Go.OpenSpec.ofChange s with cond := some uptoSmall }

/-- 'commonslaw06.PosixPlays', WHERE WHAT IT READS IS OF BULK AT MOST 1048576: true; the input reads as it did. -/
def posixPlaysUptoRow : OpenClaim := { program := "ytcanemamnmmbcaagreatdoor", sum := "25e3285d295bd8583a0263480412a62393fe0b3327896cd79a7f066e9d748e2f", func := "commons/commonslaw06.PosixPlays", spec := "posixPlays", inPlace := ["internal/bytealg.CountString", "internal/bytealg.IndexByteString", "internal/bytealg.IndexString", "internal/abi.NoEscape", "internal/bytealg.MakeNoZero"], unfollowed := true, recurses := true, named := ["unicode/utf8.first", "unicode/utf8.acceptRanges", "internal/bytealg.MaxLen"], plainKeys := false, apart := false, laid := [("unicode/utf8.acceptRanges", laid_unicode_utf8_acceptRanges), ("unicode/utf8.first", laid_unicode_utf8_first)], narrowed := true }
def PosixPlaysUptoSaid : Prop := posixPlaysUptoRow.holds Tryz.pinned (OpenSpec.upto posixPlaysSpec)

/-- 'commonslaw06.PosixRefuses', WHERE WHAT IT READS IS OF BULK AT MOST 1048576: true; the input reads as it did. -/
def posixRefusesUptoRow : OpenClaim := { program := "ytcanemamnmmbcaagreatdoor", sum := "25e3285d295bd8583a0263480412a62393fe0b3327896cd79a7f066e9d748e2f", func := "commons/commonslaw06.PosixRefuses", spec := "posixRefuses", inPlace := ["internal/bytealg.CountString", "internal/bytealg.IndexByteString", "internal/bytealg.IndexString", "internal/abi.NoEscape", "internal/bytealg.MakeNoZero"], unfollowed := true, recurses := true, named := ["unicode/utf8.first", "unicode/utf8.acceptRanges", "internal/bytealg.MaxLen"], plainKeys := false, apart := false, laid := [("unicode/utf8.acceptRanges", laid_unicode_utf8_acceptRanges), ("unicode/utf8.first", laid_unicode_utf8_first)], narrowed := true }
def PosixRefusesUptoSaid : Prop := posixRefusesUptoRow.holds Tryz.pinned (OpenSpec.upto posixRefusesSpec)

/-- 'commonslaw06.PosixCopies', WHERE WHAT IT READS IS OF BULK AT MOST 1048576: true; the input reads as it did. -/
def posixCopiesUptoRow : OpenClaim := { program := "ytcanemamnmmbcaagreatdoor", sum := "25e3285d295bd8583a0263480412a62393fe0b3327896cd79a7f066e9d748e2f", func := "commons/commonslaw06.PosixCopies", spec := "posixCopies", inPlace := ["internal/bytealg.CountString", "internal/bytealg.IndexByteString", "internal/bytealg.IndexString", "internal/abi.NoEscape", "internal/bytealg.MakeNoZero"], unfollowed := true, recurses := true, named := ["unicode/utf8.first", "unicode/utf8.acceptRanges", "internal/bytealg.MaxLen"], plainKeys := false, apart := false, laid := [("unicode/utf8.acceptRanges", laid_unicode_utf8_acceptRanges), ("unicode/utf8.first", laid_unicode_utf8_first)], narrowed := true }
def PosixCopiesUptoSaid : Prop := posixCopiesUptoRow.holds Tryz.pinned (OpenSpec.upto posixCopiesSpec)

/-- 'commonslaw06.PosixSame', WHERE WHAT IT READS IS OF BULK AT MOST 1048576: true; the input reads as it did. -/
def posixSameUptoRow : OpenClaim := { program := "ytcanemamnmmbcaagreatdoor", sum := "25e3285d295bd8583a0263480412a62393fe0b3327896cd79a7f066e9d748e2f", func := "commons/commonslaw06.PosixSame", spec := "posixSame", inPlace := ["internal/bytealg.CountString", "internal/bytealg.IndexByteString", "internal/bytealg.IndexString", "internal/abi.NoEscape", "internal/bytealg.MakeNoZero"], unfollowed := true, recurses := true, named := ["unicode/utf8.first", "unicode/utf8.acceptRanges", "internal/bytealg.MaxLen"], plainKeys := false, apart := false, laid := [("unicode/utf8.acceptRanges", laid_unicode_utf8_acceptRanges), ("unicode/utf8.first", laid_unicode_utf8_first)], narrowed := true }
def PosixSameUptoSaid : Prop := posixSameUptoRow.holds Tryz.pinned (OpenSpec.upto posixSameSpec)

/-- 'commonslaw06.PosixReads', WHERE WHAT IT READS IS OF BULK AT MOST 1048576: true; the input reads as it did. -/
def posixReadsUptoRow : OpenClaim := { program := "ytcanemamnmmbcaagreatdoor", sum := "25e3285d295bd8583a0263480412a62393fe0b3327896cd79a7f066e9d748e2f", func := "commons/commonslaw06.PosixReads", spec := "posixReads", inPlace := ["internal/bytealg.CountString", "internal/bytealg.IndexByteString", "internal/bytealg.IndexString", "internal/abi.NoEscape", "internal/bytealg.MakeNoZero"], unfollowed := true, recurses := true, named := ["unicode/utf8.first", "unicode/utf8.acceptRanges", "internal/bytealg.MaxLen"], plainKeys := false, apart := false, laid := [("unicode/utf8.acceptRanges", laid_unicode_utf8_acceptRanges), ("unicode/utf8.first", laid_unicode_utf8_first)], narrowed := true }
def PosixReadsUptoSaid : Prop := posixReadsUptoRow.holds Tryz.pinned (OpenSpec.upto posixReadsSpec)

/-- 'commonslaw06.PosixFds', WHERE WHAT IT READS IS OF BULK AT MOST 1048576: true; the input reads as it did. -/
def posixFdsUptoRow : OpenClaim := { program := "ytcanemamnmmbcaagreatdoor", sum := "25e3285d295bd8583a0263480412a62393fe0b3327896cd79a7f066e9d748e2f", func := "commons/commonslaw06.PosixFds", spec := "posixFds", inPlace := ["internal/bytealg.CountString", "internal/bytealg.IndexByteString", "internal/bytealg.IndexString", "internal/abi.NoEscape", "internal/bytealg.MakeNoZero"], unfollowed := true, recurses := true, named := ["unicode/utf8.first", "unicode/utf8.acceptRanges", "internal/bytealg.MaxLen"], plainKeys := false, apart := false, laid := [("unicode/utf8.acceptRanges", laid_unicode_utf8_acceptRanges), ("unicode/utf8.first", laid_unicode_utf8_first)], narrowed := true }
def PosixFdsUptoSaid : Prop := posixFdsUptoRow.holds Tryz.pinned (OpenSpec.upto posixFdsSpec)

/-- 'commonslaw06.PosixNames', WHERE WHAT IT READS IS OF BULK AT MOST 1048576: true; the input reads as it did. -/
def posixNamesUptoRow : OpenClaim := { program := "ytcanemamnmmbcaagreatdoor", sum := "25e3285d295bd8583a0263480412a62393fe0b3327896cd79a7f066e9d748e2f", func := "commons/commonslaw06.PosixNames", spec := "posixNames", inPlace := ["internal/bytealg.CountString", "internal/bytealg.IndexByteString", "internal/bytealg.IndexString", "internal/abi.NoEscape", "internal/bytealg.MakeNoZero"], unfollowed := true, recurses := true, named := ["unicode/utf8.first", "unicode/utf8.acceptRanges", "internal/bytealg.MaxLen"], plainKeys := false, apart := false, laid := [("unicode/utf8.acceptRanges", laid_unicode_utf8_acceptRanges), ("unicode/utf8.first", laid_unicode_utf8_first)], narrowed := true }
def PosixNamesUptoSaid : Prop := posixNamesUptoRow.holds Tryz.pinned (OpenSpec.upto posixNamesSpec)

/-- 'commonslaw06.PosixRenames', WHERE WHAT IT READS IS OF BULK AT MOST 1048576: true; the input reads as it did. -/
def posixRenamesUptoRow : OpenClaim := { program := "ytcanemamnmmbcaagreatdoor", sum := "25e3285d295bd8583a0263480412a62393fe0b3327896cd79a7f066e9d748e2f", func := "commons/commonslaw06.PosixRenames", spec := "posixRenames", inPlace := ["internal/bytealg.CountString", "internal/bytealg.IndexByteString", "internal/bytealg.IndexString", "internal/abi.NoEscape", "internal/bytealg.MakeNoZero"], unfollowed := true, recurses := true, named := ["unicode/utf8.first", "unicode/utf8.acceptRanges", "internal/bytealg.MaxLen"], plainKeys := false, apart := false, laid := [("unicode/utf8.acceptRanges", laid_unicode_utf8_acceptRanges), ("unicode/utf8.first", laid_unicode_utf8_first)], narrowed := true }
def PosixRenamesUptoSaid : Prop := posixRenamesUptoRow.holds Tryz.pinned (OpenSpec.upto posixRenamesSpec)

end Rows
end Go.Proofs.YtcanemamnmmbcaaGreatDoor
