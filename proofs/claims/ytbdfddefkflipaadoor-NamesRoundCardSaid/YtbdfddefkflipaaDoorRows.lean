/-
  NARROWER THAN 'FOR EVERY INPUT', by the rows' own cells (each row's printed sentence says how): NamesMay: laid · NamesPaths: laid · NamesParents: laid · NamesJoins: laid · NamesRound: laid · NamesHashes: laid · NamesInside: laid · NamesOwns: laid.
  DERIVED. THE GIVEN ROWS OF THIS SEAT. 8 by the template 'for every input the law returns true; each argument reads behind the call as it read before'; 0 by the template 'total and deterministic' (their statements: YtbdfddefkflipaaDoorTotals.lean).
  GIVEN WITH THE SEED: the statements are not yours to turn. If you find one false, say at which input.
  Laid BY PROGRAM, IN A SANDBOX (cutbox-rows.mjs): the forced cells as the released guide's own fill.sh prints them over the translation c7792e48c0febb89… (all of the seat's roots in one cut). By AI agents, Wed Nov 11 2026. No macro, syntax, notation, axiom, sorry.
-/
import Derived.Test.YtbdfddefkflipaaDoorChecked
import GoSem.PinnedTables
import GoSem.Claim
import GoSem.ClaimJoined
import GoSem.ClaimMapViews
import Derived.JoinedTies
import Derived.KernelRfl
namespace Go.Proofs.YtbdfddefkflipaaDoor
/- THE CELL 'sum', in the pinned program and in every row, IS THE sha256 OF THE DUMP (.gsa) THAT YtbdfddefkflipaaDoorProg.lean LOADS. Nothing in Lean hashes anything: it is a label: what it is worth is what the hold of that sum in a sandbox is worth. -/
noncomputable def Tryd.pinned : Pinned := { name := "ytbdfddefkflipaadoor", sum := "c7792e48c0febb895e2240636735e9f6555171a737ba2a76c4836da107299f14", checked := Tryd.checked }
namespace Rows
def none {H : Type} : Left H := { results := [], args := [] }

/- WHAT THE LISTED PACKAGE-LEVEL VARIABLES READ AS WHEN THE CALL BEGINS. Each datum BY PROGRAM (the guide's laid-datum.mjs) off the statement by which the dump's own 'gosem.cut.vars' lays the variable. In a bare row this is a premise. The card (YtbdfddefkflipaaDoorCards.lean) ties it to the program's text. -/
def laid_unicode_utf8_acceptRanges {H : Type} : DataW H := .agg [.agg [.lit (.int .u8 128), .lit (.int .u8 191)], .agg [.lit (.int .u8 160), .lit (.int .u8 191)], .agg [.lit (.int .u8 128), .lit (.int .u8 159)], .agg [.lit (.int .u8 144), .lit (.int .u8 191)], .agg [.lit (.int .u8 128), .lit (.int .u8 143)], .agg [.lit (.int .u8 0), .lit (.int .u8 0)], .agg [.lit (.int .u8 0), .lit (.int .u8 0)], .agg [.lit (.int .u8 0), .lit (.int .u8 0)], .agg [.lit (.int .u8 0), .lit (.int .u8 0)], .agg [.lit (.int .u8 0), .lit (.int .u8 0)], .agg [.lit (.int .u8 0), .lit (.int .u8 0)], .agg [.lit (.int .u8 0), .lit (.int .u8 0)], .agg [.lit (.int .u8 0), .lit (.int .u8 0)], .agg [.lit (.int .u8 0), .lit (.int .u8 0)], .agg [.lit (.int .u8 0), .lit (.int .u8 0)], .agg [.lit (.int .u8 0), .lit (.int .u8 0)]]
/-- One of Go's own tables, pinned by name: the form's constant. -/
def laid_unicode_utf8_first : DataW Unit := Go.Pinned.utf8First

/-- 'commonslaw05.NamesMay': WHATEVER THE INPUT: true; the input reads as it did. -/
def namesMaySpec : ChangeSpec := { name := "namesMay", fn := fun _ => fun
  | [d] => { results := [.lit (.bool true)], args := [d] }
  | _ => none }
def namesMayRow : OpenClaim := { program := "ytbdfddefkflipaadoor", sum := "c7792e48c0febb895e2240636735e9f6555171a737ba2a76c4836da107299f14", func := "commons/commonslaw05.NamesMay", spec := "namesMay", inPlace := ["internal/bytealg.CountString", "internal/bytealg.IndexByteString", "internal/bytealg.IndexString"], named := ["unicode/utf8.first", "unicode/utf8.acceptRanges", "internal/bytealg.MaxLen"], apart := false, laid := [("unicode/utf8.acceptRanges", laid_unicode_utf8_acceptRanges), ("unicode/utf8.first", laid_unicode_utf8_first)] }
def NamesMaySaid : Prop := namesMayRow.holds Tryd.pinned (OpenSpec.ofChange namesMaySpec)

/-- ITS FALSE NEIGHBOUR: 'it returns false'. Refute it at one input. -/
def namesMayWrong : ChangeSpec := { name := "namesMay", fn := fun _ => fun
  | [d] => { results := [.lit (.bool false)], args := [d] }
  | _ => none }
def NamesMayWrongFalsely : Prop := namesMayRow.holds Tryd.pinned (OpenSpec.ofChange namesMayWrong)

/-- 'commonslaw05.NamesPaths': WHATEVER THE INPUT: true; the input reads as it did. -/
def namesPathsSpec : ChangeSpec := { name := "namesPaths", fn := fun _ => fun
  | [d] => { results := [.lit (.bool true)], args := [d] }
  | _ => none }
def namesPathsRow : OpenClaim := { program := "ytbdfddefkflipaadoor", sum := "c7792e48c0febb895e2240636735e9f6555171a737ba2a76c4836da107299f14", func := "commons/commonslaw05.NamesPaths", spec := "namesPaths", inPlace := ["internal/bytealg.CountString", "internal/bytealg.IndexByteString", "internal/bytealg.IndexString"], named := ["unicode/utf8.first", "unicode/utf8.acceptRanges", "internal/bytealg.MaxLen"], apart := false, laid := [("unicode/utf8.acceptRanges", laid_unicode_utf8_acceptRanges), ("unicode/utf8.first", laid_unicode_utf8_first)] }
def NamesPathsSaid : Prop := namesPathsRow.holds Tryd.pinned (OpenSpec.ofChange namesPathsSpec)

/-- ITS FALSE NEIGHBOUR: 'it returns false'. Refute it at one input. -/
def namesPathsWrong : ChangeSpec := { name := "namesPaths", fn := fun _ => fun
  | [d] => { results := [.lit (.bool false)], args := [d] }
  | _ => none }
def NamesPathsWrongFalsely : Prop := namesPathsRow.holds Tryd.pinned (OpenSpec.ofChange namesPathsWrong)

/-- 'commonslaw05.NamesParents': WHATEVER THE INPUT: true; the input reads as it did. -/
def namesParentsSpec : ChangeSpec := { name := "namesParents", fn := fun _ => fun
  | [d] => { results := [.lit (.bool true)], args := [d] }
  | _ => none }
def namesParentsRow : OpenClaim := { program := "ytbdfddefkflipaadoor", sum := "c7792e48c0febb895e2240636735e9f6555171a737ba2a76c4836da107299f14", func := "commons/commonslaw05.NamesParents", spec := "namesParents", inPlace := ["internal/bytealg.CountString", "internal/bytealg.IndexByteString", "internal/bytealg.IndexString"], named := ["unicode/utf8.first", "unicode/utf8.acceptRanges", "internal/bytealg.MaxLen"], apart := false, laid := [("unicode/utf8.acceptRanges", laid_unicode_utf8_acceptRanges), ("unicode/utf8.first", laid_unicode_utf8_first)] }
def NamesParentsSaid : Prop := namesParentsRow.holds Tryd.pinned (OpenSpec.ofChange namesParentsSpec)

/-- ITS FALSE NEIGHBOUR: 'it returns false'. Refute it at one input. -/
def namesParentsWrong : ChangeSpec := { name := "namesParents", fn := fun _ => fun
  | [d] => { results := [.lit (.bool false)], args := [d] }
  | _ => none }
def NamesParentsWrongFalsely : Prop := namesParentsRow.holds Tryd.pinned (OpenSpec.ofChange namesParentsWrong)

/-- 'commonslaw05.NamesJoins': WHATEVER THE INPUT: true; the input reads as it did. -/
def namesJoinsSpec : ChangeSpec := { name := "namesJoins", fn := fun _ => fun
  | [d] => { results := [.lit (.bool true)], args := [d] }
  | _ => none }
def namesJoinsRow : OpenClaim := { program := "ytbdfddefkflipaadoor", sum := "c7792e48c0febb895e2240636735e9f6555171a737ba2a76c4836da107299f14", func := "commons/commonslaw05.NamesJoins", spec := "namesJoins", inPlace := ["internal/abi.NoEscape", "internal/bytealg.MakeNoZero", "internal/bytealg.CountString", "internal/bytealg.IndexByteString", "internal/bytealg.IndexString"], named := ["unicode/utf8.first", "unicode/utf8.acceptRanges", "internal/bytealg.MaxLen"], apart := false, laid := [("unicode/utf8.acceptRanges", laid_unicode_utf8_acceptRanges), ("unicode/utf8.first", laid_unicode_utf8_first)] }
def NamesJoinsSaid : Prop := namesJoinsRow.holds Tryd.pinned (OpenSpec.ofChange namesJoinsSpec)

/-- ITS FALSE NEIGHBOUR: 'it returns false'. Refute it at one input. -/
def namesJoinsWrong : ChangeSpec := { name := "namesJoins", fn := fun _ => fun
  | [d] => { results := [.lit (.bool false)], args := [d] }
  | _ => none }
def NamesJoinsWrongFalsely : Prop := namesJoinsRow.holds Tryd.pinned (OpenSpec.ofChange namesJoinsWrong)

/-- 'commonslaw05.NamesRound': WHATEVER THE INPUT: true; the input reads as it did. -/
def namesRoundSpec : ChangeSpec := { name := "namesRound", fn := fun _ => fun
  | [d1, d2] => { results := [.lit (.bool true)], args := [d1, d2] }
  | _ => none }
def namesRoundRow : OpenClaim := { program := "ytbdfddefkflipaadoor", sum := "c7792e48c0febb895e2240636735e9f6555171a737ba2a76c4836da107299f14", func := "commons/commonslaw05.NamesRound", spec := "namesRound", inPlace := ["internal/bytealg.CountString", "internal/bytealg.IndexByteString", "internal/bytealg.IndexString", "internal/abi.NoEscape", "internal/bytealg.MakeNoZero"], named := ["unicode/utf8.first", "unicode/utf8.acceptRanges", "internal/bytealg.MaxLen"], apart := false, laid := [("unicode/utf8.acceptRanges", laid_unicode_utf8_acceptRanges), ("unicode/utf8.first", laid_unicode_utf8_first)] }
def NamesRoundSaid : Prop := namesRoundRow.holds Tryd.pinned (OpenSpec.ofChange namesRoundSpec)

/-- ITS FALSE NEIGHBOUR: 'it returns false'. Refute it at one input. -/
def namesRoundWrong : ChangeSpec := { name := "namesRound", fn := fun _ => fun
  | [d1, d2] => { results := [.lit (.bool false)], args := [d1, d2] }
  | _ => none }
def NamesRoundWrongFalsely : Prop := namesRoundRow.holds Tryd.pinned (OpenSpec.ofChange namesRoundWrong)

/-- 'commonslaw05.NamesHashes': WHATEVER THE INPUT: true; the input reads as it did. -/
def namesHashesSpec : ChangeSpec := { name := "namesHashes", fn := fun _ => fun
  | [d] => { results := [.lit (.bool true)], args := [d] }
  | _ => none }
def namesHashesRow : OpenClaim := { program := "ytbdfddefkflipaadoor", sum := "c7792e48c0febb895e2240636735e9f6555171a737ba2a76c4836da107299f14", func := "commons/commonslaw05.NamesHashes", spec := "namesHashes", inPlace := ["internal/bytealg.CountString", "internal/bytealg.IndexByteString", "internal/bytealg.IndexString"], named := ["unicode/utf8.first", "unicode/utf8.acceptRanges", "internal/bytealg.MaxLen"], apart := false, laid := [("unicode/utf8.acceptRanges", laid_unicode_utf8_acceptRanges), ("unicode/utf8.first", laid_unicode_utf8_first)] }
def NamesHashesSaid : Prop := namesHashesRow.holds Tryd.pinned (OpenSpec.ofChange namesHashesSpec)

/-- ITS FALSE NEIGHBOUR: 'it returns false'. Refute it at one input. -/
def namesHashesWrong : ChangeSpec := { name := "namesHashes", fn := fun _ => fun
  | [d] => { results := [.lit (.bool false)], args := [d] }
  | _ => none }
def NamesHashesWrongFalsely : Prop := namesHashesRow.holds Tryd.pinned (OpenSpec.ofChange namesHashesWrong)

/-- 'commonslaw05.NamesInside': WHATEVER THE INPUT: true; the input reads as it did. -/
def namesInsideSpec : ChangeSpec := { name := "namesInside", fn := fun _ => fun
  | [d1, d2] => { results := [.lit (.bool true)], args := [d1, d2] }
  | _ => none }
def namesInsideRow : OpenClaim := { program := "ytbdfddefkflipaadoor", sum := "c7792e48c0febb895e2240636735e9f6555171a737ba2a76c4836da107299f14", func := "commons/commonslaw05.NamesInside", spec := "namesInside", inPlace := ["internal/bytealg.CountString", "internal/bytealg.IndexByteString", "internal/bytealg.IndexString"], named := ["unicode/utf8.first", "unicode/utf8.acceptRanges", "internal/bytealg.MaxLen"], apart := false, laid := [("unicode/utf8.acceptRanges", laid_unicode_utf8_acceptRanges), ("unicode/utf8.first", laid_unicode_utf8_first)] }
def NamesInsideSaid : Prop := namesInsideRow.holds Tryd.pinned (OpenSpec.ofChange namesInsideSpec)

/-- ITS FALSE NEIGHBOUR: 'it returns false'. Refute it at one input. -/
def namesInsideWrong : ChangeSpec := { name := "namesInside", fn := fun _ => fun
  | [d1, d2] => { results := [.lit (.bool false)], args := [d1, d2] }
  | _ => none }
def NamesInsideWrongFalsely : Prop := namesInsideRow.holds Tryd.pinned (OpenSpec.ofChange namesInsideWrong)

/-- 'commonslaw05.NamesOwns': WHATEVER THE INPUT: true; the input reads as it did. -/
def namesOwnsSpec : ChangeSpec := { name := "namesOwns", fn := fun _ => fun
  | [d] => { results := [.lit (.bool true)], args := [d] }
  | _ => none }
def namesOwnsRow : OpenClaim := { program := "ytbdfddefkflipaadoor", sum := "c7792e48c0febb895e2240636735e9f6555171a737ba2a76c4836da107299f14", func := "commons/commonslaw05.NamesOwns", spec := "namesOwns", inPlace := ["internal/bytealg.CountString", "internal/bytealg.IndexByteString", "internal/bytealg.IndexString"], named := ["unicode/utf8.first", "unicode/utf8.acceptRanges", "internal/bytealg.MaxLen"], apart := false, laid := [("unicode/utf8.acceptRanges", laid_unicode_utf8_acceptRanges), ("unicode/utf8.first", laid_unicode_utf8_first)] }
def NamesOwnsSaid : Prop := namesOwnsRow.holds Tryd.pinned (OpenSpec.ofChange namesOwnsSpec)

/-- ITS FALSE NEIGHBOUR: 'it returns false'. Refute it at one input. -/
def namesOwnsWrong : ChangeSpec := { name := "namesOwns", fn := fun _ => fun
  | [d] => { results := [.lit (.bool false)], args := [d] }
  | _ => none }
def NamesOwnsWrongFalsely : Prop := namesOwnsRow.holds Tryd.pinned (OpenSpec.ofChange namesOwnsWrong)

/- THE SECOND FORM. 'bulk': how many values and letters a reading holds, each counted each time it is reached (what is shared counts as often as it is met; a slice's spare places count too). A statement '..UptoSaid' is the law's where the arguments, and the package variables that the reading takes, are together of bulk at most 1048576: NARROWER than '..Said'. Prove '..Said' where nothing that the law and all that it calls make is longer than what came in: it says more and counts as full. Else prove '..UptoSaid'. A law counts once. -/
mutual
def uptoBulk {H : Type} : DataW H → Nat
  | .lit (.string bytes) => bytes.length + 1
  | .lit _ => 1
  | .nil => 1
  | .ptr d => uptoBulk d + 1
  | .slice elems spare => uptoBulkAll elems + uptoBulkAll spare + 1
  | .agg parts => uptoBulkAll parts + 1
  | .iface _ d => uptoBulk d + 1
  | .map entries => uptoBulkEntries entries + 1
  | .held _ => 1
def uptoBulkAll {H : Type} : List (DataW H) → Nat
  | [] => 0
  | d :: r => uptoBulk d + uptoBulkAll r
def uptoBulkEntries {H : Type} : List (Lit × DataW H) → Nat
  | [] => 0
  | x :: r => uptoBulkEntry x + uptoBulkEntries r
def uptoBulkEntry {H : Type} : Lit × DataW H → Nat
  | (.string bytes, d) => bytes.length + uptoBulk d + 1
  | (_, d) => uptoBulk d + 1
 end
def uptoSmall : (H : Type) → List (DataW H) → Bool := fun _ ds => decide (uptoBulkAll ds ≤ 1048576)
def OpenSpec.upto (s : _root_.Go.ChangeSpec) : _root_.Go.OpenSpec := { _root_.Go.OpenSpec.ofChange s with cond := some uptoSmall }

/-- 'commonslaw05.NamesMay', WHERE WHAT IT READS IS OF BULK AT MOST 1048576: true; the input reads as it did. -/
def namesMayUptoRow : OpenClaim := { program := "ytbdfddefkflipaadoor", sum := "c7792e48c0febb895e2240636735e9f6555171a737ba2a76c4836da107299f14", func := "commons/commonslaw05.NamesMay", spec := "namesMay", inPlace := ["internal/bytealg.CountString", "internal/bytealg.IndexByteString", "internal/bytealg.IndexString"], named := ["unicode/utf8.first", "unicode/utf8.acceptRanges", "internal/bytealg.MaxLen"], apart := false, laid := [("unicode/utf8.acceptRanges", laid_unicode_utf8_acceptRanges), ("unicode/utf8.first", laid_unicode_utf8_first)], narrowed := true }
def NamesMayUptoSaid : Prop := namesMayUptoRow.holds Tryd.pinned (OpenSpec.upto namesMaySpec)

/-- 'commonslaw05.NamesPaths', WHERE WHAT IT READS IS OF BULK AT MOST 1048576: true; the input reads as it did. -/
def namesPathsUptoRow : OpenClaim := { program := "ytbdfddefkflipaadoor", sum := "c7792e48c0febb895e2240636735e9f6555171a737ba2a76c4836da107299f14", func := "commons/commonslaw05.NamesPaths", spec := "namesPaths", inPlace := ["internal/bytealg.CountString", "internal/bytealg.IndexByteString", "internal/bytealg.IndexString"], named := ["unicode/utf8.first", "unicode/utf8.acceptRanges", "internal/bytealg.MaxLen"], apart := false, laid := [("unicode/utf8.acceptRanges", laid_unicode_utf8_acceptRanges), ("unicode/utf8.first", laid_unicode_utf8_first)], narrowed := true }
def NamesPathsUptoSaid : Prop := namesPathsUptoRow.holds Tryd.pinned (OpenSpec.upto namesPathsSpec)

/-- 'commonslaw05.NamesParents', WHERE WHAT IT READS IS OF BULK AT MOST 1048576: true; the input reads as it did. -/
def namesParentsUptoRow : OpenClaim := { program := "ytbdfddefkflipaadoor", sum := "c7792e48c0febb895e2240636735e9f6555171a737ba2a76c4836da107299f14", func := "commons/commonslaw05.NamesParents", spec := "namesParents", inPlace := ["internal/bytealg.CountString", "internal/bytealg.IndexByteString", "internal/bytealg.IndexString"], named := ["unicode/utf8.first", "unicode/utf8.acceptRanges", "internal/bytealg.MaxLen"], apart := false, laid := [("unicode/utf8.acceptRanges", laid_unicode_utf8_acceptRanges), ("unicode/utf8.first", laid_unicode_utf8_first)], narrowed := true }
def NamesParentsUptoSaid : Prop := namesParentsUptoRow.holds Tryd.pinned (OpenSpec.upto namesParentsSpec)

/-- 'commonslaw05.NamesJoins', WHERE WHAT IT READS IS OF BULK AT MOST 1048576: true; the input reads as it did. -/
def namesJoinsUptoRow : OpenClaim := { program := "ytbdfddefkflipaadoor", sum := "c7792e48c0febb895e2240636735e9f6555171a737ba2a76c4836da107299f14", func := "commons/commonslaw05.NamesJoins", spec := "namesJoins", inPlace := ["internal/abi.NoEscape", "internal/bytealg.MakeNoZero", "internal/bytealg.CountString", "internal/bytealg.IndexByteString", "internal/bytealg.IndexString"], named := ["unicode/utf8.first", "unicode/utf8.acceptRanges", "internal/bytealg.MaxLen"], apart := false, laid := [("unicode/utf8.acceptRanges", laid_unicode_utf8_acceptRanges), ("unicode/utf8.first", laid_unicode_utf8_first)], narrowed := true }
def NamesJoinsUptoSaid : Prop := namesJoinsUptoRow.holds Tryd.pinned (OpenSpec.upto namesJoinsSpec)

/-- 'commonslaw05.NamesRound', WHERE WHAT IT READS IS OF BULK AT MOST 1048576: true; the input reads as it did. -/
def namesRoundUptoRow : OpenClaim := { program := "ytbdfddefkflipaadoor", sum := "c7792e48c0febb895e2240636735e9f6555171a737ba2a76c4836da107299f14", func := "commons/commonslaw05.NamesRound", spec := "namesRound", inPlace := ["internal/bytealg.CountString", "internal/bytealg.IndexByteString", "internal/bytealg.IndexString", "internal/abi.NoEscape", "internal/bytealg.MakeNoZero"], named := ["unicode/utf8.first", "unicode/utf8.acceptRanges", "internal/bytealg.MaxLen"], apart := false, laid := [("unicode/utf8.acceptRanges", laid_unicode_utf8_acceptRanges), ("unicode/utf8.first", laid_unicode_utf8_first)], narrowed := true }
def NamesRoundUptoSaid : Prop := namesRoundUptoRow.holds Tryd.pinned (OpenSpec.upto namesRoundSpec)

/-- 'commonslaw05.NamesHashes', WHERE WHAT IT READS IS OF BULK AT MOST 1048576: true; the input reads as it did. -/
def namesHashesUptoRow : OpenClaim := { program := "ytbdfddefkflipaadoor", sum := "c7792e48c0febb895e2240636735e9f6555171a737ba2a76c4836da107299f14", func := "commons/commonslaw05.NamesHashes", spec := "namesHashes", inPlace := ["internal/bytealg.CountString", "internal/bytealg.IndexByteString", "internal/bytealg.IndexString"], named := ["unicode/utf8.first", "unicode/utf8.acceptRanges", "internal/bytealg.MaxLen"], apart := false, laid := [("unicode/utf8.acceptRanges", laid_unicode_utf8_acceptRanges), ("unicode/utf8.first", laid_unicode_utf8_first)], narrowed := true }
def NamesHashesUptoSaid : Prop := namesHashesUptoRow.holds Tryd.pinned (OpenSpec.upto namesHashesSpec)

/-- 'commonslaw05.NamesInside', WHERE WHAT IT READS IS OF BULK AT MOST 1048576: true; the input reads as it did. -/
def namesInsideUptoRow : OpenClaim := { program := "ytbdfddefkflipaadoor", sum := "c7792e48c0febb895e2240636735e9f6555171a737ba2a76c4836da107299f14", func := "commons/commonslaw05.NamesInside", spec := "namesInside", inPlace := ["internal/bytealg.CountString", "internal/bytealg.IndexByteString", "internal/bytealg.IndexString"], named := ["unicode/utf8.first", "unicode/utf8.acceptRanges", "internal/bytealg.MaxLen"], apart := false, laid := [("unicode/utf8.acceptRanges", laid_unicode_utf8_acceptRanges), ("unicode/utf8.first", laid_unicode_utf8_first)], narrowed := true }
def NamesInsideUptoSaid : Prop := namesInsideUptoRow.holds Tryd.pinned (OpenSpec.upto namesInsideSpec)

/-- 'commonslaw05.NamesOwns', WHERE WHAT IT READS IS OF BULK AT MOST 1048576: true; the input reads as it did. -/
def namesOwnsUptoRow : OpenClaim := { program := "ytbdfddefkflipaadoor", sum := "c7792e48c0febb895e2240636735e9f6555171a737ba2a76c4836da107299f14", func := "commons/commonslaw05.NamesOwns", spec := "namesOwns", inPlace := ["internal/bytealg.CountString", "internal/bytealg.IndexByteString", "internal/bytealg.IndexString"], named := ["unicode/utf8.first", "unicode/utf8.acceptRanges", "internal/bytealg.MaxLen"], apart := false, laid := [("unicode/utf8.acceptRanges", laid_unicode_utf8_acceptRanges), ("unicode/utf8.first", laid_unicode_utf8_first)], narrowed := true }
def NamesOwnsUptoSaid : Prop := namesOwnsUptoRow.holds Tryd.pinned (OpenSpec.upto namesOwnsSpec)

end Rows
end Go.Proofs.YtbdfddefkflipaaDoor
