/- the document's Lookup, count, Of (sx/psA.py) -/
import Derived.Test.YtpdjnefgkcmdnaaGreatDoorPxA
import Derived.Test.YtpdjnefgkcmdnaaGreatDoorSxU
import Derived.Test.YtpdjnefgkcmdnaaGreatDoorPxZ
namespace Go.Proofs.YtpdjnefgkcmdnaaGreatDoor
open Go.RowKit
set_option linter.unusedSimpArgs false
set_option linter.unusedVariables false
set_option maxRecDepth 100000

def SmF (F : FsM) : Prop := F.N.length ≤ 1000 ∧ F.E.length ≤ 1000 ∧ F.O.length ≤ 1000
def nodC (x : NodeM) : List Value := [.bool x.dir, .string (strB x.data), .int .i64 x.links]
def entC (x : EntM) : List Value := [.int .i64 (x.dn : Int), .string x.nm, .int .i64 (x.nd : Int)]
def opnC (x : OpM) : List Value := [.int .i64 x.cl, .int .i64 x.fd, .int .i64 (x.nd : Int)]
abbrev dP (df : Nat) (na : Option Addr) (nc : Nat) (ea : Option Addr) (ec : Nat) (oa : Option Addr) (oc : Nat) (F : FsM) : List Ch := [blkC df 48 [.slice na F.N.length nc, .slice ea F.E.length ec, .slice oa F.O.length oc], ownC 0 50 3 na F.N.length nc (F.N.flatMap nodC), ownC 0 79 3 ea F.E.length ec (F.E.flatMap entC), ownC 0 73 3 oa F.O.length oc (F.O.flatMap opnC)]
def lookI (E : List EntM) (d : Nat) (s : ByteArray) : Int := match lookE E d s with | some m => (m : Int) | none => -1
def lookJ (O : List OpM) (c fd : Int) : Int := match lookO O c fd with | some m => (m : Int) | none => -1
theorem isNone_of {α : Type} {x : Option α} (h : x.isSome = false) : x = none := by cases x with | none => rfl | some a => cases h
theorem drop_getD {α : Type} {L : List α} {i : Nat} (h : i < L.length) (z : α) : L.drop i = L.getD i z :: L.drop (i + 1) := by
 rw [List.drop_eq_getElem_cons h, List.getD_eq_getElem?_getD, List.getElem?_eq_getElem h]; rfl
theorem take_getD {α : Type} {L : List α} {i : Nat} (h : i < L.length) (z : α) : L.take (i + 1) = L.take i ++ [L.getD i z] := by
 rw [List.take_succ_eq_append_getElem h, List.getD_eq_getElem?_getD, List.getElem?_eq_getElem h]; rfl
theorem cntE_le (E : List EntM) (d : Nat) : cntE E d ≤ E.length := List.length_filter_le _ _
end Go.Proofs.YtpdjnefgkcmdnaaGreatDoor
