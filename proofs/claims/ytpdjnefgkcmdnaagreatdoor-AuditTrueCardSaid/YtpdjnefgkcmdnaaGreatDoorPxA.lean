/- The document's file system, as lists; what each call makes of it. -/
import Derived.Test.YtpdjnefgkcmdnaaGreatDoorPthJ
import Derived.Test.YtpdjnefgkcmdnaaGreatDoorSxT
namespace Go.Proofs.YtpdjnefgkcmdnaaGreatDoor
open Go.RowKit
set_option linter.unusedSimpArgs false
set_option linter.unusedVariables false
set_option maxRecDepth 100000

/-- a node -/
structure NodeM where
  dir:Bool
  data:List UInt8
  links:Int
def nilN:NodeM:=⟨false,[],0⟩
/-- a name in a directory -/
structure EntM where
  dn:Nat
  nm:ByteArray
  nd:Nat
def nilE:EntM:=⟨0,⟨#[]⟩,0⟩
/-- a descriptor -/
structure OpM where
  cl:Int
  fd:Int
  nd:Nat
def nilO:OpM:=⟨0,0,0⟩
structure FsM where
  N:List NodeM
  E:List EntM
  O:List OpM
def fs0:FsM:=⟨[⟨true,[],1⟩],[],[]⟩
def FsM.at (F:FsM) (k:Nat):NodeM:=F.N.getD k nilN
def FsM.dir (F:FsM) (k:Nat):Bool:=(F.at k).dir
def lookE (E:List EntM) (d:Nat) (s:ByteArray):Option Nat:=(E.find? fun x=>decide (x.dn=d∧x.nm=s)).map (·.nd)
def lookO (O:List OpM) (c fd:Int):Option Nat:=(O.find? fun x=>decide (x.cl=c∧x.fd=fd)).map (·.nd)
def takeE (E:List EntM) (d:Nat) (s:ByteArray):List EntM:=E.filter fun x=>!decide (x.dn=d∧x.nm=s)
def takeO (O:List OpM) (c fd:Int):List OpM:=O.filter fun x=>!decide (x.cl=c∧x.fd=fd)
def cntE (E:List EntM) (d:Nat):Nat:=(E.filter fun x=>decide (x.dn=d)).length
def namesOf (E:List EntM) (d:Nat):List ByteArray:=(E.filter fun x=>decide (x.dn=d)).map (·.nm)
/-- names led along: an error, or a node -/
def walkF (F:FsM):Nat→List ByteArray→Int×Nat
  | n,[]=>(0,n)
  | n,s::L=>if F.dir n=true then (match lookE F.E n s with | none=>(10,0) | some m=>walkF F m L) else (12,0)
def findF (F:FsM) (X:List UInt8):Int×Nat:=match pathO X with | none=>(15,0) | some L=>walkF F 0 L
def noNm:ByteArray:=⟨#[]⟩
def placeL (F:FsM) (L:List ByteArray) (x:ByteArray):Int×Nat×ByteArray:=
  if (walkF F 0 L).1=0 then (if F.dir (walkF F 0 L).2=true then (0,(walkF F 0 L).2,x) else (12,0,noNm)) else ((walkF F 0 L).1,0,noNm)
def placeF (F:FsM) (X:List UInt8):Int×Nat×ByteArray:=match pathO X with
  | none=>(15,0,noNm)
  | some L=>if L=[] then (15,0,noNm) else placeL F L.dropLast (L.getLastD noNm)
/-- the least number that is free -/
def freeF (F:FsM) (c:Int):Option Nat:=(List.range 8).find? fun fd=>(lookO F.O c (fd:Int)).isNone
/-- an answer -/
structure RepM where
  e:Int
  fd:Int
  data:List UInt8
  names:List ByteArray
  kind:Int
  links:Int
  size:Int
def errR (e:Int):RepM:=⟨e,0,[],[],0,0,0⟩
def fdR (fd:Int):RepM:=⟨0,fd,[],[],0,0,0⟩
def dataR (d:List UInt8):RepM:=⟨0,0,d,[],0,0,0⟩
def namesR (L:List ByteArray):RepM:=⟨0,0,[],L,0,0,0⟩
def infoR (k l s:Int):RepM:=⟨0,0,[],[],k,l,s⟩
def putF (F:FsM) (d:Nat) (s:ByteArray) (m:Nat):FsM:={ F with E:=F.E++[⟨d,s,m⟩] }
def takeF (F:FsM) (d:Nat) (s:ByteArray):FsM:={ F with E:=takeE F.E d s }
def nodeF (F:FsM) (dir:Bool):FsM:={ F with N:=F.N++[⟨dir,[],1⟩] }
def fdF (F:FsM) (c fd:Int) (m:Nat):FsM:={ F with O:=F.O++[⟨c,fd,m⟩] }
def linkF (F:FsM) (n:Nat) (i:Int):FsM:={ F with N:=F.N.set n { F.at n with links:=(F.at n).links+i } }
def dataF (F:FsM) (n:Nat) (d:List UInt8):FsM:={ F with N:=F.N.set n { F.at n with data:=d } }
/-- bytes cut, or noughts behind -/
def sized (d:List UInt8) (n:Nat):List UInt8:=d.take n++List.replicate (n-d.length) 0
def openF (F:FsM) (c:Int) (X:List UInt8) (fl:Int):FsM×RepM:=
  if fl=0∨fl=1∨fl=3 then
    if (findF F X).1=0 then
      if fl=3 then (F,errR 11) else if F.dir (findF F X).2=true then (F,errR 13) else
        match freeF F c with | none=>(F,errR 17) | some fd=>(fdF F c fd (findF F X).2,fdR fd)
    else if (findF F X).1=10∧(placeF F X).1=0∧fl≠0 then
      match freeF F c with | none=>(F,errR 17) | some fd=>(fdF (putF (nodeF F false) (placeF F X).2.1 (placeF F X).2.2 F.N.length) c fd F.N.length,fdR fd)
    else (F,errR (findF F X).1)
  else (F,errR 15)
def closeF (F:FsM) (c fd:Int):FsM×RepM:=match lookO F.O c fd with | none=>(F,errR 16) | some _=>({ F with O:=takeO F.O c fd },errR 0)
def readF (F:FsM) (c fd off n:Int):FsM×RepM:=match lookO F.O c fd with
  | none=>(F,errR 16)
  | some k=>if off<0∨n<0∨n>64 then (F,errR 15) else (F,dataR (((F.at k).data.drop off.toNat).take n.toNat))
def wrote (d:List UInt8) (off:Nat) (b:List UInt8):List UInt8:=sized d off++b++d.drop (off+b.length)
def writeF (F:FsM) (c fd off:Int) (b:List UInt8):FsM×RepM:=match lookO F.O c fd with
  | none=>(F,errR 16)
  | some k=>if off<0∨b.length>64 then (F,errR 15) else if b.length=0 then (F,errR 0) else if off+b.length>256 then (F,errR 19) else (dataF F k (wrote (F.at k).data off.toNat b),errR 0)
def truncF (F:FsM) (c fd n:Int):FsM×RepM:=match lookO F.O c fd with
  | none=>(F,errR 16)
  | some k=>if n<0 then (F,errR 15) else if n>256 then (F,errR 19) else (dataF F k (sized (F.at k).data n.toNat),errR 0)
def syncF (F:FsM) (c fd:Int):FsM×RepM:=match lookO F.O c fd with | none=>(F,errR 16) | some _=>(F,errR 0)
def mkdirF (F:FsM) (X:List UInt8):FsM×RepM:=
  if (findF F X).1=0 then (F,errR 11) else if (placeF F X).1=0 then (putF (nodeF F true) (placeF F X).2.1 (placeF F X).2.2 F.N.length,errR 0) else (F,errR (placeF F X).1)
def rmdirF (F:FsM) (X:List UInt8):FsM×RepM:=
  if X=[47] then (F,errR 15) else if (findF F X).1=0 then
    if F.dir (findF F X).2=true then (if 0<cntE F.E (findF F X).2 then (F,errR 14) else (takeF F (placeF F X).2.1 (placeF F X).2.2,errR 0)) else (F,errR 12)
  else (F,errR (findF F X).1)
def linksF (F:FsM) (X Y:List UInt8):FsM×RepM:=
  if (pathO X).isSome=true∧(pathO Y).isSome=true then
    if (findF F X).1=0 then
      if F.dir (findF F X).2=true then (F,errR 13) else if Y=[47] then (F,errR 11) else if (placeF F Y).1=0 then
        if (lookE F.E (placeF F Y).2.1 (placeF F Y).2.2).isSome=true then (F,errR 11) else if (F.at (findF F X).2).links=20 then (F,errR 20)
        else (linkF (putF F (placeF F Y).2.1 (placeF F Y).2.2 (findF F X).2) (findF F X).2 1,errR 0)
      else (F,errR (placeF F Y).1)
    else (F,errR (findF F X).1)
  else (F,errR 15)
def unlinkF (F:FsM) (X:List UInt8):FsM×RepM:=
  if (findF F X).1=0 then
    if F.dir (findF F X).2=true then (F,errR 13) else (linkF (takeF F (placeF F X).2.1 (placeF F X).2.2) (findF F X).2 (-1),errR 0)
  else (F,errR (findF F X).1)
def movedF (F:FsM) (X:List UInt8) (d:Nat) (s:ByteArray) (n:Nat):FsM:=putF (takeF F (placeF F X).2.1 (placeF F X).2.2) d s n
def freedF (F:FsM) (d:Nat) (s:ByteArray) (m:Nat):FsM:=if F.dir m=true then takeF F d s else linkF (takeF F d s) m (-1)
def renamedF (F:FsM) (X:List UInt8) (d:Nat) (s:ByteArray) (n:Nat):FsM×RepM:=match lookE F.E d s with
  | none=>(movedF F X d s n,errR 0)
  | some m=>if m=n then (F,errR 0) else if F.dir n=true∧F.dir m=false then (F,errR 12) else if F.dir n=true∧0<cntE F.E m then (F,errR 14) else if F.dir n=false∧F.dir m=true then (F,errR 13) else (movedF (freedF F d s m) X d s n,errR 0)
def renameF (F:FsM) (X Y:List UInt8):FsM×RepM:=
  if ((pathO X).isSome=true∧(pathO Y).isSome=true)∧¬ X=[47]∧¬ Y=[47] then
    if (findF F X).1=0 then
      if (F.dir (findF F X).2=true∧¬ X=Y)∧insF (pathO Y) (pathO X)=true then (F,errR 15) else if (placeF F Y).1=0 then renamedF F X (placeF F Y).2.1 (placeF F Y).2.2 (findF F X).2 else (F,errR (placeF F Y).1)
    else (F,errR (findF F X).1)
  else (F,errR 15)
def insN (x:ByteArray):List ByteArray→List ByteArray
  | []=>[x]
  | y::r=>if ltN x y=true then x::y::r else y::insN x r
def sortN (L:List ByteArray):List ByteArray:=L.foldl (fun acc x=>insN x acc) []
def listF (F:FsM) (X:List UInt8):FsM×RepM:=
  if (findF F X).1=0 then (if F.dir (findF F X).2=true then (F,namesR (sortN (namesOf F.E (findF F X).2))) else (F,errR 12)) else (F,errR (findF F X).1)
def statF (F:FsM) (X:List UInt8):FsM×RepM:=
  if (findF F X).1=0 then (if F.dir (findF F X).2=true then (F,infoR 2 1 (cntE F.E (findF F X).2)) else (F,infoR 1 (F.at (findF F X).2).links (F.at (findF F X).2).data.length)) else (F,errR (findF F X).1)
/-- a call -/
structure CallM where
  kind:Int
  p1:List UInt8
  p2:List UInt8
  fl:Int
  fd:Int
  off:Int
  n:Int
  data:List UInt8
def dropF (F:FsM) (c:Int):FsM:={ F with O:=F.O.filter fun x=>!decide (x.cl=c) }
def kindF (F:FsM) (c:Int) (x:CallM):FsM×RepM:=
  if x.kind=1 then openF F c x.p1 x.fl else if x.kind=2 then closeF F c x.fd else if x.kind=3 then readF F c x.fd x.off x.n else if x.kind=4 then writeF F c x.fd x.off x.data
  else if x.kind=5 then truncF F c x.fd x.n else if x.kind=6 then syncF F c x.fd else if x.kind=7 then mkdirF F x.p1 else if x.kind=8 then rmdirF F x.p1 else if x.kind=9 then linksF F x.p1 x.p2
  else if x.kind=10 then unlinkF F x.p1 else if x.kind=11 then renameF F x.p1 x.p2 else if x.kind=12 then listF F x.p1 else if x.kind=13 then statF F x.p1 else (F,errR 15)
def doF (F:FsM) (c:Int) (x:CallM):FsM×RepM:=if c<1∨c>8 then (F,errR 1) else kindF F c x
abbrev cL (x:CallM):List Value:=[.int .i64 x.kind,.string (strB x.p1),.string (strB x.p2),.int .i64 x.fl,.int .i64 x.fd,.int .i64 x.off,.int .i64 x.n,.string (strB x.data)]
abbrev zL:List Value:=[.int .i64 0,.int .i64 0,.string (strB []),.slice none 0 0,.int .i64 0,.int .i64 0,.int .i64 0]
theorem notT2 {b:Bool} (h:b=false):¬ b=true:=fun q=>by rw [h] at q;cases q
/-- what a function of the model comes to: its branches are found out of what is known -/
theorem bx {α:Type} {a b:α} (h:a=b:=by
  (first | unfold doF | unfold openF | unfold closeF | unfold readF | unfold writeF | unfold truncF | unfold syncF | unfold mkdirF | unfold rmdirF | unfold linksF | unfold unlinkF | unfold renameF | unfold listF | unfold statF)
  repeat (first | rw [if_pos (by omega)] | rw [if_neg (by omega)] | rw [if_pos (by assumption)] | rw [if_neg (notT2 (by assumption))] | rw [if_neg (by assumption)] | rw [if_pos ⟨by assumption,by assumption⟩] | unfold kindF | (rw [‹lookO _ _ _=_›];try dsimp only) | unfold closeF | unfold readF | unfold writeF | unfold truncF | unfold syncF | unfold mkdirF | unfold unlinkF | (rw [‹freeF _ _=_›];try dsimp only) | unfold renamedF | (rw [‹lookE _ _ _=_›];try dsimp only))):a=b:=h
end Go.Proofs.YtpdjnefgkcmdnaaGreatDoor
