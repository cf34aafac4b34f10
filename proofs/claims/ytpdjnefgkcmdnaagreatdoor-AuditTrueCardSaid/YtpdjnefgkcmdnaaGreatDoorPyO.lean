/- PosixFds (sx/ptK.py) -/
import Derived.Test.YtpdjnefgkcmdnaaGreatDoorPyN
import Derived.Test.YtpdjnefgkcmdnaaGreatDoorPxZ
import Derived.Test.YtpdjnefgkcmdnaaGreatDoorSxU
namespace Go.Proofs.YtpdjnefgkcmdnaaGreatDoor
open Go.RowKit
set_option linter.unusedSimpArgs false
set_option linter.unusedVariables false
set_option maxRecDepth 100000

/-- a file system of the code that hangs together -/
structure FsA (F:FsM) (A:AdM) (n:Nat):Prop where
 ok:FsOk F
 sz:SzF F n
 ad:AdOk F A n
theorem SzF.le {F:FsM} {m n:Nat} (h:SzF F m) (hm:m≤n):SzF F n:=⟨by have:=h.1;omega,by have:=h.2.1;omega,by have:=h.2.2;omega⟩
theorem AdOk.le {F:FsM} {A:AdM} {m n:Nat} (h:AdOk F A m) (hm:m≤n):AdOk F A n:=⟨h.ld,Nat.le_trans h.hB hm,Nat.le_trans h.hC hm⟩
theorem FsA.le {F:FsM} {A:AdM} {m n:Nat} (h:FsA F A m) (hm:m≤n):FsA F A n:=⟨h.ok,h.sz.le hm,h.ad.le hm⟩
theorem doQ_c {w:World} {cf ob n:Nat} {F G:FsM} {r:RepM} {A:AdM} {R:List Ch} {c:Int} {x:CallM} (hS0:Sep w ((cP cf ob F A)++R)) (h:FsA F A n) (hn:n≤800) (h1:x.p1.length≤1000) (h2:x.p2.length≤1000) (h3:x.data.length≤1000) (hxf:(Lit.int .i64 x.fd).wf=true) (e:doF F c x=(G,r)) :
  CallsR Tryz.prog 44 #[.pointer (some ⟨cf,0,none⟩),.int .i64 c,.agg (cL x).toArray] w (fun v w'=>∃ A' sa sc,v=repV r sa sc∧Sep w' (ownC 0 9 1 sa r.names.length sc (r.names.flatMap sE)::(cP cf ob G A')++R)∧FsA G A' (n+1)):=by
 have z:=do_c (c:=c) (x:=x) hS0 h.ok h.ad (by omega) (h.sz.ss hn) h1 h2 h3 hxf
 have o:=h.ok.do_ c x
 have s:=h.sz.do_ c x
 rw [e] at z o s
 exact Calls.mono z fun e W' ⟨v,e1,A',sa,sc,e2,q,hA⟩=>⟨v,e1,A',sa,sc,e2,q,⟨o,s,hA⟩⟩