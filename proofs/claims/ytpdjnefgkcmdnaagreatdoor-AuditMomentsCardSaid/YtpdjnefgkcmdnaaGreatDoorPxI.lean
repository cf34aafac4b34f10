/- the document's rmdir, tells, link (sx/psE.py) -/
import Derived.Test.YtpdjnefgkcmdnaaGreatDoorPxMa
import Derived.Test.YtpdjnefgkcmdnaaGreatDoorSxU
import Derived.Test.YtpdjnefgkcmdnaaGreatDoorPxZ
namespace Go.Proofs.YtpdjnefgkcmdnaaGreatDoor
open Go.RowKit
set_option linter.unusedSimpArgs false
set_option linter.unusedVariables false
set_option maxRecDepth 100000

def repV (r : RepM) (sa : Option Addr) (sc : Nat) : Value := .agg #[.int .i64 r.e, .int .i64 r.fd, .string (strB r.data), .slice sa r.names.length sc, .int .i64 r.kind, .int .i64 r.links, .int .i64 r.size]
theorem notT1 {b : Bool} (h : b = false) : ¬ b = true := fun q => by rw [h] at q; cases q
theorem FsC.links_ge {F : FsM} (h : FsC F (fun _ => 0)) {i : Nat} (hi : i < F.N.length) : 0 ≤ (F.at i).links := by
 obtain ⟨_, k2, k3⟩ := h.k i hi
 cases hd : F.dir i with
 | true => rw [k2 hd]; decide
 | false => have := k3 hd; omega
end Go.Proofs.YtpdjnefgkcmdnaaGreatDoor
