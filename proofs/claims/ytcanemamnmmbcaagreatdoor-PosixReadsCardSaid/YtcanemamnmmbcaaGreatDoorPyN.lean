/- pure: what the laws of stage 6 ask of doF. -/
import Derived.Test.YtcanemamnmmbcaaGreatDoorPyM
namespace Go.Proofs.YtcanemamnmmbcaaGreatDoor
open Go.RowKit
set_option linter.unusedSimpArgs false
set_option linter.unusedVariables false
set_option maxRecDepth 100000

theorem openF_fds (F : FsM) {c k fd : Int} (X : List UInt8) (fl : Int) (hk : k ≠ c) : lookO (openF F c X fl).1.O k fd = lookO F.O k fd := by
 have hap : ∀ (G : FsM) (i : Nat) (m : Nat), G.O = F.O → lookO (fdF G c (i : Int) m).O k fd = lookO F.O k fd := by
  intro G i m e
  show lookO (G.O ++ [⟨c, (i : Int), m⟩]) k fd = _
  rw [lookO_app, if_neg (fun q => hk q.1), e, Option.or_none]
 unfold openF
 split
 ·split
  ·split
   ·rfl
   ·split
    ·rfl
    ·split
     ·rfl
     ·exact hap _ _ _ rfl
  ·split
   ·split
    ·rfl
    ·exact hap _ _ _ rfl
   ·rfl
 ·rfl
/-- a call of one client changes no other one's descriptors -/
theorem do_fds (F : FsM) (c : Int) (x : CallM) {k : Int} (fd : Int) (hk : k ≠ c) : lookO (doF F c x).1.O k fd = lookO F.O k fd := by
 have hO : ∀ p : FsM × RepM, p.1.O = F.O → lookO p.1.O k fd = lookO F.O k fd := fun p e => by rw [e]
 unfold doF
 split
 ·rfl
 ·refine kindF_all (Pr := fun p => lookO p.1.O k fd = lookO F.O k fd) (openF_fds F _ _ hk) ?_ (hO _ ?_) (hO _ ?_) (hO _ ?_) (hO _ ?_) (hO _ ?_) (hO _ ?_) (hO _ ?_) (hO _ ?_) (hO _ ?_) (hO _ ?_) (hO _ ?_) rfl
  ·unfold closeF; split
   ·rfl
   ·show lookO (takeO F.O c x.fd) k fd = _
    rw [lookO_take, if_neg (fun q => hk q.1)]
  ·unfold readF; (repeat' split) <;> rfl
  ·unfold writeF; (repeat' split) <;> rfl
  ·unfold truncF; (repeat' split) <;> rfl
  ·unfold syncF; (repeat' split) <;> rfl
  ·unfold mkdirF; (repeat' split) <;> rfl
  ·unfold rmdirF; (repeat' split) <;> rfl
  ·unfold linksF; (repeat' split) <;> rfl
  ·unfold unlinkF; (repeat' split) <;> rfl
  ·unfold renameF renamedF; (repeat' split) <;> first | rfl | exact freedF_O _ _ _ _
  ·unfold listF; (repeat' split) <;> rfl
  ·unfold statF; (repeat' split) <;> rfl
abbrev syncX (fd : Int) : CallM := ⟨6, [], [], 0, fd, 0, 0, []⟩
abbrev statX (X : List UInt8) : CallM := ⟨13, X, [], 0, 0, 0, 0, []⟩
abbrev listX (X : List UInt8) : CallM := ⟨12, X, [], 0, 0, 0, 0, []⟩
abbrev renX (X Y : List UInt8) : CallM := ⟨11, X, Y, 0, 0, 0, 0, []⟩
end Go.Proofs.YtcanemamnmmbcaaGreatDoor
