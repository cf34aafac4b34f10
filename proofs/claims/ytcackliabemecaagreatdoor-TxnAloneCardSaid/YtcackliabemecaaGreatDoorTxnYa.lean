/- Two pairs apart. (genTxnY.py) -/
import Derived.Test.YtcackliabemecaaGreatDoorTxnX
namespace Go.Proofs.YtcackliabemecaaGreatDoor
open Go.RowKit
set_option linter.unusedSimpArgs false
set_option linter.unusedVariables false
set_option maxRecDepth 100000
theorem faD9 (g off : Nat) (w : World) : (Instr.fieldAt 29 (.pointer (some ⟨g, off, none⟩)) 0).run Tryz.prog w = .ok (.pointer (some ⟨g, off, none⟩)) w := rfl
section
variable {w w' : World} {B : Nat} {K Q : TK} {ta ra : Option Addr} {tc rc : Nat} {M N : MemM} {P R : List PtM}
theorem apartT (h : SideT w B K ta tc ra rc M P N R) (q : Q.ord 0 B) (hKQ : ∀ k, Q.has k → K.pp < k) : ∀ k, XT K ta ra k → ¬ Q.has k ∧ obA none ≠ some k ∧ obA none ≠ some k := fun k hk => by
  refine ⟨fun z => ?_, (fun e => by cases e), (fun e => by cases e)⟩
  have y1 := hKQ k z
  have y2 := (TK.has_le q k z).2
  have y3 := q.pp
  rcases h.xt k hk with e | e <;> omega
theorem apartL (h : SideT w B K ta tc ra rc M P N R) (q : Q.ord 0 B) (hKQ : ∀ k, Q.has k → K.pp < k) : ∀ k, XL K ta k → ¬ Q.has k ∧ obA none ≠ some k ∧ obA none ≠ some k := fun k hk => apartT h q hKQ k (.inl hk)
theorem has_xt : ∀ k, XT Q none none k → Q.has k := fun k hk => by
  unfold XT XL XR XM at hk
  unfold TK.has
  rcases hk with ((e | e | e) | e | e) | ((e | e | e) | e | e)
  · exact .inr (.inl e)
  · exact .inr (.inr (.inl e))
  · exact .inr (.inr (.inr (.inl e)))
  · exact .inr (.inr (.inr (.inr (.inr (.inl e)))))
  · cases e
  · exact .inr (.inr (.inr (.inr (.inr (.inr (.inr (.inl e)))))))
  · exact .inr (.inr (.inr (.inr (.inr (.inr (.inr (.inr (.inl e))))))))
  · exact .inr (.inr (.inr (.inr (.inr (.inr (.inr (.inr (.inr (.inl e)))))))))
  · exact .inr (.inr (.inr (.inr (.inr (.inr (.inr (.inr (.inr (.inr (.inr (.inl e)))))))))))
  · cases e
theorem apartQ (q : Q.ord 0 B) (hKQ : ∀ k, Q.has k → K.pp < k) (h : SideT w B K ta tc ra rc M P N R) : ∀ k, XT Q none none k → ¬ K.has k ∧ obA ta ≠ some k ∧ obA ra ≠ some k := fun k hk => by
  have z := has_xt k hk
  have y1 := hKQ k z
  have y2 := (TK.has_le q k z).2
  have y3 := q.pp
  refine ⟨fun x => ?_, fun e => ?_, fun e => ?_⟩
  · have := (TK.has_le h.k k x).2; omega
  · have := own_ob h.t.o k e; omega
  · have := own_ob h.o k e; omega
end
theorem comE_nil (M : MemM) : comE M [] = 0 := if_pos rfl
theorem comM_nil (M : MemM) : comM M [] = M := if_pos rfl
theorem comP_nil (M : MemM) : comP M [] = [] := if_pos rfl
end Go.Proofs.YtcackliabemecaaGreatDoor
