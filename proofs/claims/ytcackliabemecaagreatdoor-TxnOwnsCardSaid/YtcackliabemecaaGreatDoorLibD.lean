/- Regions that draw their order, walked over an act of which only some slots are known: what comes alone, or as one of two. -/
import Derived.Test.YtcackliabemecaaGreatDoorLibC
namespace Go.Proofs.YtcackliabemecaaGreatDoor
open Go.RowKit
set_option linter.unusedSimpArgs false
set_option linter.unusedVariables false

section
variable {P : Program} {ops : Array Oper} {Q : Exit → Act → World → Prop} {md : Region.Mode} {S : World → Prop} {oi oj : Oper} {fuel : Nat} {listed : Array Bool} {a : Act} {w w' : World} {N : Nat} {l : List (Nat × Value)} {K : Act → World → Prop}
/-- the only operation that is ready -/
theorem wpk_only (i : Nat) (hi : ops[i]? = some oi) (hg : oi.guard = none) (hr : Region.ready md ops listed = [i])
    (k : ∀ K : Act → World → Prop, (∀ a' w', S w' → (S w' → wpAnyH P md ops Q S fuel (listed.setIfInBounds i true) a' w') → K a' w') → Oper.wp P oi a w K Q) : wpAnyH P md ops Q S (fuel + 1) listed a w :=
  wpAnyH_ready hr (by simp) (AllReadyH.cons hi (fun K hK => by
    rw [if_pos (wanted_none hg)]
    exact k K (Shut.out hK)) AllReadyH.nil)
/-- two that are ready -/
theorem wpk_two (i j : Nat) (hi : ops[i]? = some oi) (hj : ops[j]? = some oj) (gi : oi.guard = none) (gj : oj.guard = none) (hr : Region.ready md ops listed = [i, j])
    (k : ∀ K : Act → World → Prop, (∀ a' w', S w' → (S w' → wpAnyH P md ops Q S fuel (listed.setIfInBounds i true) a' w') → K a' w') → Oper.wp P oi a w K Q)
    (k2 : ∀ K : Act → World → Prop, (∀ a' w', S w' → (S w' → wpAnyH P md ops Q S fuel (listed.setIfInBounds j true) a' w') → K a' w') → Oper.wp P oj a w K Q) : wpAnyH P md ops Q S (fuel + 1) listed a w :=
  wpAnyH_ready hr (by simp) (AllReadyH.cons hi (fun K hK => by
    rw [if_pos (wanted_none gi)]
    exact k K (Shut.out hK)) (AllReadyH.cons hj (fun K hK => by
    rw [if_pos (wanted_none gj)]
    exact k2 K (Shut.out hK)) AllReadyH.nil))
/-- it yields a value, in another world maybe -/
theorem op_val (h : Kn N l a) {d : Nat} (hd : oi.dst = some d) (hdN : d < N) (hf : ∀ x ∈ l, x.1 ≠ d) (v : Value) (hrun : (execOp a.eval oi).run P w = .ok (.value v) w')
    (k : ∀ a', Kn N ((d, v) :: l) a' → K a' w') : Oper.wp P oi a w K Q := by
  unfold Oper.wp
  rw [hrun, Oper.upon_value, hd]
  exact k _ (h.put hdN hf v)
/-- it stores -/
theorem op_skip (h : Kn N l a) (hd : oi.dst = none) (hrun : (execOp a.eval oi).run P w = .ok .skip w') (k : ∀ a', Kn N l a' → K a' w') : Oper.wp P oi a w K Q := by
  unfold Oper.wp
  rw [hrun, Oper.upon_skip, hd]
  exact k _ h
/-- it calls -/
theorem op_call (h : Kn N l a) {d : Nat} (hd : oi.dst = some d) (hdN : d < N) (hf : ∀ x ∈ l, x.1 ≠ d)
    {fn : FuncId} (hcf : ∀ args, (callFunc fn args).run P w = .ok (.enter fn args) w) {xs : Array Operand} {ts : Array TypeId} (p : oi.op = .call { callee := .value (.func fn), args := xs, argTypes := ts }) (vs : Array Value) (hx : xs.map a.eval = vs)
    {R : Value → World → Prop} (HC : Calls P fn vs w fun e w' => ∃ v, e = .returned v ∧ R v w')
    (k : ∀ a' v w', R v w' → Kn N ((d, v) :: l) a' → K a' w') : Oper.wp P oi a w K Q := by
  have hrun : (execOp a.eval oi).run P w = .ok (.enter fn vs) w := by
    unfold execOp; rw [p]
    simp [resolve, invoke, Deferred.ofValue, hx, hcf]
    simp [Act.eval, hcf]
  unfold Oper.wp
  rw [hrun, Oper.upon_enter]
  refine HC.mono ?_
  rintro e w' ⟨v, rfl, hv⟩
  simp only
  rw [hd]
  exact k _ v w' hv (h.put hdN hf v)
/-- it appends -/
theorem op_append (h : Kn N l a) {d : Nat} (hd : oi.dst = some d) (hdN : d < N) (hf : ∀ x ∈ l, x.1 ≠ d) (s x : Operand) {t e : TypeId} {sz bytes : Nat}
    (ho : oi.op = .call { callee := .builtin .append, args := #[s, x], argTypes := #[t, t] }) (E : ElemT P t e sz bytes) (B : Nat)
    {a1 : Option Addr} {ad : Addr} {n c m c2 : Nat} {cs ds : List Value} (hs : a.eval s = .slice a1 n c) (hx : a.eval x = .slice (some ad) m c2)
    (hown : Own w B e sz a1 n c cs) (hrow : Row w sz (some ad) m c2 ds) (h1 : ∀ u ∈ ds, u.oneCell' = true)
    (hbytes : (n + m) * bytes ≤ 140737488355328) (h63 : n + m ≤ 9223372036854775807) (hbase : B ≤ w.heap.size)
    (k : ∀ a' b' c' w', Own w' B e sz b' (n + m) c' (cs ++ ds) → w.grownBy w' (Value.slice a1 n c).ownBlock → Below B w w' → Kn N ((d, .slice b' (n + m) c') :: l) a' → K a' w') : Oper.wp P oi a w K Q := by
  obtain ⟨under, ⟨ti, z, hi', hz, hsize, hby, hzs⟩, hsz⟩ := E
  have hlt : ∀ k, (Value.slice a1 n c).ownBlock = some k → B ≤ k := fun k hk => (World.ownsRow.lt hown k hk).1
  obtain ⟨g1, g2, g3, g4, g5⟩ := hrow
  refine wp_append_own w s x t ho B e ti z sz bytes under hi' hz hsize hby hzs hsz (.slice a1 n c) n cs hs hown ad m c2 ds hx g1 ?_ h1 (by unfold maxLen; omega) hbytes hbase ?_
  · intro j u hu
    have hm : 0 < m := by
      rcases Nat.eq_zero_or_pos m with h0 | h0
      · subst h0; simp at g1; subst g1; simp at hu
      · exact h0
    obtain ⟨b, off, e1, _, hc⟩ := g5 hm
    cases e1
    have := hc j u hu
    unfold Addr.add
    split
    · subst j; simpa using this
    · exact this
  · intro v' w' h2 h3 _
    obtain ⟨a', c', rfl, h5⟩ := ownsRow_own h2
    have hb := (Below.refl B w).grown h3 hbase (fun k hk => hlt k hk)
    rw [hd]
    exact k _ a' c' w' h5 h3 hb (h.put hdN hf _)
end
end Go.Proofs.YtcackliabemecaaGreatDoor
