/- Packets in transit: bytes.Clone; a bag in memory. -/
import Derived.Test.YtgigadjohjpdkaaLibO
import Derived.Test.YtgigadjohjpdkaaLibZ
import Derived.Lib.SliceRun
namespace Go.Proofs.Ytgigadjohjpdkaa
open Go.RowKit
set_option linter.unusedSimpArgs false
set_option linter.unusedVariables false

theorem own_empty (w : World) : OwnB (w.alloc (.cells #[] 5)) w.heap.size (some ⟨w.heap.size, 0, none⟩) 0 [] := by
  refine ⟨rfl, .inr ⟨w.heap.size, 0, #[], rfl, Nat.le_refl _, ?_, Nat.le_refl _, Nat.zero_le _, rfl, rfl⟩⟩
  exact heap_alloc_new w _

set_option maxHeartbeats 1000000 in
theorem clone_any (a : Option Addr) (c : Nat) (xs : List UInt8) (w : World) (h : RowB w a c xs) (hx : xs.length ≤ 1000) :
    Calls Try.prog 22 #[.slice a xs.length c] w (RetB w xs) := by
  have qT : ∀ (w : World) (a : Option Addr) (n c n' c' : Nat), (binOp .eql 30 (.slice a n c) (.slice none n' c')).run Try.prog w = .ok (.bool a.isNone) w := fun w a n c n' c' => Lib.run_eql_slice_nil w _ _ a n c n' c' Try.underlying30
  cases a with
  | none =>
    have hc : c = 0 := h.2.2.2.1 rfl
    have hl : xs = [] := List.eq_nil_of_length_eq_zero (by have := h.2.1; omega)
    subst hl
    clear h hx hc
    go_enter Try.func22, Try.ntmps22
    go_wp2
    go_ret
    exact ⟨none, 0, rfl, Own.nil _ _ _ _, Below.refl _ _⟩
  | some ad =>
    have HO := hid (own_empty w)
    have HR := hid (h.mono (albO w (.cells #[] 5)))
    have B0 := hid (albO w (.cells #[] 5))
    clear h
    go_enter Try.func22, Try.ntmps22
    go_wp2_with (at_builtin; (refine wpl_append rfl (.tmp 5) (.tmp 6) rfl E8 w.heap.size rfl rfl HO.out HR.out (byteV_one xs) (by omega) (by omega) (by simp) ?_); intro a2 c2 w2 o2 g2 b2; have O2 := hid o2; have B2 := hid (B0.out.trans b2); clear o2 g2 b2)
    go_ret
    exact ⟨a2, c2, by simp, by have := O2.out; simpa using this, B2.out⟩

/-- a packet: its node; the bound at or above which its bytes lie; its bytes -/
structure PkT where
  to : Int
  b : Nat
  a : Option Addr
  c : Nat
  xs : List UInt8
def pkC (p : PkT) : List Value := [.int .i64 p.to, .slice p.a p.xs.length p.c]
/-- a bag in memory: its own cell, the row of its packets, their bytes; all at or above B -/
def BagP (w : World) (B g : Nat) (ra : Option Addr) (rc : Nat) (L : List PkT) : Prop :=
  B ≤ g ∧ Blk w g 46 [.slice ra L.length rc] ∧ Own w B 56 2 ra L.length rc (L.flatMap pkC) ∧ ∀ p ∈ L, OwnB w p.b p.a p.c p.xs
theorem BagP.mono {w w' : World} {B g : Nat} {ra : Option Addr} {rc : Nat} {L : List PkT} (h : BagP w B g ra rc L) (b : Below w.heap.size w w') : BagP w' B g ra rc L :=
  ⟨h.1, h.2.1.mono b, h.2.2.1.mono b, fun p hp => (h.2.2.2 p hp).mono b⟩

theorem new_any (w : World) : Calls Try.prog 6 #[] w fun e w' => e = .returned (.pointer (some ⟨w.heap.size, 0, none⟩)) ∧ BagP w' w.heap.size w.heap.size none 0 [] ∧ Below w.heap.size w w' := by
  have K0 := hid (blk_newO (W := w) rfl 46 [.slice none 0 0])
  have B0 := hid (albO w (.cells #[.slice none 0 0] 46))
  go_enter Try.func6, Try.ntmps6
  go_wp2
  go_ret
  exact ⟨rfl, ⟨Nat.le_refl _, K0.out, Own.nil _ _ _ _, fun p hp => by cases hp⟩, B0.out⟩
theorem len_any (g : Nat) (ra : Option Addr) (n rc : Nat) (w : World) (h : Blk w g 46 [.slice ra n rc]) : Calls Try.prog 11 #[.pointer (some ⟨g, 0, none⟩)] w fun e w' => e = .returned (.int .i64 n) ∧ w = w' := by
  have c0 : w.cell? ⟨g, 0, none⟩ = some (.slice ra n rc) := h.cell (i := 0) (by simp)
  clear h
  go_enter Try.func11, Try.ntmps11
  go_wp2
  go_ret
  exact ⟨rfl, rfl⟩
theorem has_any (g : Nat) (ra : Option Addr) (n rc : Nat) (k : Int) (w : World) (h : Blk w g 46 [.slice ra n rc]) : Calls Try.prog 24 #[.pointer (some ⟨g, 0, none⟩), .int .i64 k] w fun e w' => e = .returned (.bool (decide (0 ≤ k ∧ k < n))) ∧ w = w' := by
  have HL := hid (len_any g ra n rc w h)
  by_cases h0 : 0 ≤ k
  · have d0 : decide (0 ≤ k) = true := decide_eq_true h0
    by_cases h1 : k < n
    · have d1 : decide (k < (n : Int)) = true := decide_eq_true h1
      rw [decide_eq_true ⟨h0, h1⟩]
      clear h
      go_enter Try.func24, Try.ntmps24
      go_wp2_with (go_at_call 11; refine HL.out.mono ?_; rintro e w1 ⟨rfl, rfl⟩)
      go_ret
      exact ⟨rfl, rfl⟩
    · have d1 : decide (k < (n : Int)) = false := decide_eq_false h1
      rw [decide_eq_false (fun q => h1 q.2)]
      clear h
      go_enter Try.func24, Try.ntmps24
      go_wp2_with (go_at_call 11; refine HL.out.mono ?_; rintro e w1 ⟨rfl, rfl⟩)
      go_ret
      exact ⟨rfl, rfl⟩
  · have d0 : decide (0 ≤ k) = false := decide_eq_false h0
    rw [decide_eq_false (fun q => h0 q.1)]
    clear h HL
    go_enter Try.func24, Try.ntmps24
    go_wp2
    go_ret
    exact ⟨rfl, rfl⟩

/-- every block stays but those of two types -/
def StayT (T1 T2 : TypeId) (w w' : World) : Prop := w.heap.size ≤ w'.heap.size ∧ ∀ (k : Nat) (C : Array Value) (e : TypeId) (fr : Nat × Nat), w.heap[k]? = some (Obj.cells C e fr) → e ≠ T1 → e ≠ T2 → w'.heap[k]? = w.heap[k]?
theorem StayT.refl (T1 T2 : TypeId) (w : World) : StayT T1 T2 w w := ⟨Nat.le_refl _, fun _ _ _ _ _ _ _ => rfl⟩
theorem StayT.trans {T1 T2 : TypeId} {w w1 w2 : World} (h : StayT T1 T2 w w1) (h' : StayT T1 T2 w1 w2) : StayT T1 T2 w w2 :=
  ⟨Nat.le_trans h.1 h'.1, fun k C e fr q h1 h2 => (h'.2 k C e fr ((h.2 k C e fr q h1 h2).trans q) h1 h2).trans (h.2 k C e fr q h1 h2)⟩
theorem StayT.of_below {T1 T2 : TypeId} {w w' : World} (h : Below w.heap.size w w') : StayT T1 T2 w w' := ⟨h.size, fun k _ _ _ q _ _ => h.block k (Array.getElem?_eq_some_iff.1 q).1⟩
theorem StayT.of_own {T1 T2 : TypeId} {w w' : World} {B sz : Nat} {a : Option Addr} {n c : Nat} {cs : List Value} (h : Own w B T2 sz a n c cs) (g : w.grownBy w' (Value.slice a n c).ownBlock) : StayT T1 T2 w w' := by
  refine ⟨g.size, fun k C e fr q h1 h2 => g.block k (Array.getElem?_eq_some_iff.1 q).1 (fun hk => ?_)⟩
  rcases h.2 with ⟨hv, _⟩ | ⟨b, cap, cur, hv, _, hh, _⟩
  · rw [hv] at hk; cases hk
  · rw [hv] at hk
    have hb : k = b := by simpa [Value.ownBlock] using hk
    subst hb
    rw [q] at hh
    cases hh
    exact h2 rfl
theorem StayT.of_grown1 {T1 T2 : TypeId} {w w' : World} {g : Nat} {L : List Value} (h : Blk w g T1 L) (G : w.grownBy w' (some g)) : StayT T1 T2 w w' := by
  refine ⟨G.size, fun k C e fr q h1 h2 => G.block k (Array.getElem?_eq_some_iff.1 q).1 (fun hk => ?_)⟩
  have hb : k = g := by simpa using hk
  subst hb
  unfold Blk at h
  rw [q] at h
  cases h
  exact h1 rfl
theorem StayT.of_grown2 {T1 T2 : TypeId} {w w' : World} {g : Nat} {L : List Value} (h : Blk w g T2 L) (G : w.grownBy w' (some g)) : StayT T1 T2 w w' := by
  refine ⟨G.size, fun k C e fr q h1 h2 => G.block k (Array.getElem?_eq_some_iff.1 q).1 (fun hk => ?_)⟩
  have hb : k = g := by simpa using hk
  subst hb
  unfold Blk at h
  rw [q] at h
  cases h
  exact h2 rfl
theorem Blk.stayT {T1 T2 : TypeId} {w w' : World} {g : Nat} {e : TypeId} {L : List Value} (h : Blk w g e L) (s : StayT T1 T2 w w') (h1 : e ≠ T1) (h2 : e ≠ T2) : Blk w' g e L := (s.2 g _ _ _ h h1 h2).trans h
theorem Own.stayT {T1 T2 : TypeId} {w w' : World} {B : Nat} {e : TypeId} {sz : Nat} {a : Option Addr} {n c : Nat} {cs : List Value} (h : Own w B e sz a n c cs) (s : StayT T1 T2 w w') (h1 : e ≠ T1) (h2 : e ≠ T2) : Own w' B e sz a n c cs := by
  refine ⟨h.1, ?_⟩
  rcases h.2 with hn | ⟨b, cap, cur, hv, hb, hh, rest⟩
  · exact .inl hn
  · exact .inr ⟨b, cap, cur, hv, hb, (s.2 b _ _ _ hh h1 h2).trans hh, rest⟩
end Go.Proofs.Ytgigadjohjpdkaa
