/- Pure: a packet that was read may be put; what is put is read, what is read is put. -/
import Derived.Test.YtanediaaidfcaaaWirLb
namespace Go.Proofs.Ytanediaaidfcaaa
open Go.RowKit
set_option linter.unusedSimpArgs false
set_option linter.unusedVariables false

def okSh : Fld → Bool
  | .num _ _ _ hi => decide (hi ≤ 9223372036854775807)
  | .text _ most o => decide (12 < o ∨ most ≤ 200)
  | .names => true
theorem decT_short {w most : Nat} {xs s r : List UInt8} (h : decT w most xs = some (s, r)) : s.length ≤ most := by
  unfold decT at h
  split at h
  · split at h
    · next hc => cases h; rw [List.length_take]; omega
    · cases h
  · cases h
theorem decNs_short {n : Nat} {xs r : List UInt8} {l : List (List UInt8)} (h : decNs n xs = some (l, r)) : l.length = n ∧ ∀ s ∈ l, s.length ≤ 12 := by
  induction n generalizing xs l with
  | zero => cases h; exact ⟨rfl, fun s hs => by cases hs⟩
  | succ n ih =>
    unfold decNs at h
    cases h1 : decT 1 12 xs with
    | none => rw [h1] at h; cases h
    | some a =>
      cases h2 : decNs n a.2 with
      | none => rw [h1, Option.bind_some, h2] at h; cases h
      | some b =>
        rw [h1, Option.bind_some, h2, Option.map_some] at h
        cases h
        have q := ih h2
        refine ⟨by rw [List.length_cons, q.1], fun s hs => ?_⟩
        rcases List.mem_cons.1 hs with rfl | hs
        · exact decT_short h1
        · exact q.2 s hs
theorem decF_may {Q Q1 : PkM} {f : Fld} {xs r : List UInt8} (hf : okSh f = true) (h : decF Q xs f = some (Q1, r)) (hq : MayP Q) : MayP Q1 := by
  cases f with
  | num w o lo hi =>
    have hf' : hi ≤ 9223372036854775807 := of_decide_eq_true hf
    simp only [decF, Option.map_eq_some_iff, Prod.mk.injEq] at h
    obtain ⟨⟨v, r'⟩, hv, rfl, _⟩ := h
    have h9 : v ≤ allI := by
      unfold decN at hv
      split at hv
      · split at hv
        · next hc => cases hv; unfold allI; omega
        · cases hv
      · cases hv
    refine ⟨fun k => ?_, hq.short, hq.names, hq.n9⟩
    show (if k = o then v else Q.I k) ≤ allI
    split
    · exact h9
    · exact hq.small k
  | text w m o =>
    have hf' : 12 < o ∨ m ≤ 200 := of_decide_eq_true hf
    simp only [decF, Option.map_eq_some_iff, Prod.mk.injEq] at h
    obtain ⟨⟨s, r'⟩, hv, rfl, _⟩ := h
    have hs := decT_short hv
    refine ⟨hq.small, fun k hk => ?_, hq.names, hq.n9⟩
    show (if k = o then s else Q.S k).length ≤ 200
    split
    · rcases hf' with h | h <;> omega
    · exact hq.short k hk
  | names =>
    have h' : (match getF xs 0 1 with
      | some n => if n ≤ 16 then (decNs n (xs.drop 1)).map fun a => ({ Q with N := a.1 }, a.2) else none
      | none => none) = some (Q1, r) := h
    cases hg : getF xs 0 1 with
    | none => rw [hg] at h'; cases h'
    | some n =>
      rw [hg] at h'
      simp only at h'
      by_cases hn : n ≤ 16
      · rw [if_pos hn] at h'
        simp only [Option.map_eq_some_iff, Prod.mk.injEq] at h'
        obtain ⟨⟨l, r'⟩, hv, rfl, _⟩ := h'
        have q := decNs_short hv
        refine ⟨hq.small, hq.short, fun s hs => Nat.le_trans (q.2 s hs) (by omega), ?_⟩
        show l.length ≤ 100
        omega
      · rw [if_neg hn] at h'; cases h'
theorem decL_may {fs : List Fld} {Q Q1 : PkM} {xs r : List UInt8} (hf : ∀ f ∈ fs, okSh f = true) (h : decL Q xs fs = some (Q1, r)) (hq : MayP Q) : MayP Q1 := by
  induction fs generalizing Q xs with
  | nil => cases h; exact hq
  | cons f fs ih =>
    unfold decL at h
    cases h1 : decF Q xs f with
    | none => rw [h1] at h; cases h
    | some a =>
      rw [h1, Option.bind_some] at h
      exact ih (fun g hg => hf g (List.mem_cons_of_mem _ hg)) h (decF_may (hf f (List.mem_cons_self ..)) h1 hq)
theorem P0z_may : MayP P0z := ⟨fun _ => (by decide : (0 : Int) ≤ allI), fun _ _ => Nat.zero_le _, (fun s hs => by cases hs), Nat.zero_le _⟩
theorem okShRest (k : Int) : ∀ f ∈ fRest k, okSh f = true := by
  unfold fRest
  repeat' split
  all_goals decide
theorem decP_may {xs : List UInt8} {Q : PkM} (h : decP xs = some Q) : MayP Q := by
  unfold decP decA at h
  cases h1 : decL P0z xs fHead with
  | none => rw [h1] at h; cases h
  | some a =>
    rw [h1, Option.bind_some] at h
    cases h2 : decL a.1 a.2 (fRest (a.1.I 0)) with
    | none => rw [h2] at h; cases h
    | some b =>
      rw [h2] at h
      obtain ⟨b1, b2⟩ := b
      cases b2 with
      | nil => cases h; exact decL_may (okShRest _) h2 (decL_may (by decide) h1 P0z_may)
      | cons x t => cases h
theorem dP_may (xs : List UInt8) : MayP (dP xs) := by
  unfold dP
  cases h : decP xs with
  | none => exact P0z_may
  | some Q => exact decP_may h
theorem rwP_may (xs : List UInt8) : MayP (rwP xs) := by
  unfold rwP
  split
  · exact P0z_may
  · split
    · exact dP_may _
    · exact P0z_may
theorem seal_take (e t : List UInt8) (ht : t.length = 4) : (e ++ t).take ((e ++ t).length - 4) = e := by
  rw [List.length_append, ht, Nat.add_sub_cancel, List.take_left']
  rfl
theorem okSum_seal (e : List UInt8) : okSumW (e ++ le 4 (crcF e)) = true := by
  have hl : (le 4 (crcF e)).length = 4 := le_length ..
  have hc := crcF_lt e
  unfold okSumW
  rw [seal_take e _ hl]
  have h1 : (e ++ le 4 (crcF e)).length - 4 = e.length := by rw [List.length_append, hl]; omega
  rw [h1]
  refine decide_eq_true ?_
  unfold getF
  rw [if_pos ⟨rfl, by omega, by rw [List.length_append, hl]; omega⟩]
  have h2 : ((e ++ le 4 (crcF e)).drop (e.length : Int).toNat).take (4 : Int).toNat = le 4 (crcF e) := by
    rw [Int.toNat_natCast, List.drop_left]
    exact List.take_of_length_le (by rw [hl]; decide)
  rw [h2, le_ofLEw 4 _ (by omega), if_pos (by omega)]
theorem rw_seal (e : List UInt8) : rwP (e ++ le 4 (crcF e)) = dP e ∧ rwE (e ++ le 4 (crcF e)) = dE e := by
  have hl : (le 4 (crcF e)).length = 4 := le_length ..
  have h4 : ¬ (e ++ le 4 (crcF e)).length < 4 := by rw [List.length_append, hl]; omega
  unfold rwP rwE
  rw [if_neg h4, if_neg h4, if_pos (okSum_seal e), if_pos (okSum_seal e), seal_take e _ hl]
  exact ⟨rfl, rfl⟩
theorem round1 {R : PkM} (hR : smallP R) (h : putE R = 0) : eqPk R (rwP (putB R)) = true ∧ rwE (putB R) = 0 := by
  obtain ⟨e, e1, e2, e3⟩ := putE_zero h
  have hd := dec_of_enc hR e1
  rw [e3, (rw_seal e).1, (rw_seal e).2]
  have h1 : dP e = backP R := by unfold dP; rw [hd, Option.getD_some]
  have h2 : dE e = 0 := by unfold dE; rw [hd, Option.isSome_some, if_pos rfl]
  rw [h1]
  exact ⟨(eqPk_iff _ _).2 e2, h2⟩
theorem dE_02 (b : List UInt8) : dE b = 0 ∨ dE b = 2 := by
  unfold dE; split
  · exact .inl rfl
  · exact .inr rfl
theorem round2 {b : List UInt8} (h : dE b = 0) : putB (dP b) = b ++ le 4 (crcF b) ∧ putE (dP b) = 0 := by
  cases hd : decP b with
  | none => unfold dE at h; rw [hd] at h; cases h
  | some Q =>
    have he := enc_of_dec hd
    have hm := decP_may hd
    have hb : backP Q = Q := Option.some.inj ((dec_of_enc hm.small he).symm.trans hd)
    have h1 : dP b = Q := by unfold dP; rw [hd, Option.getD_some]
    rw [h1]
    have hw : putW Q = some (putF b (crcF b : Int) 4) := by
      unfold putW
      rw [he]
      simp only
      rw [hb, if_pos ((eqPk_iff _ _).2 (SameP.refl Q))]
    have h2 : putB Q = putF b (crcF b : Int) 4 := (congrArg (fun o => Option.getD o []) hw).trans (Option.getD_some ..)
    exact ⟨by rw [h2, putF4], by unfold putE; rw [hw, Option.isSome_some, if_pos rfl]⟩
end Go.Proofs.Ytanediaaidfcaaa
