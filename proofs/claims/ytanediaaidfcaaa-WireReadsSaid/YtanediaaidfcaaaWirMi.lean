/- Merged: WirRt WirRp WirRq WirRr WirTu. -/
import Derived.Test.YtanediaaidfcaaaWirLb
import Derived.BigRegion
/- Pure: a packet that was read may be put; what is put is read, what is read is put. -/
namespace Go.Proofs.Ytanediaaidfcaaa
open Go.RowKit
set_option linter.unusedSimpArgs false
set_option linter.unusedVariables false

def okSh : Fld → Bool
  | .num _ _ _ hi => decide (hi ≤ 9223372036854775807)
  | .text _ most o => decide (12 < o ∨ most ≤ 200)
  | .names => true
theorem decT_short {w most : Nat} {xs s r : List UInt8} (h : decT w most xs = some (s, r)) : s.length ≤ most := by
  unfold decT at h
  split at h
  · split at h
    · next hc => cases h; rw [List.length_take]; omega
    · cases h
  · cases h
theorem decNs_short {n : Nat} {xs r : List UInt8} {l : List (List UInt8)} (h : decNs n xs = some (l, r)) : l.length = n ∧ ∀ s ∈ l, s.length ≤ 12 := by
  induction n generalizing xs l with
  | zero => cases h; exact ⟨rfl, fun s hs => by cases hs⟩
  | succ n ih =>
    unfold decNs at h
    cases h1 : decT 1 12 xs with
    | none => rw [h1] at h; cases h
    | some a =>
      cases h2 : decNs n a.2 with
      | none => rw [h1, Option.bind_some, h2] at h; cases h
      | some b =>
        rw [h1, Option.bind_some, h2, Option.map_some] at h
        cases h
        have q := ih h2
        refine ⟨by rw [List.length_cons, q.1], fun s hs => ?_⟩
        rcases List.mem_cons.1 hs with rfl | hs
        · exact decT_short h1
        · exact q.2 s hs
theorem decF_may {Q Q1 : PkM} {f : Fld} {xs r : List UInt8} (hf : okSh f = true) (h : decF Q xs f = some (Q1, r)) (hq : MayP Q) : MayP Q1 := by
  cases f with
  | num w o lo hi =>
    have hf' : hi ≤ 9223372036854775807 := of_decide_eq_true hf
    simp only [decF, Option.map_eq_some_iff, Prod.mk.injEq] at h
    obtain ⟨⟨v, r'⟩, hv, rfl, _⟩ := h
    have h9 : v ≤ allI := by
      unfold decN at hv
      split at hv
      · split at hv
        · next hc => cases hv; unfold allI; omega
        · cases hv
      · cases hv
    refine ⟨fun k => ?_, hq.short, hq.names, hq.n9⟩
    show (if k = o then v else Q.I k) ≤ allI
    split
    · exact h9
    · exact hq.small k
  | text w m o =>
    have hf' : 12 < o ∨ m ≤ 200 := of_decide_eq_true hf
    simp only [decF, Option.map_eq_some_iff, Prod.mk.injEq] at h
    obtain ⟨⟨s, r'⟩, hv, rfl, _⟩ := h
    have hs := decT_short hv
    refine ⟨hq.small, fun k hk => ?_, hq.names, hq.n9⟩
    show (if k = o then s else Q.S k).length ≤ 200
    split
    · rcases hf' with h | h <;> omega
    · exact hq.short k hk
  | names =>
    have h' : (match getF xs 0 1 with
      | some n => if n ≤ 16 then (decNs n (xs.drop 1)).map fun a => ({ Q with N := a.1 }, a.2) else none
      | none => none) = some (Q1, r) := h
    cases hg : getF xs 0 1 with
    | none => rw [hg] at h'; cases h'
    | some n =>
      rw [hg] at h'
      simp only at h'
      by_cases hn : n ≤ 16
      · rw [if_pos hn] at h'
        simp only [Option.map_eq_some_iff, Prod.mk.injEq] at h'
        obtain ⟨⟨l, r'⟩, hv, rfl, _⟩ := h'
        have q := decNs_short hv
        refine ⟨hq.small, hq.short, fun s hs => Nat.le_trans (q.2 s hs) (by omega), ?_⟩
        show l.length ≤ 100
        omega
      · rw [if_neg hn] at h'; cases h'
theorem decL_may {fs : List Fld} {Q Q1 : PkM} {xs r : List UInt8} (hf : ∀ f ∈ fs, okSh f = true) (h : decL Q xs fs = some (Q1, r)) (hq : MayP Q) : MayP Q1 := by
  induction fs generalizing Q xs with
  | nil => cases h; exact hq
  | cons f fs ih =>
    unfold decL at h
    cases h1 : decF Q xs f with
    | none => rw [h1] at h; cases h
    | some a =>
      rw [h1, Option.bind_some] at h
      exact ih (fun g hg => hf g (List.mem_cons_of_mem _ hg)) h (decF_may (hf f (List.mem_cons_self ..)) h1 hq)
theorem P0z_may : MayP P0z := ⟨fun _ => (by decide : (0 : Int) ≤ allI), fun _ _ => Nat.zero_le _, (fun s hs => by cases hs), Nat.zero_le _⟩
theorem okShRest (k : Int) : ∀ f ∈ fRest k, okSh f = true := by
  unfold fRest
  repeat' split
  all_goals decide
theorem decP_may {xs : List UInt8} {Q : PkM} (h : decP xs = some Q) : MayP Q := by
  unfold decP decA at h
  cases h1 : decL P0z xs fHead with
  | none => rw [h1] at h; cases h
  | some a =>
    rw [h1, Option.bind_some] at h
    cases h2 : decL a.1 a.2 (fRest (a.1.I 0)) with
    | none => rw [h2] at h; cases h
    | some b =>
      rw [h2] at h
      obtain ⟨b1, b2⟩ := b
      cases b2 with
      | nil => cases h; exact decL_may (okShRest _) h2 (decL_may (by decide) h1 P0z_may)
      | cons x t => cases h
theorem dP_may (xs : List UInt8) : MayP (dP xs) := by
  unfold dP
  cases h : decP xs with
  | none => exact P0z_may
  | some Q => exact decP_may h
theorem rwP_may (xs : List UInt8) : MayP (rwP xs) := by
  unfold rwP
  split
  · exact P0z_may
  · split
    · exact dP_may _
    · exact P0z_may
theorem seal_take (e t : List UInt8) (ht : t.length = 4) : (e ++ t).take ((e ++ t).length - 4) = e := by
  rw [List.length_append, ht, Nat.add_sub_cancel, List.take_left']
  rfl
theorem okSum_seal (e : List UInt8) : okSumW (e ++ le 4 (crcF e)) = true := by
  have hl : (le 4 (crcF e)).length = 4 := le_length ..
  have hc := crcF_lt e
  unfold okSumW
  rw [seal_take e _ hl]
  have h1 : (e ++ le 4 (crcF e)).length - 4 = e.length := by rw [List.length_append, hl]; omega
  rw [h1]
  refine decide_eq_true ?_
  unfold getF
  rw [if_pos ⟨rfl, by omega, by rw [List.length_append, hl]; omega⟩]
  have h2 : ((e ++ le 4 (crcF e)).drop (e.length : Int).toNat).take (4 : Int).toNat = le 4 (crcF e) := by
    rw [Int.toNat_natCast, List.drop_left]
    exact List.take_of_length_le (by rw [hl]; decide)
  rw [h2, le_ofLEw 4 _ (by omega), if_pos (by omega)]
theorem rw_seal (e : List UInt8) : rwP (e ++ le 4 (crcF e)) = dP e ∧ rwE (e ++ le 4 (crcF e)) = dE e := by
  have hl : (le 4 (crcF e)).length = 4 := le_length ..
  have h4 : ¬ (e ++ le 4 (crcF e)).length < 4 := by rw [List.length_append, hl]; omega
  unfold rwP rwE
  rw [if_neg h4, if_neg h4, if_pos (okSum_seal e), if_pos (okSum_seal e), seal_take e _ hl]
  exact ⟨rfl, rfl⟩
theorem round1 {R : PkM} (hR : smallP R) (h : putE R = 0) : eqPk R (rwP (putB R)) = true ∧ rwE (putB R) = 0 := by
  obtain ⟨e, e1, e2, e3⟩ := putE_zero h
  have hd := dec_of_enc hR e1
  rw [e3, (rw_seal e).1, (rw_seal e).2]
  have h1 : dP e = backP R := by unfold dP; rw [hd, Option.getD_some]
  have h2 : dE e = 0 := by unfold dE; rw [hd, Option.isSome_some, if_pos rfl]
  rw [h1]
  exact ⟨(eqPk_iff _ _).2 e2, h2⟩
theorem dE_02 (b : List UInt8) : dE b = 0 ∨ dE b = 2 := by
  unfold dE; split
  · exact .inl rfl
  · exact .inr rfl
theorem round2 {b : List UInt8} (h : dE b = 0) : putB (dP b) = b ++ le 4 (crcF b) ∧ putE (dP b) = 0 := by
  cases hd : decP b with
  | none => unfold dE at h; rw [hd] at h; cases h
  | some Q =>
    have he := enc_of_dec hd
    have hm := decP_may hd
    have hb : backP Q = Q := Option.some.inj ((dec_of_enc hm.small he).symm.trans hd)
    have h1 : dP b = Q := by unfold dP; rw [hd, Option.getD_some]
    rw [h1]
    have hw : putW Q = some (putF b (crcF b : Int) 4) := by
      unfold putW
      rw [he]
      simp only
      rw [hb, if_pos ((eqPk_iff _ _).2 (SameP.refl Q))]
    have h2 : putB Q = putF b (crcF b : Int) 4 := (congrArg (fun o => Option.getD o []) hw).trans (Option.getD_some ..)
    exact ⟨by rw [h2, putF4], by unfold putE; rw [hw, Option.isSome_some, if_pos rfl]⟩
end Go.Proofs.Ytanediaaidfcaaa
/- Pure: the document's reader, field by field. -/
namespace Go.Proofs.Ytanediaaidfcaaa
open Go.RowKit
set_option linter.unusedSimpArgs false
set_option linter.unusedVariables false

/-- the packet read so far, where the reader is, has something failed -/
structure RS where
  Q : PkM
  at_ : Nat
  no : Bool
def textR (xs : List UInt8) (s : RS) : RS := ⟨{ s.Q with N := s.Q.N ++ [(rtext xs s.at_ s.no 1).1] }, (rtext xs s.at_ s.no 1).2.1, (rtext xs s.at_ s.no 1).2.2⟩
def namesR (xs : List UInt8) : Nat → RS → RS
  | 0, s => s
  | n + 1, s => if s.no = true then s else namesR xs n (textR xs s)
def stepR (xs : List UInt8) (s : RS) : Fld → RS
  | .num w o _ _ => ⟨setI s.Q o (rnum xs s.at_ s.no w).1, (rnum xs s.at_ s.no w).2.1, (rnum xs s.at_ s.no w).2.2⟩
  | .text w _ o => ⟨setS s.Q o (rtext xs s.at_ s.no w).1, (rtext xs s.at_ s.no w).2.1, (rtext xs s.at_ s.no w).2.2⟩
  | .names => namesR xs (rnum xs s.at_ s.no 1).1 ⟨s.Q, (rnum xs s.at_ s.no 1).2.1, (rnum xs s.at_ s.no 1).2.2⟩
theorem getF_drop (xs : List UInt8) (at_ k : Nat) (h : at_ ≤ xs.length) : getF (xs.drop at_) 0 k = getF xs at_ k := by
  unfold getF
  have e1 : (at_ : Int).toNat = at_ := Int.toNat_natCast _
  have e2 : ((k : Nat) : Int).toNat = k := Int.toNat_natCast _
  have e3 : (0 : Int).toNat = 0 := rfl
  rw [e1, e2, e3, List.drop_zero]
  by_cases hc : widthB k = true ∧ (0 : Int) ≤ (at_ : Int) ∧ (at_ : Int) + (k : Int) ≤ (xs.length : Int)
  · have hc2 : widthB k = true ∧ (0 : Int) ≤ 0 ∧ (0 : Int) + (k : Int) ≤ ((xs.drop at_).length : Int) := ⟨hc.1, by omega, by rw [List.length_drop]; omega⟩
    rw [if_pos hc, if_pos hc2]
  · have hc2 : ¬ (widthB k = true ∧ (0 : Int) ≤ 0 ∧ (0 : Int) + (k : Int) ≤ ((xs.drop at_).length : Int)) := fun q => hc ⟨q.1, by omega, by have := q.2.2; rw [List.length_drop] at this; omega⟩
    rw [if_neg hc, if_neg hc2]
theorem getF_inR {xs : List UInt8} {at_ k v : Nat} (h : getF xs at_ k = some v) : at_ + k ≤ xs.length := by
  unfold getF at h
  split at h
  · next hc => have := hc.2.2; omega
  · cases h
theorem rnum_of {xs : List UInt8} {at_ k v : Nat} (h : getF xs at_ k = some v) (no : Bool) : rnum xs at_ no k = (v, at_ + k, no) := by unfold rnum; rw [h]
/-- what the code reads is what the document reads -/
theorem rnum_dec {xs r : List UInt8} {at_ w : Nat} {lo hi v : Int} (hat : at_ ≤ xs.length) (h : decN w lo hi (xs.drop at_) = some (v, r)) : ∃ n : Nat, v = (n : Int) ∧ rnum xs at_ false w = (n, at_ + w, false) ∧ r = xs.drop (at_ + w) ∧ at_ + w ≤ xs.length := by
  unfold decN at h
  rw [getF_drop xs at_ w hat] at h
  cases hg : getF xs at_ w with
  | none => rw [hg] at h; cases h
  | some n =>
    rw [hg] at h
    simp only at h
    split at h
    · cases h
      exact ⟨n, rfl, rnum_of hg false, by rw [List.drop_drop], getF_inR hg⟩
    · cases h
theorem rtext_dec {xs s r : List UInt8} {at_ w most : Nat} (hat : at_ ≤ xs.length) (h : decT w most (xs.drop at_) = some (s, r)) : ∃ a2, rtext xs at_ false w = (s, a2, false) ∧ r = xs.drop a2 ∧ a2 ≤ xs.length := by
  unfold decT at h
  rw [getF_drop xs at_ w hat] at h
  cases hg : getF xs at_ w with
  | none => rw [hg] at h; cases h
  | some n =>
    rw [hg] at h
    simp only at h
    split at h
    · next hc =>
      cases h
      have hl := hc.2
      rw [List.length_drop] at hl
      refine ⟨at_ + w + n, ?_, by rw [List.drop_drop]; congr 1; omega, by omega⟩
      unfold rtext
      rw [rnum_of hg false]
      simp only
      rw [if_neg (fun q => q.elim (fun q => by cases q) (fun q => by omega)), List.drop_drop]
    · cases h
theorem namesR_dec {xs r : List UInt8} {n : Nat} {l : List (List UInt8)} {at_ : Nat} {Q : PkM} (hat : at_ ≤ xs.length) (h : decNs n (xs.drop at_) = some (l, r)) : ∃ a2, namesR xs n ⟨Q, at_, false⟩ = ⟨{ Q with N := Q.N ++ l }, a2, false⟩ ∧ r = xs.drop a2 ∧ a2 ≤ xs.length := by
  induction n generalizing at_ l Q with
  | zero => cases h; exact ⟨at_, by unfold namesR; rw [List.append_nil], rfl, hat⟩
  | succ n ih =>
    unfold decNs at h
    cases h1 : decT 1 12 (xs.drop at_) with
    | none => rw [h1] at h; cases h
    | some a =>
      rw [h1, Option.bind_some] at h
      obtain ⟨s, r1⟩ := a
      obtain ⟨a2, e1, rfl, e3⟩ := rtext_dec hat h1
      cases h2 : decNs n (xs.drop a2) with
      | none => simp only [h2, Option.map_none] at h; cases h
      | some b =>
        simp only [h2, Option.map_some, Option.some.injEq, Prod.mk.injEq] at h
        obtain ⟨rfl, rfl⟩ := h
        obtain ⟨b1, b2⟩ := b
        obtain ⟨a3, f1, f2, f3⟩ := ih (Q := { Q with N := Q.N ++ [s] }) e3 h2
        refine ⟨a3, ?_, f2, f3⟩
        unfold namesR
        rw [if_neg (by simp)]
        have ht : textR xs ⟨Q, at_, false⟩ = ⟨{ Q with N := Q.N ++ [s] }, a2, false⟩ := by unfold textR; simp only; rw [e1]
        rw [ht, f1]
        simp
theorem stepR_dec {xs r : List UInt8} {f : Fld} {at_ : Nat} {Q Q1 : PkM} (hat : at_ ≤ xs.length) (hN : f = .names → Q.N = []) (h : decF Q (xs.drop at_) f = some (Q1, r)) : ∃ a2, stepR xs ⟨Q, at_, false⟩ f = ⟨Q1, a2, false⟩ ∧ r = xs.drop a2 ∧ a2 ≤ xs.length := by
  cases f with
  | num w o lo hi =>
    simp only [decF, Option.map_eq_some_iff, Prod.mk.injEq] at h
    obtain ⟨⟨v, r'⟩, hv, rfl, rfl⟩ := h
    obtain ⟨n, rfl, e1, e2, e3⟩ := rnum_dec hat hv
    refine ⟨at_ + w, ?_, e2, e3⟩
    show RS.mk (setI Q o (rnum xs at_ false w).1) (rnum xs at_ false w).2.1 (rnum xs at_ false w).2.2 = _
    rw [e1]
  | text w m o =>
    simp only [decF, Option.map_eq_some_iff, Prod.mk.injEq] at h
    obtain ⟨⟨s, r'⟩, hv, rfl, rfl⟩ := h
    obtain ⟨a2, e1, e2, e3⟩ := rtext_dec hat hv
    refine ⟨a2, ?_, e2, e3⟩
    show RS.mk (setS Q o (rtext xs at_ false w).1) (rtext xs at_ false w).2.1 (rtext xs at_ false w).2.2 = _
    rw [e1]
  | names =>
    have hN := hN rfl
    have h' : (match getF (xs.drop at_) 0 1 with
      | some n => if n ≤ 16 then (decNs n ((xs.drop at_).drop 1)).map fun a => ({ Q with N := a.1 }, a.2) else none
      | none => none) = some (Q1, r) := h
    have hgd := getF_drop xs at_ 1 hat
    rw [show ((1 : Nat) : Int) = 1 from rfl] at hgd
    rw [hgd] at h'
    cases hg : getF xs at_ 1 with
    | none => rw [hg] at h'; cases h'
    | some n =>
      rw [hg] at h'
      simp only at h'
      split at h'
      · simp only [Option.map_eq_some_iff, Prod.mk.injEq] at h'
        obtain ⟨⟨l, r'⟩, hv, rfl, rfl⟩ := h'
        rw [List.drop_drop] at hv
        have hin := getF_inR (k := 1) hg
        obtain ⟨a2, e1, e2, e3⟩ := namesR_dec (Q := Q) hin hv
        refine ⟨a2, ?_, e2, e3⟩
        show namesR xs (rnum xs at_ false 1).1 ⟨Q, (rnum xs at_ false 1).2.1, (rnum xs at_ false 1).2.2⟩ = _
        rw [rnum_of (k := 1) hg false]
        simp only
        rw [e1, hN, List.nil_append]
      · cases h'
theorem decF_N {Q Q1 : PkM} {f : Fld} {xs r : List UInt8} (hf : f ≠ .names) (h : decF Q xs f = some (Q1, r)) : Q1.N = Q.N := by
  cases f with
  | num w o lo hi =>
    simp only [decF, Option.map_eq_some_iff, Prod.mk.injEq] at h
    obtain ⟨_, _, rfl, _⟩ := h; rfl
  | text w m o =>
    simp only [decF, Option.map_eq_some_iff, Prod.mk.injEq] at h
    obtain ⟨_, _, rfl, _⟩ := h; rfl
  | names => exact absurd rfl hf
theorem foldR_dec {xs r : List UInt8} {fs : List Fld} {at_ : Nat} {Q Q1 : PkM} (hat : at_ ≤ xs.length) (hn : (fs.map cellF).Nodup) (hQ : Q.N = [] ∨ Fld.names ∉ fs) (h : decL Q (xs.drop at_) fs = some (Q1, r)) : ∃ a2, fs.foldl (stepR xs) ⟨Q, at_, false⟩ = ⟨Q1, a2, false⟩ ∧ r = xs.drop a2 ∧ a2 ≤ xs.length := by
  induction fs generalizing Q at_ with
  | nil => cases h; exact ⟨at_, rfl, rfl, hat⟩
  | cons f fs ih =>
    unfold decL at h
    cases h1 : decF Q (xs.drop at_) f with
    | none => rw [h1] at h; cases h
    | some b =>
      rw [h1, Option.bind_some] at h
      obtain ⟨Qm, r1⟩ := b
      have hnf : f = .names → Q.N = [] := fun e => hQ.elim id (fun q => absurd (by rw [e]; exact List.mem_cons_self ..) q)
      obtain ⟨a2, e1, rfl, e3⟩ := stepR_dec hat hnf h1
      rw [List.map_cons, List.nodup_cons] at hn
      have hQm : Qm.N = [] ∨ Fld.names ∉ fs := by
        by_cases hf : f = .names
        · exact .inr fun q => hn.1 (List.mem_map.2 ⟨.names, q, by rw [hf]⟩)
        · rcases hQ with q | q
          · exact .inl (by rw [decF_N hf h1]; exact q)
          · exact .inr fun q' => q (List.mem_cons_of_mem _ q')
      obtain ⟨a3, f1, f2, f3⟩ := ih e3 hn.2 hQm h
      exact ⟨a3, by rw [List.foldl_cons, e1, f1], f2, f3⟩
theorem rnum_no (xs : List UInt8) (at_ k : Nat) : (rnum xs at_ true k).2.2 = true := by unfold rnum; split <;> rfl
theorem rtext_no (xs : List UInt8) (at_ k : Nat) : (rtext xs at_ true k).2.2 = true := by unfold rtext; rw [if_pos (.inl (rnum_no ..))]
theorem namesR_no (xs : List UInt8) (n : Nat) (Q : PkM) (at_ : Nat) : (namesR xs n ⟨Q, at_, true⟩).no = true := by cases n <;> rfl
theorem stepR_no (xs : List UInt8) (Q : PkM) (at_ : Nat) (f : Fld) : (stepR xs ⟨Q, at_, true⟩ f).no = true := by
  cases f with
  | num w o lo hi => exact rnum_no ..
  | text w m o => exact rtext_no ..
  | names =>
    show (namesR xs _ ⟨Q, _, (rnum xs at_ true 1).2.2⟩).no = true
    rw [rnum_no]; exact namesR_no ..
theorem foldR_no (xs : List UInt8) (fs : List Fld) (s : RS) (h : s.no = true) : (fs.foldl (stepR xs) s).no = true := by
  induction fs generalizing s with
  | nil => exact h
  | cons f fs ih => obtain ⟨Q, at_, no⟩ := s; cases h; exact ih _ (stepR_no ..)
end Go.Proofs.Ytanediaaidfcaaa
/- Pure: the document's reader, back: a chain without failure whose packet may be put is what the code reads. -/
namespace Go.Proofs.Ytanediaaidfcaaa
open Go.RowKit
set_option linter.unusedSimpArgs false
set_option linter.unusedVariables false

theorem rnum_inv {xs : List UInt8} {at_ k n a2 : Nat} {no : Bool} (h : rnum xs at_ no k = (n, a2, false)) : no = false ∧ getF xs at_ k = some n ∧ a2 = at_ + k := by
  unfold rnum at h
  cases hg : getF xs at_ k with
  | none => rw [hg] at h; cases h
  | some v => rw [hg] at h; cases h; exact ⟨rfl, rfl, rfl⟩
theorem rtext_inv {xs s : List UInt8} {at_ k a2 : Nat} {no : Bool} (h : rtext xs at_ no k = (s, a2, false)) : no = false ∧ getF xs at_ k = some s.length ∧ at_ + k + s.length ≤ xs.length ∧ a2 = at_ + k + s.length ∧ s = (xs.drop (at_ + k)).take s.length := by
  unfold rtext at h
  obtain ⟨v, a1, n1, hr⟩ : ∃ v a1 n1, rnum xs at_ no k = (v, a1, n1) := ⟨_, _, _, rfl⟩
  rw [hr] at h
  simp only at h
  split at h
  · cases h
  · next hc =>
    cases h
    have hn1 : n1 = false := by cases n1 with
      | false => rfl
      | true => exact absurd (.inl rfl) hc
    subst hn1
    obtain ⟨q1, q2, rfl⟩ := rnum_inv hr
    have hl : at_ + k + v ≤ xs.length := Nat.le_of_not_lt fun q => hc (.inr q)
    have e : ((xs.drop (at_ + k)).take v).length = v := by rw [List.length_take, List.length_drop]; omega
    exact ⟨q1, by rw [e]; exact q2, by rw [e]; exact hl, by rw [e], by rw [e]⟩
theorem decN_of {xs : List UInt8} {at_ w n : Nat} {lo hi : Int} (hat : at_ ≤ xs.length) (h : getF xs at_ w = some n) (h1 : lo ≤ (n : Int)) (h2 : (n : Int) ≤ hi) : decN w lo hi (xs.drop at_) = some ((n : Int), xs.drop (at_ + w)) := by
  unfold decN
  rw [getF_drop xs at_ w hat, h]
  simp only
  rw [if_pos ⟨h1, h2⟩, List.drop_drop]
theorem decT_of {xs s : List UInt8} {at_ w most a2 : Nat} {no : Bool} (hat : at_ ≤ xs.length) (h : rtext xs at_ no w = (s, a2, false)) (hs : s.length ≤ most) : decT w most (xs.drop at_) = some (s, xs.drop a2) := by
  obtain ⟨_, h1, h2, rfl, h4⟩ := rtext_inv h
  unfold decT
  rw [getF_drop xs at_ w hat, h1]
  simp only
  rw [if_pos ⟨hs, by rw [List.length_drop]; omega⟩, List.drop_drop, List.drop_drop, ← h4]
  rw [show at_ + (w + s.length) = at_ + w + s.length by omega]
theorem namesR_inv {xs : List UInt8} {n : Nat} {Q Q1 : PkM} {at_ a2 : Nat} {no : Bool} (hat : at_ ≤ xs.length) (h : namesR xs n ⟨Q, at_, no⟩ = ⟨Q1, a2, false⟩) (hs : ∀ s ∈ Q1.N, s.length ≤ 12) :
    no = false ∧ ∃ l, Q1 = { Q with N := Q.N ++ l } ∧ decNs n (xs.drop at_) = some (l, xs.drop a2) ∧ a2 ≤ xs.length ∧ l.length = n := by
  induction n generalizing Q at_ no with
  | zero => cases h; exact ⟨rfl, [], by rw [List.append_nil], rfl, hat, rfl⟩
  | succ n ih =>
    unfold namesR at h
    cases no with
    | true => rw [if_pos rfl] at h; cases h
    | false =>
      rw [if_neg (by simp)] at h
      unfold textR at h
      simp only at h
      obtain ⟨s, a1, n1, hr⟩ : ∃ s a1 n1, rtext xs at_ false 1 = (s, a1, n1) := ⟨_, _, _, rfl⟩
      rw [hr] at h
      have hn1 : n1 = false := by
        cases n1 with
        | false => rfl
        | true =>
          have := namesR_no xs n { Q with N := Q.N ++ [s] } a1
          rw [h] at this; cases this
      subst hn1
      obtain ⟨_, _, hl, ha1, _⟩ := rtext_inv hr
      obtain ⟨_, l, e1, e2, e3, e4⟩ := ih (Q := { Q with N := Q.N ++ [s] }) (at_ := a1) (by omega) h
      have hmem : s ∈ Q1.N := by rw [e1]; simp
      refine ⟨rfl, s :: l, by rw [e1]; simp, ?_, e3, by rw [List.length_cons, e4]⟩
      unfold decNs
      rw [decT_of hat hr (hs s hmem), Option.bind_some]
      simp only
      rw [e2, Option.map_some]
theorem encNs_all {l : List (List UInt8)} {e : List UInt8} (h : encNs l = some e) : ∀ s ∈ l, s.length ≤ 12 := by
  induction l generalizing e with
  | nil => intro s hs; cases hs
  | cons a l ih =>
    unfold encNs at h
    cases h1 : encT 1 12 a with
    | none => rw [h1] at h; cases h
    | some b =>
      cases h2 : encNs l with
      | none => rw [h1, h2] at h; cases h
      | some c =>
        intro s hs
        rcases List.mem_cons.1 hs with rfl | hs
        · unfold encT at h1
          split at h1
          · assumption
          · cases h1
        · exact ih h2 s hs
theorem stepR_inv {xs : List UInt8} {f : Fld} {Q Q1 : PkM} {at_ a2 : Nat} {no : Bool} {e : List UInt8} (hat : at_ ≤ xs.length) (hN : f = .names → Q.N = []) (h : stepR xs ⟨Q, at_, no⟩ f = ⟨Q1, a2, false⟩) (he : encF Q1 f = some e) :
    no = false ∧ decF Q (xs.drop at_) f = some (Q1, xs.drop a2) ∧ a2 ≤ xs.length := by
  cases f with
  | num w o lo hi =>
    obtain ⟨n, a1, n1, hr⟩ : ∃ n a1 n1, rnum xs at_ no w = (n, a1, n1) := ⟨_, _, _, rfl⟩
    unfold stepR at h
    simp only [hr] at h
    cases h
    obtain ⟨q1, q2, rfl⟩ := rnum_inv hr
    have hv : (setI Q o (n : Int)).I o = (n : Int) := by show (if o = o then (n : Int) else Q.I o) = n; rw [if_pos rfl]
    have he' : encN w lo hi ((setI Q o (n : Int)).I o) = some e := he
    rw [hv] at he'
    unfold encN at he'
    split at he'
    · next hc =>
      have := getF_inR q2
      exact ⟨q1, by show (decN w lo hi (xs.drop at_)).map (fun a => (setI Q o a.1, a.2)) = _; rw [decN_of hat q2 hc.2.1 hc.2.2, Option.map_some], this⟩
    · cases he'
  | text w m o =>
    obtain ⟨s, a1, n1, hr⟩ : ∃ s a1 n1, rtext xs at_ no w = (s, a1, n1) := ⟨_, _, _, rfl⟩
    unfold stepR at h
    simp only [hr] at h
    cases h
    have hv : (setS Q o s).S o = s := by show (if o = o then s else Q.S o) = s; rw [if_pos rfl]
    have he' : encT w m ((setS Q o s).S o) = some e := he
    rw [hv] at he'
    unfold encT at he'
    split at he'
    · next hc =>
      obtain ⟨q1, _, q3, q4, _⟩ := rtext_inv hr
      exact ⟨q1, by show (decT w m (xs.drop at_)).map (fun a => (setS Q o a.1, a.2)) = _; rw [decT_of hat hr hc, Option.map_some], by omega⟩
    · cases he'
  | names =>
    have hN := hN rfl
    obtain ⟨n, a1, n1, hr⟩ : ∃ n a1 n1, rnum xs at_ no 1 = (n, a1, n1) := ⟨_, _, _, rfl⟩
    unfold stepR at h
    simp only [hr] at h
    have he' : (if Q1.N.length ≤ 16 then (encNs Q1.N).map fun b => le 1 Q1.N.length ++ b else none) = some e := he
    split at he'
    · next h16 =>
      cases h1 : encNs Q1.N with
      | none => rw [h1] at he'; cases he'
      | some b =>
        have hn1 : n1 = false := by
          cases n1 with
          | false => rfl
          | true =>
            have := namesR_no xs n Q a1
            rw [h] at this; cases this
        subst hn1
        obtain ⟨q1, q2, rfl⟩ := rnum_inv hr
        have hin := getF_inR (k := 1) q2
        obtain ⟨_, l, e1, e2, e3, e4⟩ := namesR_inv hin h (encNs_all h1)
        rw [hN, List.nil_append] at e1
        have hln : Q1.N.length = n := by rw [e1]; exact e4
        refine ⟨q1, ?_, e3⟩
        show (match getF (xs.drop at_) 0 1 with
          | some n => if n ≤ 16 then (decNs n ((xs.drop at_).drop 1)).map fun (a : List (List UInt8) × List UInt8) => ({ Q with N := a.1 }, a.2) else none
          | none => none) = some (Q1, xs.drop a2)
        have hgd := getF_drop xs at_ 1 hat
        rw [show ((1 : Nat) : Int) = 1 from rfl] at hgd
        rw [hgd, show getF xs at_ 1 = some n from q2]
        simp only
        rw [if_pos (by omega), List.drop_drop, e2, Option.map_some, e1]
    · cases he'
theorem namesR_keep (xs : List UInt8) (n : Nat) (s : RS) : (namesR xs n s).Q.I = s.Q.I ∧ (namesR xs n s).Q.S = s.Q.S := by
  induction n generalizing s with
  | zero => exact ⟨rfl, rfl⟩
  | succ n ih =>
    unfold namesR
    split
    · exact ⟨rfl, rfl⟩
    · exact ih (textR xs s)
theorem stepR_keep (xs : List UInt8) (s : RS) (f : Fld) (o : Nat) (h : cellF f ≠ o) : (stepR xs s f).Q.I o = s.Q.I o ∧ (stepR xs s f).Q.S o = s.Q.S o := by
  cases f with
  | num w o' lo hi => exact ⟨if_neg (fun e => h e.symm), rfl⟩
  | text w m o' => exact ⟨rfl, if_neg (fun e => h e.symm)⟩
  | names =>
    have q := namesR_keep xs (rnum xs s.at_ s.no 1).1 ⟨s.Q, (rnum xs s.at_ s.no 1).2.1, (rnum xs s.at_ s.no 1).2.2⟩
    exact ⟨congrFun q.1 o, congrFun q.2 o⟩
theorem stepR_keepN (xs : List UInt8) (s : RS) (f : Fld) (h : f ≠ .names) : (stepR xs s f).Q.N = s.Q.N := by
  cases f with
  | num w o' lo hi => rfl
  | text w m o' => rfl
  | names => exact absurd rfl h
theorem foldR_keep (xs : List UInt8) (fs : List Fld) (s : RS) (o : Nat) (h : o ∉ fs.map cellF) : (fs.foldl (stepR xs) s).Q.I o = s.Q.I o ∧ (fs.foldl (stepR xs) s).Q.S o = s.Q.S o := by
  induction fs generalizing s with
  | nil => exact ⟨rfl, rfl⟩
  | cons f fs ih =>
    rw [List.map_cons, List.mem_cons, not_or] at h
    have q1 := stepR_keep xs s f o (fun e => h.1 e.symm)
    have q2 := ih (stepR xs s f) h.2
    exact ⟨q2.1.trans q1.1, q2.2.trans q1.2⟩
theorem foldR_keepN (xs : List UInt8) (fs : List Fld) (s : RS) (h : Fld.names ∉ fs) : (fs.foldl (stepR xs) s).Q.N = s.Q.N := by
  induction fs generalizing s with
  | nil => rfl
  | cons f fs ih =>
    rw [List.mem_cons, not_or] at h
    exact (ih (stepR xs s f) h.2).trans (stepR_keepN xs s f (fun e => h.1 e.symm))
theorem encF_keep (xs : List UInt8) (fs : List Fld) (s : RS) (f : Fld) (h : cellF f ∉ fs.map cellF) : encF (fs.foldl (stepR xs) s).Q f = encF s.Q f := by
  cases f with
  | num w o lo hi => show encN w lo hi _ = encN w lo hi _; rw [(foldR_keep xs fs s o h).1]
  | text w m o => show encT w m _ = encT w m _; rw [(foldR_keep xs fs s o h).2]
  | names =>
    have hn : Fld.names ∉ fs := fun q => h (List.mem_map.2 ⟨_, q, rfl⟩)
    unfold encF
    rw [foldR_keepN xs fs s hn]
theorem foldR_inv {xs : List UInt8} {fs : List Fld} {Q Q1 : PkM} {at_ a2 : Nat} {no : Bool} {e : List UInt8} (hat : at_ ≤ xs.length) (hn : (fs.map cellF).Nodup) (hQ : Q.N = [] ∨ Fld.names ∉ fs)
    (h : fs.foldl (stepR xs) ⟨Q, at_, no⟩ = ⟨Q1, a2, false⟩) (he : encL Q1 fs = some e) : no = false ∧ decL Q (xs.drop at_) fs = some (Q1, xs.drop a2) ∧ a2 ≤ xs.length := by
  induction fs generalizing Q at_ no e with
  | nil => cases h; exact ⟨rfl, rfl, hat⟩
  | cons f fs ih =>
    rw [List.map_cons, List.nodup_cons] at hn
    rw [List.foldl_cons] at h
    obtain ⟨Qm, am, nm, hs⟩ : ∃ Qm am nm, stepR xs ⟨Q, at_, no⟩ f = ⟨Qm, am, nm⟩ := ⟨_, _, _, rfl⟩
    rw [hs] at h
    unfold encL at he
    cases h1 : encF Q1 f with
    | none => rw [h1] at he; cases he
    | some e1 =>
      cases h2 : encL Q1 fs with
      | none => rw [h1, h2] at he; cases he
      | some e2 =>
        have hnm : nm = false := by
          cases nm with
          | false => rfl
          | true =>
            have := foldR_no xs fs ⟨Qm, am, true⟩ rfl
            rw [h] at this; cases this
        subst hnm
        have hk := encF_keep xs fs ⟨Qm, am, false⟩ f hn.1
        rw [h] at hk
        have hk' : encF Qm f = some e1 := hk.symm.trans h1
        have hnf : f = .names → Q.N = [] := fun e => hQ.elim id (fun q => absurd (by rw [e]; exact List.mem_cons_self ..) q)
        obtain ⟨q1, q2, q3⟩ := stepR_inv hat hnf hs hk'
        have hQm : Qm.N = [] ∨ Fld.names ∉ fs := by
          by_cases hf : f = .names
          · exact .inr fun q => hn.1 (List.mem_map.2 ⟨.names, q, by rw [hf]⟩)
          · rcases hQ with q | q
            · exact .inl (by rw [decF_N hf q2]; exact q)
            · exact .inr fun q' => q (List.mem_cons_of_mem _ q')
        obtain ⟨_, r2, r3⟩ := ih q3 hn.2 hQm h h2
        refine ⟨q1, ?_, r3⟩
        unfold decL
        rw [q2, Option.bind_some]
        exact r2
end Go.Proofs.Ytanediaaidfcaaa
/- Pure: the document's Read reads just what the code reads. -/
namespace Go.Proofs.Ytanediaaidfcaaa
open Go.RowKit
set_option linter.unusedSimpArgs false
set_option linter.unusedVariables false

/-- the reader behind the head -/
def headR (xs : List UInt8) : RS := fHead.foldl (stepR xs) ⟨P0z, 0, false⟩
/-- the reader at the end: a kind that is not known reads no more -/
def docR (xs : List UInt8) : RS := if 1 ≤ (headR xs).Q.I 0 ∧ (headR xs).Q.I 0 ≤ 5 then (fRest ((headR xs).Q.I 0)).foldl (stepR xs) (headR xs) else headR xs
def docOk (xs : List UInt8) : Bool := !(docR xs).no && decide ((docR xs).at_ = xs.length) && (inW (docR xs).Q).isSome
theorem nodup_head : (fHead.map cellF).Nodup := by decide
theorem nodup_rest (k : Int) : ((fRest k).map cellF).Nodup := by
  have h := fAll_nodup k
  rw [List.map_append, List.nodup_append] at h
  exact h.2.1
theorem zero_rest (k : Int) : (0 : Nat) ∉ (fRest k).map cellF := by
  have h := fAll_nodup k
  rw [List.map_append, List.nodup_append] at h
  exact fun q => h.2.2 0 (by decide) 0 q rfl
theorem head_N (xs : List UInt8) : (headR xs).Q.N = [] := foldR_keepN xs fHead _ (by unfold fHead; simp)
theorem docR_of_dec {xs : List UInt8} {Q : PkM} (h : decP xs = some Q) : docR xs = ⟨Q, xs.length, false⟩ ∧ inW Q = some xs := by
  have h0 := h
  unfold decP decA at h
  cases h1 : decL P0z xs fHead with
  | none => rw [h1] at h; cases h
  | some a =>
    obtain ⟨Qa, ra⟩ := a
    rw [h1, Option.bind_some] at h
    simp only at h
    cases h2 : decL Qa ra (fRest (Qa.I 0)) with
    | none => rw [h2] at h; cases h
    | some b =>
      obtain ⟨Qb, rb⟩ := b
      rw [h2] at h
      cases rb with
      | cons x t => cases h
      | nil =>
        cases h
        have hk := okB_iff.1 (head_kind h1)
        obtain ⟨a1, e1, rfl, e3⟩ := foldR_dec (at_ := 0) (Q := P0z) (Nat.zero_le _) nodup_head (.inl rfl) (show decL P0z (xs.drop 0) fHead = some (Qa, ra) from h1)
        have hh : headR xs = ⟨Qa, a1, false⟩ := e1
        have hN : Qa.N = [] := by have := head_N xs; rw [hh] at this; exact this
        obtain ⟨a2, f1, f2, f3⟩ := foldR_dec e3 (nodup_rest _) (.inl hN) h2
        have ha2 : a2 = xs.length := by
          have := congrArg List.length f2
          rw [List.length_drop] at this
          simp at this
          omega
        subst ha2
        refine ⟨?_, ?_⟩
        · unfold docR
          rw [hh]
          rw [if_pos hk]
          exact f1
        · have he := enc_of_dec h0
          have hm := decP_may h0
          have hb : backP Q = Q := Option.some.inj ((dec_of_enc hm.small he).symm.trans h0)
          unfold inW
          rw [he]
          simp only
          rw [hb, if_pos ((eqPk_iff _ _).2 (SameP.refl Q))]
theorem dec_of_docR {xs : List UInt8} (h : docOk xs = true) : decP xs = some (docR xs).Q := by
  unfold docOk at h
  simp only [Bool.and_eq_true, Bool.not_eq_true', decide_eq_true_eq] at h
  obtain ⟨⟨hno, hat⟩, hin⟩ := h
  cases hi : inW (docR xs).Q with
  | none => rw [hi] at hin; cases hin
  | some e =>
    have he := inW_enc hi
    by_cases hk : 1 ≤ (headR xs).Q.I 0 ∧ (headR xs).Q.I 0 ≤ 5
    · have hd : docR xs = (fRest ((headR xs).Q.I 0)).foldl (stepR xs) (headR xs) := by unfold docR; rw [if_pos hk]
      have hI : (docR xs).Q.I 0 = (headR xs).Q.I 0 := by rw [hd]; exact (foldR_keep xs _ _ 0 (zero_rest _)).1
      have hfold : (fHead ++ fRest ((headR xs).Q.I 0)).foldl (stepR xs) ⟨P0z, 0, false⟩ = ⟨(docR xs).Q, (docR xs).at_, false⟩ := by
        rw [List.foldl_append]
        show (fRest ((headR xs).Q.I 0)).foldl (stepR xs) (headR xs) = _
        rw [← hd, ← hno]
      have he' : encL (docR xs).Q (fHead ++ fRest ((headR xs).Q.I 0)) = some e := by rw [← hI]; exact he
      obtain ⟨_, q2, _⟩ := foldR_inv (Nat.zero_le _) (fAll_nodup _) (.inl rfl) hfold he'
      rw [List.drop_zero, hat, List.drop_length, decL_append] at q2
      cases h1 : decL P0z xs fHead with
      | none => rw [h1] at q2; cases q2
      | some a =>
        obtain ⟨Qa, ra⟩ := a
        rw [h1, Option.bind_some] at q2
        obtain ⟨a1, e1, rfl, e3⟩ := foldR_dec (at_ := 0) (Q := P0z) (Nat.zero_le _) nodup_head (.inl rfl) (show decL P0z (xs.drop 0) fHead = some (Qa, ra) from h1)
        have hh : headR xs = ⟨Qa, a1, false⟩ := e1
        have hQa : (headR xs).Q = Qa := by rw [hh]
        unfold decP decA
        rw [h1, Option.bind_some]
        simp only at q2 ⊢
        rw [hQa] at q2
        rw [q2]
    · exfalso
      have hd : docR xs = headR xs := by unfold docR; rw [if_neg hk]
      rw [hd, inW_none _ hk] at hi
      cases hi
/-- what the document's Read tells of a packet's bytes -/
theorem docOk_iff (xs : List UInt8) : docOk xs = (decP xs).isSome := by
  cases h : decP xs with
  | some Q =>
    obtain ⟨h1, h2⟩ := docR_of_dec h
    unfold docOk
    rw [h1]
    simp only
    rw [h2]
    simp
  | none =>
    cases hd : docOk xs with
    | false => rfl
    | true => rw [dec_of_docR hd] at h; cases h
end Go.Proofs.Ytanediaaidfcaaa
/- Pure: one byte turned. -/
namespace Go.Proofs.Ytanediaaidfcaaa
open Go.RowKit
set_option linter.unusedSimpArgs false
set_option linter.unusedVariables false

theorem xor_ne {x y : UInt8} (h : x ≠ 0) : y ^^^ x ≠ y := by
  intro e
  apply h
  apply UInt8.toNat_inj.1
  have e2 := congrArg UInt8.toNat e
  rw [UInt8.toNat_xor] at e2
  have : y.toNat ^^^ (y.toNat ^^^ x.toNat) = y.toNat ^^^ y.toNat := by rw [e2]
  rw [← Nat.xor_assoc, Nat.xor_self, Nat.zero_xor] at this
  rw [this]; rfl

theorem crcReg_set (r : Nat) (l : List UInt8) (m : Nat) (x : UInt8) (h : m < l.length) : crcReg r (l.set m (l.getD m 0 ^^^ x)) = crcReg r l ^^^ crcSteps (8 * (l.length - m)) x.toNat := by
  induction l generalizing r m with
  | nil => simp at h
  | cons y ys ih =>
    cases m with
    | zero =>
      have e1 : (y :: ys).set 0 ((y :: ys).getD 0 0 ^^^ x) = (y ^^^ x) :: ys := rfl
      rw [e1, crcReg_cons, crcReg_cons]
      have e2 : crcByte r (y ^^^ x) = crcByte r y ^^^ crcSteps 8 x.toNat := by
        rw [crcByte_eq, crcByte_eq, UInt8.toNat_xor, ← Nat.xor_assoc, crcSteps_xor]
      rw [e2, crcReg_xor, ← crcSteps_add, show 8 * ((y :: ys).length - 0) = 8 * ys.length + 8 from by simp only [List.length_cons]; omega]
    | succ m =>
      have e1 : (y :: ys).set (m + 1) ((y :: ys).getD (m + 1) 0 ^^^ x) = y :: ys.set m (ys.getD m 0 ^^^ x) := rfl
      rw [e1, crcReg_cons, crcReg_cons, ih _ _ (by simpa using h), show 8 * ((y :: ys).length - (m + 1)) = 8 * (ys.length - m) from by simp only [List.length_cons]; omega]

theorem crcF_set {l : List UInt8} {m : Nat} {x : UInt8} (h : m < l.length) (hx : x ≠ 0) : crcF (l.set m (l.getD m 0 ^^^ x)) ≠ crcF l := by
  intro e
  unfold crcF at e
  have h1 := crcReg_lt (r := 4294967295) (by omega) l
  have h2 := crcReg_lt (r := 4294967295) (by omega) (l.set m (l.getD m 0 ^^^ x))
  have e2 : crcReg 4294967295 (l.set m (l.getD m 0 ^^^ x)) = crcReg 4294967295 l := by omega
  rw [crcReg_set _ _ _ _ h] at e2
  have e3 : crcReg 4294967295 l ^^^ (crcReg 4294967295 l ^^^ crcSteps (8 * (l.length - m)) x.toNat) = crcReg 4294967295 l ^^^ crcReg 4294967295 l := by rw [e2]
  rw [← Nat.xor_assoc, Nat.xor_self, Nat.zero_xor] at e3
  have hx8 := x.toNat_lt
  have e4 := crcSteps_eq_zero (by omega) e3
  exact hx (UInt8.toNat_inj.1 e4)
theorem le_ofLEt (ys : List UInt8) : le ys.length (ofLE ys) = ys := by
  induction ys with
  | nil => rfl
  | cons y ys ih =>
    have hy := y.toNat_lt
    simp only [List.length_cons, le, ofLE]
    have e1 : (y.toNat + 256 * ofLE ys) / 256 = ofLE ys := by omega
    have e2 : UInt8.ofNat (y.toNat + 256 * ofLE ys) = y := by
      apply UInt8.toNat_inj.1; simp
    rw [e1, ih, e2]
theorem okSum_app (e t : List UInt8) (ht : t.length = 4) : okSumW (e ++ t) = decide (ofLE t = crcF e) := by
  unfold okSumW
  rw [seal_take e t ht]
  have h1 : (e ++ t).length - 4 = e.length := by rw [List.length_append, ht]; omega
  rw [h1]
  have hb := ofLE_lt t
  rw [ht] at hb
  have h2 : getF (e ++ t) (e.length : Int) 4 = some (ofLE t) := by
    unfold getF
    have h3 : ((e ++ t).drop (e.length : Int).toNat).take (4 : Int).toNat = t := by
      rw [Int.toNat_natCast, List.drop_left]
      exact List.take_of_length_le (by rw [ht]; decide)
    rw [if_pos ⟨rfl, by omega, by rw [List.length_append, ht]; omega⟩, h3, if_pos (by omega)]
  rw [h2]
  simp only [Option.some.injEq]
theorem turned07 {e : List UInt8} {m : Nat} {x : UInt8} (hm : m < (e ++ le 4 (crcF e)).length) (hx : x ≠ 0) : rwE ((e ++ le 4 (crcF e)).set m ((e ++ le 4 (crcF e)).getD m 0 ^^^ x)) = 4 := by
  have hl : (le 4 (crcF e)).length = 4 := le_length ..
  have h4 : ¬ ((e ++ le 4 (crcF e)).set m ((e ++ le 4 (crcF e)).getD m 0 ^^^ x)).length < 4 := by rw [List.length_set, List.length_append, hl]; omega
  have hok : okSumW ((e ++ le 4 (crcF e)).set m ((e ++ le 4 (crcF e)).getD m 0 ^^^ x)) = false := by
    by_cases hme : m < e.length
    · rw [List.set_append_left _ _ hme, List.getD_eq_getElem?_getD, List.getElem?_append_left hme, ← List.getD_eq_getElem?_getD, okSum_app _ _ hl, le_ofLEw 4 _ (by have := crcF_lt e; omega)]
      exact decide_eq_false fun q => crcF_set hme hx q.symm
    · rw [List.set_append_right _ _ (by omega), okSum_app _ _ (by rw [List.length_set, hl])]
      refine decide_eq_false fun q => ?_
      have h1 := le_ofLEt ((le 4 (crcF e)).set (m - e.length) ((e ++ le 4 (crcF e)).getD m 0 ^^^ x))
      rw [q, List.length_set, hl] at h1
      have hm4 : m - e.length < (le 4 (crcF e)).length := by rw [List.length_append] at hm; omega
      have h2 := congrArg (fun t => t[m - e.length]?) h1
      rw [List.getElem?_set_self hm4, List.getElem?_eq_getElem hm4, List.getD_eq_getElem?_getD, List.getElem?_append_right (by omega), List.getElem?_eq_getElem hm4, Option.getD_some] at h2
      exact xor_ne hx (Option.some.inj h2).symm
  unfold rwE
  rw [if_neg h4, hok, if_neg (by decide)]
theorem set_blk {w : World} {g : Nat} {ys : List UInt8} {Z : List Value} (h : Blk w g 5 (ys.map byteV ++ Z)) {A : Nat} (hA : A < ys.length) (b : UInt8) :
    Blk (w.setCell ⟨g, A, none⟩ (byteV b)) g 5 ((ys.set A b).map byteV ++ Z) := by
  have := h.set A (byteV b)
  rwa [List.set_append_left _ _ (by simpa using hA), ← List.map_set] at this

theorem neg_tmod_of' {n m d : Int} (h : n < 0) (hd : 0 < d) (hm : -(n + 1) % d = m) : (n + 1).tmod d = -m := by
  have h1 := Int.tmod_eq_emod_of_nonneg (a := -(n + 1)) (b := d) (by omega)
  rw [Int.neg_tmod] at h1
  omega

theorem xor_byte (ys : List UInt8) (A : Nat) {x : Nat} (hx : x < 256) : byteV (ys.getD A 0 ^^^ UInt8.ofNat x) = .int .u8 (bits .xor .u8 (bAt ys A : Int) (x : Int)) := by
  rw [u8_xor_nat _ _ (bAt_lt ys _) hx]
  unfold byteV bAt
  rw [UInt8.toNat_xor, show (UInt8.ofNat x).toNat = x from by simp; omega]

end Go.Proofs.Ytanediaaidfcaaa
