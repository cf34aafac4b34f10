/- Pure: what the coder reads is the document's fields. -/
import Derived.Test.YtanediaaidfcaaaWirPa
import Derived.Test.YtanediaaidfcaaaWirMe
namespace Go.Proofs.Ytanediaaidfcaaa
open Go.RowKit
set_option linter.unusedSimpArgs false
set_option linter.unusedVariables false

def dacF (o : Option (PkM × List UInt8)) (f : Fld) : Option (PkM × List UInt8) := o.bind fun a => decF a.1 a.2 f
theorem dac_none (fs : List Fld) : fs.foldl dacF none = none := by
  induction fs with
  | nil => rfl
  | cons f fs ih => exact ih
theorem dac_some (fs : List Fld) (Q : PkM) (xs : List UInt8) : fs.foldl dacF (some (Q, xs)) = decL Q xs fs := by
  induction fs generalizing Q xs with
  | nil => rfl
  | cons f fs ih =>
    show fs.foldl dacF (decF Q xs f) = _
    unfold decL
    cases decF Q xs f with
    | none => rw [dac_none]; rfl
    | some a => rw [ih]; rfl
def AgR (xs : List UInt8) (s : RM) (c : Bool) (o : Option (PkM × List UInt8)) : Prop := if s.no = false ∧ c = true then o = some (s.P, xs.drop s.at_) ∧ s.at_ ≤ xs.length else o = none
theorem AgR.no {xs : List UInt8} {s : RM} {c : Bool} {o : Option (PkM × List UInt8)} (h : AgR xs s c o) (hn : ¬ (s.no = false ∧ c = true)) : o = none := by unfold AgR at h; rwa [if_neg hn] at h
theorem AgR.yes {xs : List UInt8} {s : RM} {c : Bool} {o : Option (PkM × List UInt8)} (h : AgR xs s c o) (h1 : s.no = false) (h2 : c = true) : o = some (s.P, xs.drop s.at_) ∧ s.at_ ≤ xs.length := by unfold AgR at h; rwa [if_pos ⟨h1, h2⟩] at h
theorem AgR.mkNo {xs : List UInt8} {s : RM} {c : Bool} {o : Option (PkM × List UInt8)} (hn : ¬ (s.no = false ∧ c = true)) (h : o = none) : AgR xs s c o := by unfold AgR; rw [if_neg hn]; exact h
theorem AgR.mkYes {xs : List UInt8} {s : RM} {c : Bool} {o : Option (PkM × List UInt8)} (h1 : s.no = false) (h2 : c = true) (h : o = some (s.P, xs.drop s.at_)) (h3 : s.at_ ≤ xs.length) : AgR xs s c o := by unfold AgR; rw [if_pos ⟨h1, h2⟩]; exact ⟨h, h3⟩
theorem getF_dropW {xs : List UInt8} {at_ k : Nat} (h : at_ ≤ xs.length) : getF (xs.drop at_) 0 k = getF xs at_ k := by
  unfold getF
  rw [List.drop_drop, List.length_drop]
  have e1 : (at_ : Int).toNat = at_ := by simp
  have e2 : at_ + (0 : Int).toNat = at_ := by simp
  rw [e1, e2]
  by_cases hc : widthB k = true ∧ 0 ≤ (0 : Int) ∧ (0 : Int) + k ≤ ((xs.length - at_ : Nat) : Int)
  · rw [if_pos hc, if_pos (show widthB k = true ∧ 0 ≤ (at_ : Int) ∧ (at_ : Int) + k ≤ xs.length from ⟨hc.1, by omega, by omega⟩)]
  · rw [if_neg hc, if_neg (fun (q : widthB k = true ∧ 0 ≤ (at_ : Int) ∧ (at_ : Int) + k ≤ xs.length) => hc ⟨q.1, by omega, by omega⟩)]
theorem getF_in {xs : List UInt8} {at_ k v : Nat} (h : getF xs at_ k = some v) : at_ + k ≤ xs.length ∧ (v : Int) ≤ allI := by
  unfold getF at h
  split at h
  · next h1 =>
    split at h
    · next h2 =>
      cases h
      exact ⟨by omega, by unfold allI; omega⟩
    · cases h
  · cases h
theorem rNum_no {xs : List UInt8} {k o : Nat} {s : RM} (h : s.no = true) : rNum xs k s o = s := if_pos h
theorem rNum_yes {xs : List UInt8} {k o : Nat} {s : RM} (h : s.no = false) : rNum xs k s o = ⟨s.at_ + k, !(getF xs s.at_ k).isSome, setI s.P o (((getF xs s.at_ k).getD 0 : Nat) : Int)⟩ := if_neg (by simp [h])
theorem AgR.num {xs : List UInt8} {s : RM} {c : Bool} {o : Option (PkM × List UInt8)} (h : AgR xs s c o) (k o' : Nat) (lo hi : Int) : AgR xs (rNum xs k s o') (c && okB lo hi ((rNum xs k s o').P.I o')) (dacF o (.num k o' lo hi)) := by
  by_cases hn : s.no = false ∧ c = true
  · obtain ⟨e, hl⟩ := h.yes hn.1 hn.2
    obtain ⟨h1, h2⟩ := hn
    subst h2
    rw [e]
    show AgR xs _ _ ((decN k lo hi (xs.drop s.at_)).map fun a => (setI s.P o' a.1, a.2))
    rw [rNum_yes h1]
    unfold decN
    rw [getF_dropW hl]
    cases hg : getF xs s.at_ k with
    | none => exact AgR.mkNo (by simp) rfl
    | some v =>
      have hin := getF_in hg
      have ev : (setI s.P o' (((some v).getD 0 : Nat) : Int)).I o' = (v : Int) := by simp [setI]
      show AgR xs ⟨s.at_ + k, _, _⟩ (true && okB lo hi ((setI s.P o' (((some v).getD 0 : Nat) : Int)).I o')) _
      rw [ev]
      by_cases hb : lo ≤ (v : Int) ∧ (v : Int) ≤ hi
      · refine AgR.mkYes (by simp) (by rw [Bool.true_and]; exact okB_iff.2 hb) ?_ (by show s.at_ + k ≤ _; omega)
        simp only [hb, and_self, if_true, Option.map_some, List.drop_drop, Option.getD_some]
      · refine AgR.mkNo (fun q => hb (okB_iff.1 (by simpa using q.2))) ?_
        simp only [hb, if_false, Option.map_none]
  · rw [h.no hn]
    refine AgR.mkNo (fun q => hn ?_) rfl
    cases hm : s.no with
    | true => rw [rNum_no hm, hm] at q; exact absurd q.1 (by simp)
    | false => refine ⟨rfl, ?_⟩; have := q.2; simp at this; exact this.1
theorem AgR.num0 {xs : List UInt8} {s : RM} {c : Bool} {o : Option (PkM × List UInt8)} (h : AgR xs s c o) (k o' : Nat) : AgR xs (rNum xs k s o') c (dacF o (.num k o' 0 allI)) := by
  have h1 := h.num k o' 0 allI
  by_cases hb : okB 0 allI ((rNum xs k s o').P.I o') = true
  · rwa [hb, Bool.and_true] at h1
  · have e := h1.no (fun q => hb (by have := q.2; simp at this; exact this.2))
    refine AgR.mkNo (fun q => hb ?_) e
    cases hm : s.no with
    | true => rw [rNum_no hm, hm] at q; exact absurd q.1 (by simp)
    | false =>
      rw [rNum_yes hm] at q ⊢
      cases hg : getF xs s.at_ k with
      | none => rw [hg] at q; exact absurd q.1 (by simp)
      | some v =>
        have hin := getF_in hg
        exact okB_iff.2 ⟨by simp [setI], by simpa [setI] using hin.2⟩
theorem AgR.chk {xs : List UInt8} {s : RM} {c ok : Bool} {o : Option (PkM × List UInt8)} (h : AgR xs s (c && ok) o) : AgR xs (chkR s ok) c o := by
  cases ok with
  | true => rw [Bool.and_true] at h; unfold chkR; simpa using h
  | false => exact AgR.mkNo (by simp [chkR]) (h.no (by simp))
theorem textG_no {xs : List UInt8} {k most at_ : Nat} {s0 : List UInt8} : textG xs k most at_ true s0 = (at_, true, s0) := if_pos rfl
theorem textG_dec {xs : List UInt8} {k most at_ : Nat} {s0 : List UInt8} (hl : at_ ≤ xs.length) : ((textG xs k most at_ false s0).2.1 = false → decT k most (xs.drop at_) = some ((textG xs k most at_ false s0).2.2, xs.drop (textG xs k most at_ false s0).1) ∧ (textG xs k most at_ false s0).1 ≤ xs.length) ∧ ((textG xs k most at_ false s0).2.1 = true → decT k most (xs.drop at_) = none) := by
  unfold textG decT
  rw [if_neg (by simp), getF_dropW hl]
  cases hg : getF xs at_ k with
  | none => exact ⟨fun q => (by cases q), fun _ => rfl⟩
  | some v =>
    have hin := getF_in hg
    simp only
    by_cases hm : v ≤ most
    · rw [if_pos hm]
      by_cases hx : xs.length < at_ + k + v
      · rw [if_pos hx, if_neg (by rw [List.length_drop]; omega)]
        exact ⟨fun q => (by cases q), fun _ => rfl⟩
      · rw [if_neg hx, if_pos ⟨hm, by rw [List.length_drop]; omega⟩]
        refine ⟨fun _ => ⟨?_, by show at_ + k + v ≤ _; omega⟩, fun q => (by cases q)⟩
        rw [List.drop_drop, List.drop_drop, Nat.add_assoc]
    · rw [if_neg hm, if_neg (fun q => hm q.1)]
      exact ⟨fun q => (by cases q), fun _ => rfl⟩
theorem AgR.text {xs : List UInt8} {s : RM} {c : Bool} {o : Option (PkM × List UInt8)} (h : AgR xs s c o) (k most o' : Nat) : AgR xs (rText xs k most s o') c (dacF o (.text k most o')) := by
  by_cases hn : s.no = false ∧ c = true
  · obtain ⟨e, hl⟩ := h.yes hn.1 hn.2
    rw [e]
    show AgR xs _ _ ((decT k most (xs.drop s.at_)).map fun a => (setS s.P o' a.1, a.2))
    unfold rText
    rw [hn.1]
    have hd := textG_dec (k := k) (most := most) (s0 := s.P.S o') hl
    cases ht : (textG xs k most s.at_ false (s.P.S o')).2.1 with
    | false =>
      obtain ⟨h1, h2⟩ := hd.1 ht
      rw [h1]
      exact AgR.mkYes rfl hn.2 rfl h2
    | true =>
      rw [hd.2 ht]
      exact AgR.mkNo (by simp) rfl
  · rw [h.no hn]
    refine AgR.mkNo (fun q => hn ⟨?_, q.2⟩) rfl
    cases hm : s.no with
    | false => rfl
    | true =>
      have q1 := q.1
      unfold rText at q1
      rw [hm, textG_no] at q1
      exact absurd q1 (by simp)
theorem rNs_no (xs : List UInt8) (n at_ : Nat) : (rNs xs n at_ true).2.1 = true := by
  induction n generalizing at_ with
  | zero => rfl
  | succ n ih => simp only [rNs, textG_no]; exact ih _
theorem rNs_dec (xs : List UInt8) (n at_ : Nat) (hl : at_ ≤ xs.length) : ((rNs xs n at_ false).2.1 = false → decNs n (xs.drop at_) = some ((rNs xs n at_ false).2.2, xs.drop (rNs xs n at_ false).1) ∧ (rNs xs n at_ false).1 ≤ xs.length) ∧ ((rNs xs n at_ false).2.1 = true → decNs n (xs.drop at_) = none) := by
  induction n generalizing at_ with
  | zero => exact ⟨fun _ => ⟨rfl, hl⟩, fun q => (by cases q)⟩
  | succ n ih =>
    have hd := textG_dec (k := 1) (most := 12) (s0 := []) hl
    simp only [rNs]
    unfold decNs
    cases ht : (textG xs 1 12 at_ false []).2.1 with
    | true =>
      rw [hd.2 ht, rNs_no]
      exact ⟨fun q => (by cases q), fun _ => rfl⟩
    | false =>
      obtain ⟨h1, h2⟩ := hd.1 ht
      rw [h1, Option.bind_some]
      have hi := ih (textG xs 1 12 at_ false []).1 h2
      refine ⟨fun q => ?_, fun q => ?_⟩
      · obtain ⟨h3, h4⟩ := hi.1 q
        rw [h3]; exact ⟨rfl, h4⟩
      · rw [hi.2 q]; rfl
theorem AgR.names {xs : List UInt8} {s : RM} {o : Option (PkM × List UInt8)} (h : AgR xs s true o) : AgR xs (rNames xs s) true (dacF o .names) := by
  cases hm : s.no with
  | false =>
    obtain ⟨e, hl⟩ := h.yes hm rfl
    rw [e]
    show AgR xs _ _ (decF s.P (xs.drop s.at_) .names)
    unfold rNames decF
    rw [if_neg (by simp [hm])]
    simp only
    have e0 : getF (xs.drop s.at_) 0 1 = getF xs s.at_ 1 := getF_dropW (k := 1) hl
    rw [e0]
    cases hg : getF xs s.at_ 1 with
    | none => exact AgR.mkNo (by simp) rfl
    | some n =>
      have hin := getF_in (k := 1) hg
      simp only
      by_cases h16 : n ≤ 16
      · rw [if_pos h16, if_pos h16, List.drop_drop]
        have hd := rNs_dec xs n (s.at_ + 1) hin.1
        cases hr : (rNs xs n (s.at_ + 1) false).2.1 with
        | false =>
          obtain ⟨h1, h2⟩ := hd.1 hr
          rw [h1]
          exact AgR.mkYes rfl rfl rfl h2
        | true =>
          rw [hd.2 hr]
          exact AgR.mkNo (by simp) rfl
      · rw [if_neg h16, if_neg h16]
        exact AgR.mkNo (by simp) rfl
  | true =>
    rw [h.no (by simp [hm])]
    refine AgR.mkNo (fun q => ?_) rfl
    unfold rNames at q
    rw [if_pos hm, hm] at q
    exact absurd q.1 (by simp)
theorem headR_ag (xs : List UInt8) (P0 : PkM) : AgR xs (rHead xs ⟨0, false, P0⟩) (okB 1 5 ((rHead xs ⟨0, false, P0⟩).P.I 0)) (fHead.foldl dacF (some (P0, xs))) := by
  have h0 : AgR xs ⟨0, false, P0⟩ true (some (P0, xs)) := AgR.mkYes rfl rfl (by simp) (Nat.zero_le _)
  have h1 := h0.num 1 0 1 5
  have h2 := h1.num 1 1 1 8
  have h3 := h2.num0 4 2
  have h4 := h3.num0 8 3
  rw [Bool.true_and] at h4
  have s2I : ∀ (k : Nat) (s : RM) (o o' : Nat), o ≠ o' → (rNum xs k s o).P.I o' = s.P.I o' := fun k s o o' ho => by
    unfold rNum
    split
    · rfl
    · simp only [setI]; rw [if_neg (fun e => ho e.symm)]
  have e0 : (rNum xs 1 ⟨0, false, P0⟩ 0).P.I 0 = (rHead xs ⟨0, false, P0⟩).P.I 0 := by
    unfold rHead
    show _ = (rNum xs 8 (rNum xs 4 (rNum xs 1 (rNum xs 1 ⟨0, false, P0⟩ 0) 1) 2) 3).P.I 0
    rw [s2I 8 _ 3 0 (by decide), s2I 4 _ 2 0 (by decide), s2I 1 _ 1 0 (by decide)]
  have e1 : (rNum xs 1 (rNum xs 1 ⟨0, false, P0⟩ 0) 1).P.I 1 = (rNum xs 8 (rNum xs 4 ([0, 1].foldl (rNum xs 1) ⟨0, false, P0⟩) 2) 3).P.I 1 := by
    show _ = (rNum xs 8 (rNum xs 4 (rNum xs 1 (rNum xs 1 ⟨0, false, P0⟩ 0) 1) 2) 3).P.I 1
    rw [s2I 8 _ 3 1 (by decide), s2I 4 _ 2 1 (by decide)]
  rw [e0, e1] at h4
  exact AgR.chk (ok := okB 1 8 _) h4
theorem bodyR_ag {xs : List UInt8} {s : RM} {o : Option (PkM × List UInt8)} {k : Int} (h : AgR xs s true o) (hk : okB 1 5 k = true) : AgR xs (rBody xs k s) true ((fRest k).foldl dacF o) := by
  have hk' := okB_iff.1 hk
  rcases (by omega : k = 1 ∨ k = 2 ∨ k = 3 ∨ k = 4 ∨ k = 5) with e | e | e | e | e
  all_goals subst e
  · have h1 : AgR xs (rVerb xs s) true (dacF o (.num 1 4 1 4)) := AgR.chk (ok := okB 1 4 _) (h.num 1 4 1 4)
    exact ((((h1.num0 4 5).num0 2 6).text 2 128 7).num0 8 8).num0 8 9
  · have h1 : AgR xs (rVerb xs s) true (dacF o (.num 1 4 1 4)) := AgR.chk (ok := okB 1 4 _) (h.num 1 4 1 4)
    exact ((h1.num0 1 19).text 2 128 7).num0 8 8
  · exact (((((h.num0 1 4).num0 1 18).text 1 100 11).text 1 100 12).num0 1 13).num0 4 16
  · exact (((((((((((((((h.num0 1 4).num0 1 19).num0 1 18).num0 8 27).num0 4 5).num0 1 24).num0 1 25).num0 2 26).num0 1 28).num0 1 29).num0 2 30).num0 1 31).num0 1 32).num0 1 33).num0 1 34).names
  · exact h.num0 1 18
/-- what bytes are read as -/
def P0z : PkM := ⟨fun _ => 0, fun _ => [], []⟩
def decA (xs : List UInt8) : Option (PkM × List UInt8) := (decL P0z xs fHead).bind fun a => decL a.1 a.2 (fRest (a.1.I 0))
def decP (xs : List UInt8) : Option PkM := match decA xs with
  | some (Q, []) => some Q
  | _ => none
theorem head_kind {xs r : List UInt8} {Q : PkM} (h : decL P0z xs fHead = some (Q, r)) : okB 1 5 (Q.I 0) = true := by
  have := dac_some fHead P0z xs
  rw [h] at this
  have ag := headR_ag xs P0z
  rw [this] at ag
  cases hc : okB 1 5 ((rHead xs ⟨0, false, P0z⟩).P.I 0) with
  | false => rw [hc] at ag; have := ag.no (by simp); cases this
  | true =>
    cases hn : (rHead xs ⟨0, false, P0z⟩).no with
    | true => have := ag.no (by rw [hn]; simp); cases this
    | false =>
      have := (ag.yes hn hc).1
      simp only [Option.some.injEq, Prod.mk.injEq] at this
      rw [this.1]; exact hc
theorem rPacket_dec (xs : List UInt8) : ((rPacket xs ⟨0, false, P0z⟩).no = false → decA xs = some ((rPacket xs ⟨0, false, P0z⟩).P, xs.drop (rPacket xs ⟨0, false, P0z⟩).at_) ∧ (rPacket xs ⟨0, false, P0z⟩).at_ ≤ xs.length) ∧ ((rPacket xs ⟨0, false, P0z⟩).no = true → decA xs = none) := by
  have h1 := headR_ag xs P0z
  rw [dac_some] at h1
  unfold rPacket decA
  cases hk : okB 1 5 ((rHead xs ⟨0, false, P0z⟩).P.I 0) with
  | true =>
    rw [hk] at h1
    have h2 := bodyR_ag h1 hk
    cases hn : (rHead xs ⟨0, false, P0z⟩).no with
    | false =>
      have e := (h1.yes hn rfl).1
      rw [e, dac_some] at h2
      rw [e, Option.bind_some]
      exact ⟨fun q => h2.yes q rfl, fun q => h2.no (by rw [q]; simp)⟩
    | true =>
      have e := h1.no (by rw [hn]; simp)
      rw [e, dac_none] at h2
      rw [e, Option.bind_none]
      refine ⟨fun q => ?_, fun _ => rfl⟩
      have := (h2.yes q rfl).1; cases this
  | false =>
    rw [hk] at h1
    rw [h1.no (by simp), Option.bind_none]
    refine ⟨fun q => ?_, fun _ => rfl⟩
    have hk' : ¬ (1 ≤ (rHead xs ⟨0, false, P0z⟩).P.I 0 ∧ (rHead xs ⟨0, false, P0z⟩).P.I 0 ≤ 5) := fun q => by rw [okB_iff.2 q] at hk; cases hk
    unfold rBody at q
    rw [if_neg (by omega), if_neg (by omega), if_neg (by omega), if_neg (by omega), if_neg (by omega)] at q
    cases q
/-- exactly what is accepted -/
def accR (xs : List UInt8) : Bool := !(rPacket xs ⟨0, false, P0z⟩).no && decide ((rPacket xs ⟨0, false, P0z⟩).at_ = xs.length)
theorem decP_of (xs : List UInt8) : decP xs = if accR xs = true then some (rPacket xs ⟨0, false, P0z⟩).P else none := by
  have h := rPacket_dec xs
  unfold decP accR
  cases hn : (rPacket xs ⟨0, false, P0z⟩).no with
  | true => rw [h.2 hn, if_neg (by simp)]
  | false =>
    obtain ⟨e, hl⟩ := h.1 hn
    rw [e]
    by_cases hx : (rPacket xs ⟨0, false, P0z⟩).at_ = xs.length
    · rw [hx, List.drop_length, if_pos (by simp)]
    · rw [if_neg (by simp [hx])]
      obtain ⟨y, ys, hy⟩ := List.exists_cons_of_length_pos (l := xs.drop (rPacket xs ⟨0, false, P0z⟩).at_) (by rw [List.length_drop]; omega)
      rw [hy]
end Go.Proofs.Ytanediaaidfcaaa
