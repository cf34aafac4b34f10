/- Pure: what is put is read, what is read is put; packets compared. -/
import Derived.Test.YtanediaaidfcaaaWirPb
import Derived.Test.YtanediaaidfcaaaWirMg
import Derived.Test.YtanediaaidfcaaaCrcB
namespace Go.Proofs.Ytanediaaidfcaaa
open Go.RowKit
set_option linter.unusedSimpArgs false
set_option linter.unusedVariables false

theorem encL_append (P : PkM) (fs gs : List Fld) : encL P (fs ++ gs) = (encL P fs).bind fun a => (encL P gs).map fun b => a ++ b := by
  induction fs with
  | nil => simp [encL]
  | cons f fs ih =>
    show (encF P f).bind (fun a => (encL P (fs ++ gs)).map fun b => a ++ b) = ((encF P f).bind fun a => (encL P fs).map fun b => a ++ b).bind _
    rw [ih]
    cases encF P f with
    | none => rfl
    | some a =>
      cases encL P fs with
      | none => rfl
      | some b => cases encL P gs <;> simp
theorem decL_append (Q : PkM) (xs : List UInt8) (fs gs : List Fld) : decL Q xs (fs ++ gs) = (decL Q xs fs).bind fun a => decL a.1 a.2 gs := by
  induction fs generalizing Q xs with
  | nil => rfl
  | cons f fs ih =>
    show (decF Q xs f).bind (fun a => decL a.1 a.2 (fs ++ gs)) = ((decF Q xs f).bind fun a => decL a.1 a.2 fs).bind _
    cases decF Q xs f with
    | none => rfl
    | some a => exact ih _ _
theorem setL_append (P Q : PkM) (fs gs : List Fld) : setL P Q (fs ++ gs) = setL P (setL P Q fs) gs := by
  induction fs generalizing Q with
  | nil => rfl
  | cons f fs ih => exact ih _
def backP (P : PkM) : PkM := setL P P0z (fHead ++ fRest (P.I 0))
theorem dec_of_enc {P : PkM} (hP : smallP P) {e : List UInt8} (h : encP P = some e) : decP e = some (backP P) := by
  unfold encP at h
  rw [encL_append] at h
  cases h1 : encL P fHead with
  | none => rw [h1] at h; cases h
  | some e1 =>
    cases h2 : encL P (fRest (P.I 0)) with
    | none => rw [h1, h2] at h; cases h
    | some e2 =>
      rw [h1, h2] at h
      simp only [Option.bind_some, Option.map_some, Option.some.injEq] at h
      subst h
      have d1 := dec_encL (Q := P0z) hP fHead_ok h1 e2
      have hk : (setL P P0z fHead).I 0 = P.I 0 := rfl
      have d2 := dec_encL (Q := setL P P0z fHead) hP (fRest_ok (P.I 0)) h2 []
      rw [List.append_nil] at d2
      unfold decP decA
      rw [d1, Option.bind_some]
      simp only [hk]
      rw [d2]
      simp only [backP, setL_append]
theorem decF_keep {Q Q1 : PkM} {f : Fld} {xs r : List UInt8} (h : decF Q xs f = some (Q1, r)) {o : Nat} (hne : cellF f ≠ o) : Q1.I o = Q.I o := by
  cases f with
  | num w o' lo hi =>
    simp only [decF, Option.map_eq_some_iff, Prod.mk.injEq] at h
    obtain ⟨a, _, rfl, _⟩ := h
    simp only [setI]; rw [if_neg (fun e => hne e.symm)]
  | text w m o' =>
    simp only [decF, Option.map_eq_some_iff, Prod.mk.injEq] at h
    obtain ⟨a, _, rfl, _⟩ := h
    rfl
  | names =>
    unfold decF at h
    simp only at h
    split at h
    · split at h
      · simp only [Option.map_eq_some_iff, Prod.mk.injEq] at h
        obtain ⟨a, _, rfl, _⟩ := h
        rfl
      · cases h
    · cases h
theorem decL_keep {Q Q' : PkM} {fs : List Fld} {xs r : List UInt8} (h : decL Q xs fs = some (Q', r)) {o : Nat} (hne : ∀ f ∈ fs, cellF f ≠ o) : Q'.I o = Q.I o := by
  induction fs generalizing Q xs with
  | nil => cases h; rfl
  | cons f fs ih =>
    unfold decL at h
    cases h1 : decF Q xs f with
    | none => rw [h1] at h; cases h
    | some a =>
      rw [h1, Option.bind_some] at h
      rw [ih h (fun k hk => hne k (List.mem_cons_of_mem _ hk))]
      exact decF_keep (r := a.2) h1 (hne f (List.mem_cons_self ..))
theorem fRest_no0 (k : Int) : ∀ f ∈ fRest k, cellF f ≠ 0 := by
  intro f hf
  have h := fAll_nodup k
  rw [List.map_append, List.nodup_append] at h
  intro e
  exact h.2.2 0 (by decide) 0 (List.mem_map.2 ⟨f, hf, e⟩) rfl
theorem enc_of_dec {xs : List UInt8} {Q : PkM} (h : decP xs = some Q) : encP Q = some xs := by
  unfold decP at h
  cases h1 : decA xs with
  | none => rw [h1] at h; cases h
  | some a =>
    obtain ⟨Q', r⟩ := a
    rw [h1] at h
    cases r with
    | cons y ys => cases h
    | nil =>
      cases h
      unfold decA at h1
      cases h2 : decL P0z xs fHead with
      | none => rw [h2] at h1; cases h1
      | some b =>
        obtain ⟨Q1, r1⟩ := b
        rw [h2, Option.bind_some] at h1
        have hk : Q.I 0 = Q1.I 0 := decL_keep h1 (fRest_no0 _)
        have h3 : decL P0z xs (fHead ++ fRest (Q1.I 0)) = some (Q, []) := by rw [decL_append, h2, Option.bind_some]; exact h1
        obtain ⟨e, he, hx⟩ := enc_decL (fAll_nodup _) h3
        unfold encP
        rw [hk, he, hx, List.append_nil]
/-- what packets have that are told to be the same -/
def SameP (P Q : PkM) : Prop := (∀ o, isNum o = true → P.I o = Q.I o) ∧ (∀ o, isTxt o = true → P.S o = Q.S o) ∧ P.N = Q.N
theorem isNum_cases {o : Nat} (h : isNum o = true) : o ∈ [0, 1, 2, 3, 4, 5, 6, 8, 9, 10, 13, 14, 15, 16, 18, 19, 20, 21, 24, 25, 26, 27, 28, 29, 30, 31, 32, 33, 34, 35, 36, 37, 38, 39, 40, 41, 42] := by
  have ho : o < 43 := pk_lt h
  have : ∀ k : Fin 43, isNum k.1 = true → k.1 ∈ [0, 1, 2, 3, 4, 5, 6, 8, 9, 10, 13, 14, 15, 16, 18, 19, 20, 21, 24, 25, 26, 27, 28, 29, 30, 31, 32, 33, 34, 35, 36, 37, 38, 39, 40, 41, 42] := by decide
  exact this ⟨o, ho⟩ h
theorem isTxt_cases {o : Nat} (h : isTxt o = true) : o ∈ [7, 11, 12, 17, 22] := by
  simp [isTxt] at h; simp; omega
theorem eqPk_iff (P Q : PkM) : eqPk P Q = true ↔ SameP P Q := by
  constructor
  · intro h
    unfold eqPk eqRep eqCall eqNode eqInfo eqN nodeL at h
    simp only [Bool.and_eq_true, beq_iff_eq, eqS_iff, decide_eq_true_eq, bsW_inj, List.cons.injEq, and_true] at h
    refine ⟨fun o ho => ?_, fun o ho => ?_, h.2.2.2.2.2.2.2.2.2.2.2.2.2.2.2.2.2.2.2⟩
    · have := isNum_cases ho
      simp only [List.mem_cons, List.not_mem_nil, or_false] at this
      rcases this with rfl | rfl | rfl | rfl | rfl | rfl | rfl | rfl | rfl | rfl | rfl | rfl | rfl | rfl | rfl | rfl | rfl | rfl | rfl | rfl | rfl | rfl | rfl | rfl | rfl | rfl | rfl | rfl | rfl | rfl | rfl | rfl | rfl | rfl | rfl | rfl | rfl <;> simp only [h]
    · have := isTxt_cases ho
      simp only [List.mem_cons, List.not_mem_nil, or_false] at this
      rcases this with rfl | rfl | rfl | rfl | rfl <;> simp only [h]
  · rintro ⟨h1, h2, h3⟩
    unfold eqPk eqRep eqCall eqNode eqInfo eqN nodeL
    simp only [Bool.and_eq_true, beq_iff_eq, eqS_iff, decide_eq_true_eq, bsW_inj, List.cons.injEq, and_true]
    simp only [h1 0 rfl, h1 1 rfl, h1 2 rfl, h1 3 rfl, h1 4 rfl, h1 5 rfl, h1 6 rfl, h1 8 rfl, h1 9 rfl, h1 10 rfl, h1 13 rfl, h1 14 rfl, h1 15 rfl, h1 16 rfl, h1 18 rfl, h1 19 rfl, h1 20 rfl, h1 21 rfl, h1 24 rfl, h1 25 rfl, h1 26 rfl, h1 27 rfl, h1 28 rfl, h1 29 rfl, h1 30 rfl, h1 31 rfl, h1 32 rfl, h1 33 rfl, h1 34 rfl, h1 35 rfl, h1 36 rfl, h1 37 rfl, h1 38 rfl, h1 39 rfl, h1 40 rfl, h1 41 rfl, h1 42 rfl, h2 7 rfl, h2 11 rfl, h2 12 rfl, h2 17 rfl, h2 22 rfl, h3, and_self]
theorem SameP.symm {P Q : PkM} (h : SameP P Q) : SameP Q P := ⟨fun o k => (h.1 o k).symm, fun o k => (h.2.1 o k).symm, h.2.2.symm⟩
theorem SameP.trans {P Q R : PkM} (h : SameP P Q) (k : SameP Q R) : SameP P R := ⟨fun o j => (h.1 o j).trans (k.1 o j), fun o j => (h.2.1 o j).trans (k.2.1 o j), h.2.2.trans k.2.2⟩
theorem SameP.refl (P : PkM) : SameP P P := ⟨fun _ _ => rfl, fun _ _ => rfl, rfl⟩
theorem okCells : ∀ k : Int, ∀ f ∈ fHead ++ fRest k, (match f with | .num _ o _ _ => isNum o | .text _ _ o => isTxt o | .names => true) = true := by
  intro k
  unfold fRest
  repeat' split
  all_goals decide
theorem SameP.encL {P Q : PkM} (h : SameP P Q) (fs : List Fld) (hf : ∀ f ∈ fs, (match f with | .num _ o _ _ => isNum o | .text _ _ o => isTxt o | .names => true) = true) : encL P fs = encL Q fs := by
  induction fs with
  | nil => rfl
  | cons f fs ih =>
    unfold Go.Proofs.Ytanediaaidfcaaa.encL
    rw [ih (fun g hg => hf g (List.mem_cons_of_mem _ hg))]
    have hf0 := hf f (List.mem_cons_self ..)
    have : encF P f = encF Q f := by
      cases f with
      | num w o lo hi => show encN w lo hi (P.I o) = encN w lo hi (Q.I o); rw [h.1 o hf0]
      | text w m o => show encT w m (P.S o) = encT w m (Q.S o); rw [h.2.1 o hf0]
      | names => unfold encF; rw [h.2.2]
    rw [this]
theorem SameP.enc {P Q : PkM} (h : SameP P Q) : encP P = encP Q := by
  unfold encP
  rw [h.1 0 rfl]
  exact h.encL _ (okCells _)
/-- what Put tells -/
def putW (P : PkM) : Option (List UInt8) := match encP P with
  | some e => if eqPk P (backP P) = true then some (putF e (crcF e : Int) 4) else none
  | none => none
def putB (P : PkM) : List UInt8 := (putW P).getD []
def putE (P : PkM) : Int := if (putW P).isSome then 0 else 1
end Go.Proofs.Ytanediaaidfcaaa
