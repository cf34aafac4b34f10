/- Pure: what the coder puts is the document's fields. -/
import Derived.Test.YtanediaaidfcaaaWirMc
namespace Go.Proofs.Ytanediaaidfcaaa
open Go.RowKit
set_option linter.unusedSimpArgs false
set_option linter.unusedVariables false

def accF (P : PkM) (o : Option (List UInt8)) (f : Fld) : Option (List UInt8) := o.bind fun b => (encF P f).map fun a => b ++ a
theorem acc_none (P : PkM) (fs : List Fld) : fs.foldl (accF P) none = none := by
  induction fs with
  | nil => rfl
  | cons f fs ih => exact ih
theorem acc_some (P : PkM) (fs : List Fld) (b : List UInt8) : fs.foldl (accF P) (some b) = (encL P fs).map fun a => b ++ a := by
  induction fs generalizing b with
  | nil => simp [encL]
  | cons f fs ih =>
    show fs.foldl (accF P) ((encF P f).map fun a => b ++ a) = _
    unfold encL
    cases encF P f with
    | none => rw [Option.map_none, acc_none]; rfl
    | some a => rw [Option.map_some, ih, Option.bind_some]; cases encL P fs <;> simp
def AgP (m : WM) (c : Bool) (o : Option (List UInt8)) : Prop := if m.no = false ∧ c = true then o = some m.b else o = none
theorem AgP.no {m : WM} {c : Bool} {o : Option (List UInt8)} (h : AgP m c o) (hn : ¬ (m.no = false ∧ c = true)) : o = none := by unfold AgP at h; rwa [if_neg hn] at h
theorem AgP.yes {m : WM} {c : Bool} {o : Option (List UInt8)} (h : AgP m c o) (h1 : m.no = false) (h2 : c = true) : o = some m.b := by unfold AgP at h; rwa [if_pos ⟨h1, h2⟩] at h
theorem AgP.mkNo {m : WM} {c : Bool} {o : Option (List UInt8)} (hn : ¬ (m.no = false ∧ c = true)) (h : o = none) : AgP m c o := by unfold AgP; rw [if_neg hn]; exact h
theorem AgP.mkYes {m : WM} {c : Bool} {o : Option (List UInt8)} (h1 : m.no = false) (h2 : c = true) (h : o = some m.b) : AgP m c o := by unfold AgP; rw [if_pos ⟨h1, h2⟩]; exact h
theorem numP_no {k : Nat} {m : WM} {v : Int} (h : m.no = true) : numP k m v = m := if_pos h
theorem numP_yes {k : Nat} {m : WM} {v : Int} (h : m.no = false) : numP k m v = ⟨putF m.b v k, !fitsB v k⟩ := if_neg (by simp [h])
def okB (lo hi v : Int) : Bool := decide (lo ≤ v) && decide (v ≤ hi)
theorem okB_iff {lo hi v : Int} : okB lo hi v = true ↔ lo ≤ v ∧ v ≤ hi := by simp [okB]
theorem AgP.num {m : WM} {c : Bool} {o : Option (List UInt8)} {P : PkM} (h : AgP m c o) (k o' : Nat) (lo hi : Int) : AgP (numP k m (P.I o')) (c && okB lo hi (P.I o')) (accF P o (.num k o' lo hi)) := by
  by_cases hn : m.no = false ∧ c = true
  · have e := h.yes hn.1 hn.2
    obtain ⟨h1, h2⟩ := hn
    subst h2
    rw [e]
    show AgP _ _ ((encN k lo hi (P.I o')).map fun a => m.b ++ a)
    rw [numP_yes h1]
    generalize P.I o' = v at *
    unfold encN
    cases hf : fitsB v k with
    | false =>
      refine AgP.mkNo (by simp) ?_
      rw [if_neg (by simp)]; rfl
    | true =>
      by_cases hb : lo ≤ v ∧ v ≤ hi
      · rw [if_pos ⟨rfl, hb⟩]
        refine AgP.mkYes rfl (by rw [Bool.true_and]; exact okB_iff.2 hb) ?_
        simp [putF, hf]
      · rw [if_neg (fun q => hb q.2)]
        exact AgP.mkNo (fun q => hb (okB_iff.1 (by simpa using q.2))) rfl
  · rw [h.no hn]
    refine AgP.mkNo (fun q => hn ?_) rfl
    cases hm : m.no with
    | true => rw [numP_no hm, hm] at q; exact absurd q.1 (by simp)
    | false => refine ⟨rfl, ?_⟩; have := q.2; simp at this; exact this.1
theorem AgP.num0 {m : WM} {c : Bool} {o : Option (List UInt8)} {P : PkM} (h : AgP m c o) (hP : smallP P) (k o' : Nat) : AgP (numP k m (P.I o')) c (accF P o (.num k o' 0 allI)) := by
  have h1 := h.num (P := P) k o' 0 allI
  by_cases hb : okB 0 allI (P.I o') = true
  · rwa [hb, Bool.and_true] at h1
  · have e := h1.no (fun q => hb (by have := q.2; simp at this; exact this.2))
    refine AgP.mkNo (fun q => hb ?_) e
    cases hm : m.no with
    | true => rw [numP_no hm, hm] at q; exact absurd q.1 (by simp)
    | false =>
      rw [numP_yes hm] at q
      have hf : fitsB (P.I o') k = true := by simpa using q.1
      have := fits_lt hf (hP o')
      exact okB_iff.2 ⟨this.2.1, hP o'⟩
theorem AgP.chk {m : WM} {c ok : Bool} {o : Option (List UInt8)} (h : AgP m (c && ok) o) : AgP (chkP m ok) c o := by
  cases ok with
  | true => rw [Bool.and_true] at h; unfold chkP; simpa using h
  | false => exact AgP.mkNo (by simp [chkP]) (h.no (by simp))
theorem AgP.textE {m : WM} {c : Bool} {o : Option (List UInt8)} (h : AgP m c o) (k most : Nat) (s : List UInt8) (hk : widthB k = true) (hm : most < 256 ^ k) : AgP (textP k most m s) c (o.bind fun b => (encT k most s).map fun a => b ++ a) := by
  by_cases hn : m.no = false ∧ c = true
  · rw [h.yes hn.1 hn.2, Option.bind_some]
    unfold textP encT
    rw [numP_yes hn.1]
    by_cases hl : s.length ≤ most
    · have hf : fitsB (s.length : Int) k = true := fits_of hk (Nat.lt_of_le_of_lt hl hm)
      rw [if_pos hl, if_neg (by simp [hf]; omega)]
      refine AgP.mkYes rfl hn.2 ?_
      simp [putF, hf]
    · rw [if_neg hl, if_pos (Or.inr (by omega))]
      exact AgP.mkNo (by simp) rfl
  · rw [h.no hn]
    refine AgP.mkNo (fun q => hn ⟨?_, q.2⟩) rfl
    cases hm' : m.no with
    | false => rfl
    | true =>
      unfold textP at q
      rw [numP_no hm', if_pos (Or.inl hm')] at q
      exact absurd q.1 (by simp)
theorem AgP.text {m : WM} {c : Bool} {o : Option (List UInt8)} {P : PkM} (h : AgP m c o) (k most o' : Nat) (hk : widthB k = true) (hm : most < 256 ^ k) : AgP (textP k most m (P.S o')) c (accF P o (.text k most o')) := h.textE k most (P.S o') hk hm
theorem accN_none (N : List (List UInt8)) : N.foldl (fun (o : Option (List UInt8)) s => o.bind fun b => (encT 1 12 s).map fun a => b ++ a) none = none := by
  induction N with
  | nil => rfl
  | cons s N ih => exact ih
theorem accN_some (N : List (List UInt8)) (b : List UInt8) : N.foldl (fun (o : Option (List UInt8)) s => o.bind fun b => (encT 1 12 s).map fun a => b ++ a) (some b) = (encNs N).map fun a => b ++ a := by
  induction N generalizing b with
  | nil => simp [encNs]
  | cons s N ih =>
    show N.foldl _ ((encT 1 12 s).map fun a => b ++ a) = _
    unfold encNs
    cases encT 1 12 s with
    | none => rw [Option.map_none, accN_none]; rfl
    | some a => rw [Option.map_some, ih, Option.bind_some]; cases encNs N <;> simp
theorem AgP.foldT {m : WM} {c : Bool} {o : Option (List UInt8)} (h : AgP m c o) (N : List (List UInt8)) : AgP (N.foldl (textP 1 12) m) c (N.foldl (fun (o : Option (List UInt8)) s => o.bind fun b => (encT 1 12 s).map fun a => b ++ a) o) := by
  induction N generalizing m o with
  | nil => exact h
  | cons s N ih => exact ih (h.textE 1 12 s rfl (by decide))
theorem AgP.names {m : WM} {o : Option (List UInt8)} {P : PkM} (h : AgP m true o) : AgP (namesP m P.N) true (accF P o .names) := by
  unfold namesP
  by_cases hm : m.no = false
  · have e := h.yes hm rfl
    rw [e]
    show AgP _ _ ((encF P .names).map fun a => m.b ++ a)
    unfold encF
    by_cases hl : P.N.length ≤ 16
    · have hf : fitsB (P.N.length : Int) 1 = true := fits_of (w := 1) rfl (by omega)
      have e1 : chkP (numP 1 m P.N.length) (decide (P.N.length ≤ 16)) = ⟨m.b ++ le 1 P.N.length, false⟩ := by
        rw [numP_yes hm, decide_eq_true hl]
        unfold chkP
        simp [hf, putF]
      rw [e1, if_neg (by simp), if_pos hl]
      have h2 : AgP ⟨m.b ++ le 1 P.N.length, false⟩ true (some (m.b ++ le 1 P.N.length)) := AgP.mkYes rfl rfl rfl
      have h3 := h2.foldT P.N
      rw [accN_some] at h3
      cases he : encNs P.N with
      | none => rw [he] at h3; exact h3
      | some t => rw [he] at h3; simpa using h3
    · rw [if_neg hl]
      have e1 : (chkP (numP 1 m P.N.length) (decide (P.N.length ≤ 16))).no = true := by rw [decide_eq_false hl]; simp [chkP]
      rw [if_pos e1]
      exact AgP.mkNo (by rw [e1]; simp) rfl
  · have hm' : m.no = true := by simpa using hm
    rw [h.no (fun q => hm q.1)]
    refine AgP.mkNo (fun q => ?_) rfl
    rw [numP_no hm'] at q
    have e1 : (chkP m (decide (P.N.length ≤ 16))).no = true := by simp [chkP, hm']
    rw [if_pos e1, e1] at q
    exact absurd q.1 (by simp)

theorem head_ag (P : PkM) (hP : smallP P) : AgP (headP ⟨[], false⟩ P) (okB 1 5 (P.I 0)) (fHead.foldl (accF P) (some [])) := by
  have h0 : AgP ⟨[], false⟩ true (some []) := AgP.mkYes rfl rfl rfl
  have h1 := h0.num (P := P) 1 0 1 5
  have h2 := h1.num (P := P) 1 1 1 8
  have h3 := h2.num0 hP 4 2
  have h4 := h3.num0 hP 8 3
  rw [Bool.true_and] at h4
  exact AgP.chk (ok := okB 1 8 (P.I 1)) h4
theorem body_ag {m : WM} {o : Option (List UInt8)} (P : PkM) (hP : smallP P) (h : AgP m true o) (hk : okB 1 5 (P.I 0) = true) : AgP (bodyP m P) true ((fRest (P.I 0)).foldl (accF P) o) := by
  have hk' := okB_iff.1 hk
  rcases (by omega : P.I 0 = 1 ∨ P.I 0 = 2 ∨ P.I 0 = 3 ∨ P.I 0 = 4 ∨ P.I 0 = 5) with e | e | e | e | e
  · have e1 : bodyP m P = askP m P := if_pos e
    rw [e1, e]
    have h1 : AgP (chkP (numP 1 m (P.I 4)) (okOp (P.I 4))) true (accF P o (.num 1 4 1 4)) := AgP.chk (ok := okB 1 4 (P.I 4)) (h.num 1 4 1 4)
    exact ((((h1.num0 hP 4 5).num0 hP 2 6).text 2 128 7 rfl (by decide)).num0 hP 8 8).num0 hP 8 9
  · have e1 : bodyP m P = vtoldP m P := by unfold bodyP; rw [e]; rfl
    rw [e1, e]
    have h1 : AgP (chkP (numP 1 m (P.I 4)) (okOp (P.I 4))) true (accF P o (.num 1 4 1 4)) := AgP.chk (ok := okB 1 4 (P.I 4)) (h.num 1 4 1 4)
    exact ((h1.num0 hP 1 19).text 2 128 7 rfl (by decide)).num0 hP 8 8
  · have e1 : bodyP m P = raskP m P := by unfold bodyP; rw [e]; rfl
    rw [e1, e]
    exact (((((h.num0 hP 1 4).num0 hP 1 18).text 1 100 11 rfl (by decide)).text 1 100 12 rfl (by decide)).num0 hP 1 13).num0 hP 4 16
  · have e1 : bodyP m P = rtoldP m P := by unfold bodyP; rw [e]; rfl
    rw [e1, e]
    exact (((((((((((((((h.num0 hP 1 4).num0 hP 1 19).num0 hP 1 18).num0 hP 8 27).num0 hP 4 5).num0 hP 1 24).num0 hP 1 25).num0 hP 2 26).num0 hP 1 28).num0 hP 1 29).num0 hP 2 30).num0 hP 1 31).num0 hP 1 32).num0 hP 1 33).num0 hP 1 34).names
  · have e1 : bodyP m P = numP 1 m (P.I 18) := by unfold bodyP; rw [e]; rfl
    rw [e1, e]
    exact h.num0 hP 1 18
/-- what a packet is put as -/
def encP (P : PkM) : Option (List UInt8) := encL P (fHead ++ fRest (P.I 0))
theorem encP_acc (P : PkM) : encP P = (fRest (P.I 0)).foldl (accF P) (fHead.foldl (accF P) (some [])) := by
  have := acc_some P (fHead ++ fRest (P.I 0)) []
  rw [List.foldl_append] at this
  rw [this]
  unfold encP
  cases encL P (fHead ++ fRest (P.I 0)) <;> simp
theorem packetP_enc (P : PkM) (hP : smallP P) : ((packetP ⟨[], false⟩ P).no = false → encP P = some (packetP ⟨[], false⟩ P).b) ∧ ((packetP ⟨[], false⟩ P).no = true → encP P = none) := by
  have h1 := head_ag P hP
  rw [encP_acc]
  unfold packetP
  cases hk : okB 1 5 (P.I 0) with
  | true =>
    rw [hk] at h1
    have h2 := body_ag P hP h1 hk
    exact ⟨fun q => h2.yes q rfl, fun q => h2.no (by rw [q]; simp)⟩
  | false =>
    rw [hk] at h1
    rw [h1.no (by simp), acc_none]
    refine ⟨fun q => ?_, fun _ => rfl⟩
    have hk' : ¬ (1 ≤ P.I 0 ∧ P.I 0 ≤ 5) := fun q => by rw [okB_iff.2 q] at hk; cases hk
    have e1 : bodyP (headP ⟨[], false⟩ P) P = ⟨(headP ⟨[], false⟩ P).b, true⟩ := by
      unfold bodyP
      rw [if_neg (by omega), if_neg (by omega), if_neg (by omega), if_neg (by omega), if_neg (by omega)]
    rw [e1] at q; cases q
end Go.Proofs.Ytanediaaidfcaaa
