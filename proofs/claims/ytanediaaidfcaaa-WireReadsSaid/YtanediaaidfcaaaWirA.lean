/- Packets, pure: the fields of each kind in their order, put and read. -/
import Derived.Test.YtanediaaidfcaaaNumC
namespace Go.Proofs.Ytanediaaidfcaaa
open Go.RowKit
set_option linter.unusedSimpArgs false
set_option linter.unusedVariables false

/-- a packet: its numbers and its texts by their cells (43), its names -/
structure PkM where
  I : Nat → Int
  S : Nat → List UInt8
  N : List (List UInt8)
/-- a field: a number of a width at a cell, between bounds; a text; the names -/
inductive Fld where
  | num (w o : Nat) (lo hi : Int)
  | text (w most o : Nat)
  | names
def allI : Int := 9223372036854775807
def fHead : List Fld := [.num 1 0 1 5, .num 1 1 1 8, .num 4 2 0 allI, .num 8 3 0 allI]
def fRest (k : Int) : List Fld :=
  if k = 1 then [.num 1 4 1 4, .num 4 5 0 allI, .num 2 6 0 allI, .text 2 128 7, .num 8 8 0 allI, .num 8 9 0 allI]
  else if k = 2 then [.num 1 4 1 4, .num 1 19 0 allI, .text 2 128 7, .num 8 8 0 allI]
  else if k = 3 then [.num 1 4 0 allI, .num 1 18 0 allI, .text 1 100 11, .text 1 100 12, .num 1 13 0 allI, .num 4 16 0 allI]
  else if k = 4 then [.num 1 4 0 allI, .num 1 19 0 allI, .num 1 18 0 allI, .num 8 27 0 allI, .num 4 5 0 allI, .num 1 24 0 allI, .num 1 25 0 allI, .num 2 26 0 allI, .num 1 28 0 allI, .num 1 29 0 allI, .num 2 30 0 allI, .num 1 31 0 allI, .num 1 32 0 allI, .num 1 33 0 allI, .num 1 34 0 allI, .names]
  else [.num 1 18 0 allI]
def kindOk (k : Int) : Prop := 1 ≤ k ∧ k ≤ 5

def encN (w : Nat) (lo hi v : Int) : Option (List UInt8) := if fitsB v w = true ∧ lo ≤ v ∧ v ≤ hi then some (le w v.toNat) else none
def encT (w most : Nat) (s : List UInt8) : Option (List UInt8) := if s.length ≤ most then some (le w s.length ++ s) else none
def encNs : List (List UInt8) → Option (List UInt8)
  | [] => some []
  | s :: l => (encT 1 12 s).bind fun a => (encNs l).map fun b => a ++ b
def encF (P : PkM) : Fld → Option (List UInt8)
  | .num w o lo hi => encN w lo hi (P.I o)
  | .text w most o => encT w most (P.S o)
  | .names => if P.N.length ≤ 16 then (encNs P.N).map fun b => le 1 P.N.length ++ b else none
def encL (P : PkM) : List Fld → Option (List UInt8)
  | [] => some []
  | f :: fs => (encF P f).bind fun a => (encL P fs).map fun b => a ++ b
def setI (Q : PkM) (o : Nat) (v : Int) : PkM := { Q with I := fun k => if k = o then v else Q.I k }
def setS (Q : PkM) (o : Nat) (s : List UInt8) : PkM := { Q with S := fun k => if k = o then s else Q.S k }
/-- a field of P in place of that of Q -/
def setF (P Q : PkM) : Fld → PkM
  | .num _ o _ _ => setI Q o (P.I o)
  | .text _ _ o => setS Q o (P.S o)
  | .names => { Q with N := P.N }
def setL (P : PkM) : PkM → List Fld → PkM
  | Q, [] => Q
  | Q, f :: fs => setL P (setF P Q f) fs
/-- reading: what is left -/
def decN (w : Nat) (lo hi : Int) (xs : List UInt8) : Option (Int × List UInt8) :=
  match getF xs 0 w with
  | some v => if lo ≤ (v : Int) ∧ (v : Int) ≤ hi then some (v, xs.drop w) else none
  | none => none
def decT (w most : Nat) (xs : List UInt8) : Option (List UInt8 × List UInt8) :=
  match getF xs 0 w with
  | some n => if n ≤ most ∧ w + n ≤ xs.length then some ((xs.drop w).take n, xs.drop (w + n)) else none
  | none => none
def decNs : Nat → List UInt8 → Option (List (List UInt8) × List UInt8)
  | 0, xs => some ([], xs)
  | n + 1, xs => (decT 1 12 xs).bind fun a => (decNs n a.2).map fun b => (a.1 :: b.1, b.2)
def decF (Q : PkM) (xs : List UInt8) : Fld → Option (PkM × List UInt8)
  | .num w o lo hi => (decN w lo hi xs).map fun a => (setI Q o a.1, a.2)
  | .text w most o => (decT w most xs).map fun a => (setS Q o a.1, a.2)
  | .names => match getF xs 0 1 with
    | some n => if n ≤ 16 then (decNs n (xs.drop 1)).map fun a => ({ Q with N := a.1 }, a.2) else none
    | none => none
def decL (Q : PkM) (xs : List UInt8) : List Fld → Option (PkM × List UInt8)
  | [] => some (Q, xs)
  | f :: fs => (decF Q xs f).bind fun a => decL a.1 a.2 fs

theorem fits_lt {v : Int} {w : Nat} (h : fitsB v w = true) (h9 : v ≤ allI) : widthB w = true ∧ 0 ≤ v ∧ v.toNat < 256 ^ w := by
  have h1 := fitsB_width h
  unfold allI at h9
  rcases (by omega : w = 1 ∨ w = 2 ∨ w = 4 ∨ w = 8 ∨ (w ≠ 1 ∧ w ≠ 2 ∧ w ≠ 4 ∧ w ≠ 8)) with rfl | rfl | rfl | rfl | ⟨k1, k2, k4, k8⟩
  · simp [fitsB] at h; exact ⟨rfl, h1.1, by omega⟩
  · simp [fitsB] at h; exact ⟨rfl, h1.1, by omega⟩
  · simp [fitsB] at h; exact ⟨rfl, h1.1, by omega⟩
  · exact ⟨rfl, h1.1, by omega⟩
  · rw [fitsB_else v (by omega) (by omega) (by omega) (by omega)] at h; cases h
theorem fits_of {v w : Nat} (hw : widthB w = true) (hv : v < 256 ^ w) : fitsB v w = true := by
  have hw' := of_decide_eq_true hw
  rcases (by omega : w = 1 ∨ w = 2 ∨ w = 4 ∨ w = 8) with rfl | rfl | rfl | rfl <;> simp [fitsB] <;> omega
theorem le_ofLEw (k n : Nat) (h : n < 256 ^ k) : ofLE (le k n) = n := by
  induction k generalizing n with
  | zero => simp [le, ofLE] at *; omega
  | succ k ih =>
    have h2 : n / 256 < 256 ^ k := by
      rw [Nat.div_lt_iff_lt_mul (by omega)]; rwa [Nat.pow_succ] at h
    simp [le, ofLE, ih _ h2]
    omega
theorem ofLE_lew (ys : List UInt8) : le ys.length (ofLE ys) = ys := by
  induction ys with
  | nil => rfl
  | cons y ys ih =>
    have hy := y.toNat_lt
    simp only [List.length_cons, le, ofLE]
    have e1 : (y.toNat + 256 * ofLE ys) / 256 = ofLE ys := by omega
    have e2 : UInt8.ofNat (y.toNat + 256 * ofLE ys) = y := by
      apply UInt8.toNat_inj.1; simp
    rw [e1, ih, e2]
theorem getF_front {k v : Nat} (r : List UInt8) (hk : widthB k = true) (hv : v < 256 ^ k) (h9 : (v : Int) ≤ allI) : getF (le k v ++ r) 0 k = some v := by
  unfold allI at h9
  have hd : ((le k v ++ r).drop (0 : Int).toNat).take (k : Int).toNat = le k v := by
    simp only [Int.toNat_natCast, Int.toNat_zero, List.drop_zero]
    rw [List.take_left' (le_length k v)]
  unfold getF
  rw [if_pos ⟨hk, by omega, by simp [le_length]; omega⟩, hd, le_ofLEw k v hv, if_pos (by omega)]
theorem getF_back {xs : List UInt8} {k v : Nat} (h : getF xs 0 k = some v) : widthB k = true ∧ k ≤ xs.length ∧ xs = le k v ++ xs.drop k ∧ v < 256 ^ k ∧ (v : Int) ≤ allI := by
  unfold getF at h
  split at h
  · next h1 =>
    split at h
    · next h2 =>
      simp only [Option.some.injEq, Int.toNat_natCast, Int.toNat_zero, List.drop_zero] at h h2
      have hl : k ≤ xs.length := by omega
      have hlen : (xs.take k).length = k := by simp; omega
      have e := ofLE_lew (xs.take k)
      have hlt := ofLE_lt (xs.take k)
      rw [hlen, h] at e hlt
      refine ⟨h1.1, hl, ?_, hlt, by unfold allI; omega⟩
      rw [e, List.take_append_drop]
    · cases h
  · cases h

theorem dec_encN {w : Nat} {lo hi v : Int} {e : List UInt8} (h : encN w lo hi v = some e) (h9 : v ≤ allI) (r : List UInt8) : decN w lo hi (e ++ r) = some (v, r) := by
  unfold encN at h
  split at h
  · next hc =>
    cases h
    obtain ⟨h1, h2, h3⟩ := fits_lt hc.1 h9
    unfold decN
    rw [getF_front r h1 h3 (by omega)]
    have ev : ((v.toNat : Nat) : Int) = v := by omega
    simp only [ev, hc.2, and_self, if_true]
    rw [List.drop_left' (le_length _ _)]
  · cases h
theorem enc_decN {w : Nat} {lo hi v : Int} {xs r : List UInt8} (h : decN w lo hi xs = some (v, r)) : encN w lo hi v = some (le w v.toNat) ∧ xs = le w v.toNat ++ r := by
  unfold decN at h
  split at h
  · next n hg =>
    split at h
    · next hb =>
      cases h
      obtain ⟨h1, h2, h3, h4, h5⟩ := getF_back hg
      refine ⟨?_, h3⟩
      unfold encN
      rw [if_pos ⟨fits_of h1 h4, hb⟩]
    · cases h
  · cases h
theorem dec_encT {w most : Nat} {s e : List UInt8} (hw : widthB w = true) (hm : most < 256 ^ w) (hm9 : (most : Int) ≤ allI) (h : encT w most s = some e) (r : List UInt8) : decT w most (e ++ r) = some (s, r) := by
  unfold encT at h
  split at h
  · next hl =>
    cases h
    unfold decT
    rw [List.append_assoc, getF_front _ hw (Nat.lt_of_le_of_lt hl hm) (by omega)]
    simp only [hl, true_and]
    rw [if_pos (by simp [le_length])]
    have hd : (le w s.length ++ (s ++ r)).drop w = s ++ r := List.drop_left' (le_length _ _)
    rw [← List.drop_drop, hd, List.take_left, List.drop_left]
  · cases h
theorem enc_decT {w most : Nat} {s xs r : List UInt8} (h : decT w most xs = some (s, r)) : ∃ e, encT w most s = some e ∧ xs = e ++ r := by
  unfold decT at h
  split at h
  · next n hg =>
    split at h
    · next hb =>
      cases h
      obtain ⟨h1, h2, h3, h4, h5⟩ := getF_back hg
      have hl : ((xs.drop w).take n).length = n := by simp; omega
      refine ⟨le w n ++ (xs.drop w).take n, ?_, ?_⟩
      · unfold encT; rw [hl, if_pos hb.1]
      · rw [List.append_assoc, ← List.drop_drop, List.take_append_drop]; exact h3
    · cases h
  · cases h
theorem dec_encNs {l : List (List UInt8)} {e : List UInt8} (h : encNs l = some e) (r : List UInt8) : decNs l.length (e ++ r) = some (l, r) := by
  induction l generalizing e with
  | nil => cases h; rfl
  | cons s l ih =>
    unfold encNs at h
    cases h1 : encT 1 12 s with
    | none => rw [h1] at h; cases h
    | some a =>
      cases h2 : encNs l with
      | none => rw [h1, h2] at h; cases h
      | some b =>
        rw [h1, h2] at h
        simp only [Option.bind_some, Option.map_some, Option.some.injEq] at h
        subst h
        show (decT 1 12 ((a ++ b) ++ r)).bind _ = _
        rw [List.append_assoc, dec_encT rfl (by decide) (by decide) h1, Option.bind_some, ih h2]
        rfl
theorem enc_decNs {n : Nat} {l : List (List UInt8)} {xs r : List UInt8} (h : decNs n xs = some (l, r)) : l.length = n ∧ ∃ e, encNs l = some e ∧ xs = e ++ r := by
  induction n generalizing l xs with
  | zero => cases h; exact ⟨rfl, [], rfl, rfl⟩
  | succ n ih =>
    unfold decNs at h
    cases h1 : decT 1 12 xs with
    | none => rw [h1] at h; cases h
    | some a =>
      cases h2 : decNs n a.2 with
      | none => rw [h1, Option.bind_some, h2] at h; cases h
      | some b =>
        rw [h1, Option.bind_some, h2, Option.map_some] at h
        simp only [Option.some.injEq, Prod.mk.injEq] at h
        obtain ⟨rfl, rfl⟩ := h
        obtain ⟨l1, e2, he2, hx2⟩ := ih (l := b.1) (xs := a.2) h2
        obtain ⟨e1, he1, hx1⟩ := enc_decT (s := a.1) (r := a.2) h1
        refine ⟨by simp [l1], e1 ++ e2, ?_, ?_⟩
        · unfold encNs; rw [he1, Option.bind_some, he2]; rfl
        · rw [hx1, hx2, List.append_assoc]

/-- fields as they may be -/
def okF : Fld → Prop
  | .num w _ _ _ => widthB w = true
  | .text w most _ => widthB w = true ∧ most < 256 ^ w ∧ (most : Int) ≤ allI
  | .names => True
def cellF : Fld → Nat
  | .num _ o _ _ => o
  | .text _ _ o => o
  | .names => 23
def smallP (P : PkM) : Prop := ∀ o, P.I o ≤ allI
theorem dec_encF {P Q : PkM} {f : Fld} {e : List UInt8} (hP : smallP P) (hf : okF f) (h : encF P f = some e) (r : List UInt8) : decF Q (e ++ r) f = some (setF P Q f, r) := by
  cases f with
  | num w o lo hi => show (decN w lo hi (e ++ r)).map _ = _; rw [dec_encN h (hP o)]; rfl
  | text w most o => show (decT w most (e ++ r)).map _ = _; rw [dec_encT hf.1 hf.2.1 hf.2.2 h]; rfl
  | names =>
    have h' : (if P.N.length ≤ 16 then (encNs P.N).map fun b => le 1 P.N.length ++ b else none) = some e := h
    clear h
    by_cases hl : P.N.length ≤ 16
    · rw [if_pos hl] at h'
      cases h1 : encNs P.N with
      | none => rw [h1] at h'; cases h'
      | some b =>
        rw [h1, Option.map_some] at h'
        cases h'
        unfold decF
        simp only
        have hg : getF (le 1 P.N.length ++ b ++ r) 0 1 = some P.N.length := by
          rw [List.append_assoc]; exact getF_front (k := 1) _ rfl (by omega) (by unfold allI; omega)
        rw [hg]
        simp only [hl, if_true]
        rw [List.append_assoc, List.drop_left' (le_length _ _), dec_encNs h1]; rfl
    · rw [if_neg hl] at h'; cases h'
theorem dec_encL {P Q : PkM} {fs : List Fld} {e : List UInt8} (hP : smallP P) (hf : ∀ f ∈ fs, okF f) (h : encL P fs = some e) (r : List UInt8) : decL Q (e ++ r) fs = some (setL P Q fs, r) := by
  induction fs generalizing Q e with
  | nil => cases h; rfl
  | cons f fs ih =>
    unfold encL at h
    cases h1 : encF P f with
    | none => rw [h1] at h; cases h
    | some a =>
      cases h2 : encL P fs with
      | none => rw [h1, h2] at h; cases h
      | some b =>
        rw [h1, h2] at h
        simp only [Option.bind_some, Option.map_some, Option.some.injEq] at h
        subst h
        unfold decL
        rw [List.append_assoc, dec_encF hP (hf f (List.mem_cons_self ..)) h1, Option.bind_some]
        exact ih (fun g hg => hf g (List.mem_cons_of_mem _ hg)) h2
theorem encF_set {Q : PkM} {f g : Fld} {xs r : List UInt8} {Q1 : PkM} (h : decF Q xs f = some (Q1, r)) (hne : cellF f ≠ cellF g) : encF Q1 g = encF Q g := by
  cases f with
  | num w o lo hi =>
    simp only [decF, Option.map_eq_some_iff, Prod.mk.injEq] at h
    obtain ⟨a, _, rfl, _⟩ := h
    cases g with
    | num w' o' lo' hi' => simp only [encF, setI]; rw [if_neg (fun e => hne e.symm)]
    | text w' m' o' => rfl
    | names => rfl
  | text w m o =>
    simp only [decF, Option.map_eq_some_iff, Prod.mk.injEq] at h
    obtain ⟨a, _, rfl, _⟩ := h
    cases g with
    | num w' o' lo' hi' => rfl
    | text w' m' o' => simp only [encF, setS]; rw [if_neg (fun e => hne e.symm)]
    | names => rfl
  | names =>
    unfold decF at h
    simp only at h
    split at h
    · split at h
      · simp only [Option.map_eq_some_iff, Prod.mk.injEq] at h
        obtain ⟨a, _, rfl, _⟩ := h
        cases g with
        | num w' o' lo' hi' => rfl
        | text w' m' o' => rfl
        | names => exact absurd rfl hne
      · cases h
    · cases h
theorem enc_decF {Q Q1 : PkM} {f : Fld} {xs r : List UInt8} (h : decF Q xs f = some (Q1, r)) : ∃ e, encF Q1 f = some e ∧ xs = e ++ r := by
  cases f with
  | num w o lo hi =>
    simp only [decF, Option.map_eq_some_iff, Prod.mk.injEq] at h
    obtain ⟨a, h1, rfl, rfl⟩ := h
    obtain ⟨h2, h3⟩ := enc_decN (v := a.1) (r := a.2) h1
    exact ⟨_, by simp only [encF, setI, if_true]; exact h2, h3⟩
  | text w m o =>
    simp only [decF, Option.map_eq_some_iff, Prod.mk.injEq] at h
    obtain ⟨a, h1, rfl, rfl⟩ := h
    obtain ⟨e, h2, h3⟩ := enc_decT (s := a.1) (r := a.2) h1
    exact ⟨e, by simp only [encF, setS, if_true]; exact h2, h3⟩
  | names =>
    unfold decF at h
    simp only at h
    split at h
    · next n hg =>
      split at h
      · next hn =>
        simp only [Option.map_eq_some_iff, Prod.mk.injEq] at h
        obtain ⟨a, h1, rfl, rfl⟩ := h
        obtain ⟨hl, e, h2, h3⟩ := enc_decNs (l := a.1) (r := a.2) h1
        obtain ⟨_, _, h4, _⟩ := getF_back (k := 1) hg
        refine ⟨le 1 n ++ e, ?_, ?_⟩
        · simp only [encF, hl, if_pos hn, h2, Option.map_some]
        · rw [List.append_assoc, ← h3]; exact h4
      · cases h
    · cases h
theorem encF_setL {Q Q' : PkM} {fs : List Fld} {xs r : List UInt8} (h : decL Q xs fs = some (Q', r)) {g : Fld} (hne : ∀ f ∈ fs, cellF f ≠ cellF g) : encF Q' g = encF Q g := by
  induction fs generalizing Q xs with
  | nil => cases h; rfl
  | cons f fs ih =>
    unfold decL at h
    cases h1 : decF Q xs f with
    | none => rw [h1] at h; cases h
    | some a =>
      rw [h1, Option.bind_some] at h
      rw [ih h (fun k hk => hne k (List.mem_cons_of_mem _ hk))]
      exact encF_set (r := a.2) h1 (hne f (List.mem_cons_self ..))
theorem enc_decL {Q Q' : PkM} {fs : List Fld} {xs r : List UInt8} (hn : (fs.map cellF).Nodup) (h : decL Q xs fs = some (Q', r)) : ∃ e, encL Q' fs = some e ∧ xs = e ++ r := by
  induction fs generalizing Q xs with
  | nil => cases h; exact ⟨[], rfl, rfl⟩
  | cons f fs ih =>
    unfold decL at h
    cases h1 : decF Q xs f with
    | none => rw [h1] at h; cases h
    | some a =>
      rw [h1, Option.bind_some] at h
      rw [List.map_cons, List.nodup_cons] at hn
      obtain ⟨e2, he2, hx2⟩ := ih hn.2 h
      obtain ⟨e1, he1, hx1⟩ := enc_decF (Q1 := a.1) (r := a.2) h1
      have hk : encF Q' f = some e1 := by
        rw [encF_setL h (fun k hk e => hn.1 (List.mem_map.2 ⟨k, hk, e⟩))]; exact he1
      refine ⟨e1 ++ e2, ?_, by rw [hx1, hx2, List.append_assoc]⟩
      show (encF Q' f).bind _ = _
      rw [hk, Option.bind_some, he2]; rfl
theorem fRest_ok (k : Int) : ∀ f ∈ fRest k, okF f := by
  intro f hf
  unfold fRest at hf
  split at hf
  · simp only [List.mem_cons, List.not_mem_nil, or_false] at hf
    rcases hf with rfl | rfl | rfl | rfl | rfl | rfl <;> first | exact rfl | exact ⟨rfl, by decide, by decide⟩
  split at hf
  · simp only [List.mem_cons, List.not_mem_nil, or_false] at hf
    rcases hf with rfl | rfl | rfl | rfl <;> first | exact rfl | exact ⟨rfl, by decide, by decide⟩
  split at hf
  · simp only [List.mem_cons, List.not_mem_nil, or_false] at hf
    rcases hf with rfl | rfl | rfl | rfl | rfl | rfl <;> first | exact rfl | exact ⟨rfl, by decide, by decide⟩
  split at hf
  · simp only [List.mem_cons, List.not_mem_nil, or_false] at hf
    rcases hf with rfl | rfl | rfl | rfl | rfl | rfl | rfl | rfl | rfl | rfl | rfl | rfl | rfl | rfl | rfl | rfl <;> first | exact rfl | exact trivial
  · simp only [List.mem_cons, List.not_mem_nil, or_false] at hf
    rcases hf with rfl; exact rfl
theorem fHead_ok : ∀ f ∈ fHead, okF f := by
  intro f hf
  simp only [fHead, List.mem_cons, List.not_mem_nil, or_false] at hf
  rcases hf with rfl | rfl | rfl | rfl <;> exact rfl
theorem fAll_nodup (k : Int) : ((fHead ++ fRest k).map cellF).Nodup := by
  unfold fRest
  repeat' split
  all_goals decide
end Go.Proofs.Ytanediaaidfcaaa
