/- Merged: PlgT PlgU. -/
import Derived.Test.YtcackliabemecaaGreatDoorPlgMc
/- The document's Decode, pure: it is the code's; it reads no more than the record. -/
namespace Go.Proofs.YtcackliabemecaaGreatDoor
open Go.RowKit
set_option linter.unusedSimpArgs false
set_option linter.unusedVariables false
set_option maxRecDepth 100000

def getsR (xs : List UInt8) : Nat → Nat → List PtM → Int ⊕ (List PtM × Nat)
  | 0, at_, acc => .inr (acc, at_)
  | n + 1, at_, acc =>
    match getF xs (at_ : Int) 4, getF xs ((at_ + 4 : Nat) : Int) 2 with
    | some x, some k => if 256 < k then .inl 2 else if xs.length < at_ + 6 + k then .inl 3 else getsR xs n (at_ + 6 + k) (acc ++ [⟨(x : Int), (xs.drop (at_ + 6)).take k⟩])
    | some _, none => .inl 3
    | none, _ => .inl 3
def endR (xs : List UInt8) (L : List PtM) (at_ : Nat) : List PtM × Int × Int :=
  match getF xs (at_ : Int) 4 with
  | none => ([], 0, 3)
  | some s => if s ≠ crcF (xs.take at_) then ([], 0, 4) else if xs.length < at_ + 4 + pad8 (at_ + 4) then ([], 0, 3) else if ∀ x ∈ (xs.drop (at_ + 4)).take (pad8 (at_ + 4)), x = 0 then (L, ((at_ + 4 + pad8 (at_ + 4) : Nat) : Int), 0) else ([], 0, 2)
def finR (xs : List UInt8) : Int ⊕ (List PtM × Nat) → List PtM × Int × Int
  | .inl e => ([], 0, e)
  | .inr r => endR xs r.1 r.2
def decR (xs : List UInt8) : List PtM × Int × Int :=
  match getF xs 0 2 with
  | none => ([], 0, 3)
  | some n => if 64 < n then ([], 0, 2) else finR xs (getsR xs n 2 [])

theorem getF_inP {xs : List UInt8} {a k : Nat} (h : a + k ≤ xs.length) (hk : k = 2 ∨ k = 4) : getF xs (a : Int) (k : Int) = some (ofLE ((xs.drop a).take k)) := by
  have hl : ((xs.drop a).take k).length = k := by rw [List.length_take, List.length_drop]; omega
  have hb := ofLE_lt ((xs.drop a).take k)
  rw [hl] at hb
  have hb2 : ofLE ((xs.drop a).take k) ≤ 9223372036854775807 := by rcases hk with rfl | rfl <;> omega
  have hw : widthB (k : Int) = true := by rcases hk with rfl | rfl <;> rfl
  unfold getF
  rw [if_pos ⟨hw, by omega, by omega⟩]
  simp only [Int.toNat_natCast]
  exact if_pos hb2
theorem getF_outP {xs : List UInt8} {a k : Nat} (h : xs.length < a + k) : getF xs (a : Int) (k : Int) = none := by
  unfold getF
  exact if_neg fun q => by omega
theorem numD_in {xs : List UInt8} {a k : Nat} (h : a + k ≤ xs.length) (hk : k = 2 ∨ k = 4) : numD xs ⟨a, false⟩ k = (ofLE ((xs.drop a).take k), ⟨a + k, false⟩) := by
  have hl : ((xs.drop a).take k).length = k := by rw [List.length_take, List.length_drop]; omega
  have ht : takeD xs ⟨a, false⟩ k = ((xs.drop a).take k, ⟨a + k, false⟩) := if_neg fun q => by
    rcases q with q | q
    · cases q
    · change xs.length < a + k at q; omega
  have hg := getF_inP (xs := (xs.drop a).take k) (a := 0) (k := k) (by omega) hk
  unfold numD
  rw [ht]
  show ((getF ((xs.drop a).take k) ((0 : Nat) : Int) (k : Int)).getD 0, _) = _
  rw [hg]
  show (ofLE ((((xs.drop a).take k).drop 0).take k), _) = _
  rw [List.drop_zero, List.take_of_length_le (by omega)]
theorem takeD_out {xs : List UInt8} {s : DS} {k : Nat} (h : s.no = true ∨ xs.length < s.at_ + k) : takeD xs s k = ([], ⟨s.at_, true⟩) := if_pos h
theorem numD_out {xs : List UInt8} {s : DS} {k : Nat} (h : s.no = true ∨ xs.length < s.at_ + k) (hk : k = 2 ∨ k = 4) : numD xs s k = (0, ⟨s.at_, true⟩) := by
  unfold numD
  rw [takeD_out h]
  show ((getF [] ((0 : Nat) : Int) (k : Int)).getD 0, _) = _
  rw [getF_outP (by show 0 < 0 + k; omega)]
  rfl
theorem getsD_no (xs : List UInt8) (n : Nat) (a : Nat) (acc : List PtM) : ∃ acc', getsD xs n ⟨a, true⟩ acc = some (acc', ⟨a, true⟩) := by
  induction n generalizing acc with
  | zero => exact ⟨acc, rfl⟩
  | succ n ih =>
    unfold getsD
    rw [numD_out (.inl rfl) (.inr rfl), numD_out (.inl rfl) (.inl rfl)]
    rw [if_neg (by omega), takeD_out (.inl rfl)]
    exact ih _
theorem getsD_getsR (xs : List UInt8) (n : Nat) (a : Nat) (acc : List PtM) :
    match getsR xs n a acc with
    | .inl e => (e = 2 ∧ getsD xs n ⟨a, false⟩ acc = none) ∨ (e = 3 ∧ ∃ acc' a', getsD xs n ⟨a, false⟩ acc = some (acc', ⟨a', true⟩))
    | .inr r => getsD xs n ⟨a, false⟩ acc = some (r.1, ⟨r.2, false⟩) := by
  induction n generalizing a acc with
  | zero => exact rfl
  | succ n ih =>
    unfold getsR getsD
    by_cases h1 : a + 4 ≤ xs.length
    · have g1 := getF_inP h1 (.inr rfl)
      change getF xs (a : Int) 4 = _ at g1
      rw [g1, numD_in h1 (.inr rfl)]
      dsimp only
      by_cases h2 : a + 4 + 2 ≤ xs.length
      · have g2 := getF_inP h2 (.inl rfl)
        change getF xs ((a + 4 : Nat) : Int) 2 = _ at g2
        rw [g2, numD_in h2 (.inl rfl)]
        dsimp only
        by_cases h3 : 256 < ofLE ((xs.drop (a + 4)).take 2)
        · rw [if_pos h3, if_pos h3]; exact .inl ⟨rfl, rfl⟩
        · rw [if_neg h3, if_neg h3]
          by_cases h4 : xs.length < a + 6 + ofLE ((xs.drop (a + 4)).take 2)
          · rw [if_pos h4, takeD_out (.inr h4)]
            obtain ⟨acc', e⟩ := getsD_no xs n (a + 4 + 2) (acc ++ [⟨((ofLE ((xs.drop a).take 4) : Nat) : Int), []⟩])
            exact .inr ⟨rfl, acc', _, e⟩
          · rw [if_neg h4]
            have ht : takeD xs ⟨a + 4 + 2, false⟩ (ofLE ((xs.drop (a + 4)).take 2)) = ((xs.drop (a + 6)).take (ofLE ((xs.drop (a + 4)).take 2)), ⟨a + 6 + ofLE ((xs.drop (a + 4)).take 2), false⟩) := if_neg fun q => by
              rcases q with q | q
              · cases q
              · exact h4 q
            rw [ht]
            exact ih _ _
      · have g2 := getF_outP (xs := xs) (a := a + 4) (k := 2) (by omega)
        change getF xs ((a + 4 : Nat) : Int) 2 = _ at g2
        rw [g2, numD_out (.inr (show xs.length < a + 4 + 2 by omega)) (.inl rfl)]
        dsimp only
        rw [if_neg (by omega), takeD_out (.inl rfl)]
        obtain ⟨acc', e⟩ := getsD_no xs n (a + 4) (acc ++ [⟨((ofLE ((xs.drop a).take 4) : Nat) : Int), []⟩])
        exact .inr ⟨rfl, acc', _, e⟩
    · have g1 := getF_outP (xs := xs) (a := a) (k := 4) (by omega)
      change getF xs (a : Int) 4 = _ at g1
      rw [g1, numD_out (.inr (show xs.length < a + 4 by omega)) (.inr rfl), numD_out (.inl rfl) (.inl rfl)]
      dsimp only
      rw [if_neg (by omega), takeD_out (.inl rfl)]
      obtain ⟨acc', e⟩ := getsD_no xs n a (acc ++ [⟨((0 : Nat) : Int), []⟩])
      exact .inr ⟨rfl, acc', _, e⟩
theorem endD_no (xs : List UInt8) (L : List PtM) (a : Nat) : endD xs L ⟨a, true⟩ = ([], 0, 3) := by
  unfold endD
  rw [numD_out (.inl rfl) (.inr rfl), if_neg (by rintro ⟨q, _⟩; cases q), takeD_out (.inl rfl)]
  exact if_pos rfl
theorem endD_endR (xs : List UInt8) (L : List PtM) (a : Nat) : endD xs L ⟨a, false⟩ = endR xs L a := by
  unfold endR
  by_cases h1 : a + 4 ≤ xs.length
  · have g1 := getF_inP h1 (.inr rfl)
    change getF xs (a : Int) 4 = _ at g1
    rw [g1]
    unfold endD
    rw [numD_in h1 (.inr rfl)]
    dsimp only
    by_cases h2 : ofLE ((xs.drop a).take 4) ≠ crcF (xs.take a)
    · rw [if_pos ⟨rfl, h2⟩, if_pos h2]
    · rw [if_neg (fun q => h2 q.2), if_neg h2]
      by_cases h3 : xs.length < a + 4 + pad8 (a + 4)
      · rw [takeD_out (.inr h3), if_pos rfl, if_pos h3]
      · have ht : takeD xs ⟨a + 4, false⟩ (pad8 (a + 4)) = ((xs.drop (a + 4)).take (pad8 (a + 4)), ⟨a + 4 + pad8 (a + 4), false⟩) := if_neg fun q => by
          rcases q with q | q
          · cases q
          · exact h3 q
        rw [ht, if_neg (fun q => by cases q), if_neg h3]
  · have g1 := getF_outP (xs := xs) (a := a) (k := 4) (by omega)
    change getF xs (a : Int) 4 = _ at g1
    rw [g1]
    unfold endD
    rw [numD_out (.inr (show xs.length < a + 4 by omega)) (.inr rfl), if_neg (by rintro ⟨q, _⟩; cases q), takeD_out (.inl rfl)]
    exact if_pos rfl
theorem decD_decR (xs : List UInt8) : decD xs = decR xs := by
  unfold decD decR
  by_cases h1 : 0 + 2 ≤ xs.length
  · have g1 := getF_inP h1 (.inl rfl)
    change getF xs 0 2 = _ at g1
    rw [g1, numD_in h1 (.inl rfl)]
    dsimp only
    by_cases h2 : 64 < ofLE ((xs.drop 0).take 2)
    · rw [if_pos h2, if_pos h2]
    · rw [if_neg h2, if_neg h2]
      have h3 := getsD_getsR xs (ofLE ((xs.drop 0).take 2)) 2 []
      generalize getsR xs (ofLE ((xs.drop 0).take 2)) 2 [] = R at h3 ⊢
      cases R with
      | inl e =>
        rcases h3 with ⟨rfl, e2⟩ | ⟨rfl, acc', a', e2⟩
        · show finD xs (getsD xs _ ⟨2, false⟩ []) = _
          rw [e2]; rfl
        · show finD xs (getsD xs _ ⟨2, false⟩ []) = _
          rw [e2]; exact endD_no _ _ _
      | inr r =>
        show finD xs (getsD xs _ ⟨2, false⟩ []) = _
        rw [h3]; exact endD_endR _ _ _
  · have g1 := getF_outP (xs := xs) (a := 0) (k := 2) (by omega)
    change getF xs 0 2 = _ at g1
    rw [g1, numD_out (.inr (show xs.length < 0 + 2 by omega)) (.inl rfl), if_neg (by omega)]
    exact endD_no _ _ _

/-! what is decoded depends on its bytes alone -/
theorem getF_local {xs ys : List UInt8} {n a k : Nat} (h : xs.take n = ys.take n) (hx : n ≤ xs.length) (hy : n ≤ ys.length) (hk : a + k ≤ n) (h2 : k = 2 ∨ k = 4) : getF ys (a : Int) (k : Int) = getF xs (a : Int) (k : Int) := by
  rw [getF_inP (by omega) h2, getF_inP (by omega) h2]
  have e : ∀ zs : List UInt8, (zs.drop a).take k = ((zs.take n).drop a).take k := fun zs => by
    rw [List.drop_take, List.take_take, Nat.min_eq_left (by omega)]
  rw [e xs, e ys, h]
theorem sl_local {xs ys : List UInt8} {n a k : Nat} (h : xs.take n = ys.take n) (hk : a + k ≤ n) : (ys.drop a).take k = (xs.drop a).take k := by
  have e : ∀ zs : List UInt8, (zs.drop a).take k = ((zs.take n).drop a).take k := fun zs => by
    rw [List.drop_take, List.take_take, Nat.min_eq_left (by omega)]
  rw [e xs, e ys, h]
theorem take_local {xs ys : List UInt8} {n a : Nat} (h : xs.take n = ys.take n) (hk : a ≤ n) : ys.take a = xs.take a := by
  have e : ∀ zs : List UInt8, zs.take a = (zs.take n).take a := fun zs => by rw [List.take_take, Nat.min_eq_left hk]
  rw [e xs, e ys, h]
theorem getsR_at {xs : List UInt8} {m a : Nat} {acc : List PtM} {r : List PtM × Nat} (h : getsR xs m a acc = .inr r) : a ≤ r.2 := by
  induction m generalizing a acc with
  | zero => cases h; exact Nat.le_refl _
  | succ m ih =>
    unfold getsR at h
    split at h
    · split at h
      · cases h
      · split at h
        · cases h
        · have := ih h; omega
    · cases h
    · cases h
theorem getsR_local {xs ys : List UInt8} {n m a : Nat} {acc : List PtM} {r : List PtM × Nat} (h : xs.take n = ys.take n) (hx : n ≤ xs.length) (hy : n ≤ ys.length) (hr : getsR xs m a acc = .inr r) (hn : r.2 ≤ n) : getsR ys m a acc = .inr r := by
  induction m generalizing a acc with
  | zero => exact hr
  | succ m ih =>
    unfold getsR at hr ⊢
    split at hr
    · next x k g1 g2 =>
      split at hr
      · cases hr
      · next q1 =>
        split at hr
        · cases hr
        · next q2 =>
          have ha := getsR_at hr
          have e1 := getF_local (a := a) (k := 4) h hx hy (by omega) (.inr rfl)
          have e2 := getF_local (a := a + 4) (k := 2) h hx hy (by omega) (.inl rfl)
          change getF ys (a : Int) 4 = getF xs (a : Int) 4 at e1
          change getF ys ((a + 4 : Nat) : Int) 2 = getF xs ((a + 4 : Nat) : Int) 2 at e2
          rw [e1, e2, g1, g2]
          dsimp only
          rw [if_neg q1, if_neg (by omega), sl_local h (by omega)]
          exact ih hr
    · cases hr
    · cases hr
theorem decR_local {xs ys : List UInt8} {L : List PtM} {n : Nat} (hd : decR xs = (L, (n : Int), 0)) (h : xs.take n = ys.take n) (hx : n ≤ xs.length) (hy : n ≤ ys.length) : decR ys = (L, (n : Int), 0) := by
  unfold decR at hd ⊢
  cases g0 : getF xs 0 2 with
  | none => rw [g0] at hd; cases hd
  | some m =>
    rw [g0] at hd
    dsimp only at hd
    split at hd
    · cases hd
    · next q0 =>
      cases hg : getsR xs m 2 [] with
      | inl e =>
        rw [hg] at hd
        change (([] : List PtM), (0 : Int), e) = _ at hd
        have e0 : e = 0 := congrArg (fun x => x.2.2) hd
        exfalso
        have := getsD_getsR xs m 2 []
        rw [hg] at this
        rcases this with ⟨e2, _⟩ | ⟨e3, _⟩ <;> omega
      | inr r =>
        rw [hg] at hd
        change endR xs r.1 r.2 = _ at hd
        have hat := getsR_at hg
        have hd2 := hd
        unfold endR at hd2
        cases g1 : getF xs (r.2 : Int) 4 with
        | none => rw [g1] at hd2; cases hd2
        | some s =>
          rw [g1] at hd2
          dsimp only at hd2
          split at hd2
          · cases hd2
          · next q1 =>
            split at hd2
            · cases hd2
            · next q2 =>
              split at hd2
              · next q3 =>
                have hn : r.2 + 4 + pad8 (r.2 + 4) = n := by
                  have : ((r.2 + 4 + pad8 (r.2 + 4) : Nat) : Int) = (n : Int) := congrArg (fun x => x.2.1) hd2
                  omega
                have hL : r.1 = L := congrArg (fun x => x.1) hd2
                have e0 := getF_local (a := 0) (k := 2) h hx hy (by omega) (.inl rfl)
                change getF ys 0 2 = getF xs 0 2 at e0
                have e1 := getF_local (a := r.2) (k := 4) h hx hy (by omega) (.inr rfl)
                change getF ys (r.2 : Int) 4 = getF xs (r.2 : Int) 4 at e1
                rw [e0, g0]
                dsimp only
                rw [if_neg q0, getsR_local h hx hy hg (by omega)]
                show endR ys r.1 r.2 = _
                unfold endR
                rw [e1, g1]
                dsimp only
                rw [take_local h (by omega), if_neg q1, if_neg (by omega), sl_local h (by omega), if_pos q3, hn, hL]
              · cases hd2
end Go.Proofs.YtcackliabemecaaGreatDoor
/- What is encoded is decoded, whatever stands behind it; pure. -/
namespace Go.Proofs.YtcackliabemecaaGreatDoor
open Go.RowKit
set_option linter.unusedSimpArgs false
set_option linter.unusedVariables false
set_option maxRecDepth 100000

theorem ofLE_leP (k n : Nat) (h : n < 256 ^ k) : ofLE (le k n) = n := by
  induction k generalizing n with
  | zero => simp [le, ofLE] at *; omega
  | succ k ih =>
    have h2 : n / 256 < 256 ^ k := by
      rw [Nat.div_lt_iff_lt_mul (by omega)]; rwa [Nat.pow_succ] at h
    simp [le, ofLE, ih _ h2]
    omega
theorem sl_mid {A B C : List UInt8} {a k : Nat} (ha : A.length = a) (hk : B.length = k) : ((A ++ (B ++ C)).drop a).take k = B := by
  subst ha hk
  rw [List.drop_left, List.take_left]
theorem getF_midP {A C : List UInt8} {a k v : Nat} (ha : A.length = a) (hk : k = 2 ∨ k = 4) (hv : v < 256 ^ k) : getF (A ++ (le k v ++ C)) (a : Int) (k : Int) = some v := by
  rw [getF_inP (by rw [List.length_append, List.length_append, le_length]; omega) hk, sl_mid ha (le_length k v), ofLE_leP k v hv]
def encPt (p : PtM) : List UInt8 := le 4 p.at_.toNat ++ (le 2 p.d.length ++ p.d)
theorem okPt_iff {p : PtM} (h : okPt p = true) : 0 ≤ p.at_ ∧ p.at_ < 4294967296 ∧ fitsB p.at_ 4 = true ∧ p.d.length ≤ 256 := by
  unfold okPt at h
  rw [Bool.and_eq_true, decide_eq_true_iff] at h
  obtain ⟨h1, h2⟩ := h
  have h3 := h1
  unfold fitsB at h3
  have h0 := (fitsB_width h1).1
  refine ⟨h0, ?_, h1, h2⟩
  simp at h3
  omega
theorem encP1_eq {p : PtM} (h : okPt p = true) (b : List UInt8) : encP1 b p = b ++ encPt p := by
  obtain ⟨h0, h1, h2, h3⟩ := okPt_iff h
  have f2 : fitsB (p.d.length : Int) 2 = true := by unfold fitsB; simp; omega
  unfold encP1 encPt
  rw [show putF b p.at_ 4 = b ++ le 4 p.at_.toNat from if_pos h2]
  rw [show putF (b ++ le 4 p.at_.toNat) (p.d.length : Int) 2 = b ++ le 4 p.at_.toNat ++ le 2 p.d.length from if_pos f2]
  simp only [List.append_assoc]
theorem encFold_eq (L : List PtM) (b : List UInt8) (h : L.all okPt = true) : L.foldl encP1 b = b ++ L.flatMap encPt := by
  induction L generalizing b with
  | nil => simp
  | cons p L ih =>
    rw [List.all_cons, Bool.and_eq_true] at h
    rw [List.foldl_cons, ih _ h.2, encP1_eq h.1, List.flatMap_cons, List.append_assoc]
theorem encB_eq {L : List PtM} (h : encOk L = true) : encB L = le 2 L.length ++ L.flatMap encPt := by
  unfold encOk at h
  rw [Bool.and_eq_true, decide_eq_true_iff] at h
  have f2 : fitsB (L.length : Int) 2 = true := by unfold fitsB; simp; omega
  unfold encB
  rw [encFold_eq L _ h.2, show putF [] (L.length : Int) 2 = [] ++ le 2 L.length from if_pos f2, List.nil_append]
theorem encPt_len (p : PtM) : (encPt p).length = 6 + p.d.length := by unfold encPt; rw [List.length_append, List.length_append, le_length, le_length]; omega
theorem getsR_enc (L : List PtM) (A Z : List UInt8) (acc : List PtM) (h : L.all okPt = true) : getsR (A ++ (L.flatMap encPt ++ Z)) L.length A.length acc = .inr (acc ++ L, A.length + (L.flatMap encPt).length) := by
  induction L generalizing A acc with
  | nil => simp [getsR]
  | cons p L ih =>
    rw [List.all_cons, Bool.and_eq_true] at h
    obtain ⟨h0, h1, h2, h3⟩ := okPt_iff h.1
    have e : A ++ ((p :: L).flatMap encPt ++ Z) = A ++ (le 4 p.at_.toNat ++ (le 2 p.d.length ++ (p.d ++ (L.flatMap encPt ++ Z)))) := by
      rw [List.flatMap_cons]; unfold encPt; simp only [List.append_assoc]
    have g1 : getF (A ++ ((p :: L).flatMap encPt ++ Z)) (A.length : Int) 4 = some p.at_.toNat := by
      rw [e]; exact getF_midP rfl (.inr rfl) (by omega)
    have g2 : getF (A ++ ((p :: L).flatMap encPt ++ Z)) ((A.length + 4 : Nat) : Int) 2 = some p.d.length := by
      rw [e, ← List.append_assoc]
      exact getF_midP (by rw [List.length_append, le_length]) (.inl rfl) (by omega)
    have g3 : ((A ++ ((p :: L).flatMap encPt ++ Z)).drop (A.length + 6)).take p.d.length = p.d := by
      rw [e, ← List.append_assoc, ← List.append_assoc]
      exact sl_mid (by rw [List.length_append, List.length_append, le_length, le_length]) rfl
    have hl : ¬ (A ++ ((p :: L).flatMap encPt ++ Z)).length < A.length + 6 + p.d.length := by
      rw [List.length_append, List.flatMap_cons, List.length_append, List.length_append, encPt_len]; omega
    rw [List.length_cons]
    unfold getsR
    rw [g1, g2]
    dsimp only
    rw [if_neg (by omega), if_neg hl, g3]
    have hp : (⟨((p.at_.toNat : Nat) : Int), p.d⟩ : PtM) = p := by
      cases p with | mk x d => simp only [PtM.mk.injEq, and_true]; exact Int.toNat_of_nonneg h0
    rw [hp]
    have h5 := ih (A ++ encPt p) (acc ++ [p]) h.2
    rw [show (A ++ encPt p).length = A.length + 6 + p.d.length by rw [List.length_append, encPt_len]; omega] at h5
    rw [show A ++ ((p :: L).flatMap encPt ++ Z) = A ++ encPt p ++ (L.flatMap encPt ++ Z) by rw [List.flatMap_cons]; simp only [List.append_assoc], h5, List.flatMap_cons, List.length_append, encPt_len]
    rw [List.append_assoc, List.singleton_append]
    congr 2
    omega
theorem put_sumP (l : List UInt8) : putF l (crcF l : Nat) 4 = l ++ le 4 (crcF l) := by
  have := crcF_lt l
  have f : fitsB (crcF l : Int) 4 = true := by unfold fitsB; simp; omega
  exact if_pos f
theorem encL_eq {L : List PtM} (h : encOk L = true) : encL L = encB L ++ (le 4 (crcF (encB L)) ++ List.replicate (pad8 ((encB L).length + 4)) 0) := by
  unfold encL
  rw [if_pos h]
  unfold sealP sealY
  rw [put_sumP, List.length_append, le_length, List.append_assoc]
theorem encL_len8 {L : List PtM} (h : encOk L = true) : (encL L).length = (encB L).length + 4 + pad8 ((encB L).length + 4) := by
  rw [encL_eq h, List.length_append, List.length_append, le_length, List.length_replicate]; omega
theorem decR_enc {L : List PtM} (h : encOk L = true) (rest : List UInt8) : decR (encL L ++ rest) = (L, ((encL L).length : Int), 0) := by
  have h' := h
  unfold encOk at h'
  rw [Bool.and_eq_true, decide_eq_true_iff] at h'
  obtain ⟨Z, hZ⟩ : ∃ Z, Z = le 4 (crcF (encB L)) ++ (List.replicate (pad8 ((encB L).length + 4)) 0 ++ rest) := ⟨_, rfl⟩
  have e : encL L ++ rest = encB L ++ Z := by rw [encL_eq h, hZ]; simp only [List.append_assoc]
  have e2 : encL L ++ rest = [] ++ (le 2 L.length ++ (L.flatMap encPt ++ Z)) := by rw [e, encB_eq h, List.nil_append, List.append_assoc]
  have e3 : encL L ++ rest = le 2 L.length ++ (L.flatMap encPt ++ Z) := e2
  have g0 : getF (encL L ++ rest) 0 2 = some L.length := by
    rw [e2]; exact getF_midP (a := 0) rfl (.inl rfl) (by omega)
  have hB : (encB L).length = 2 + (L.flatMap encPt).length := by rw [encB_eq h, List.length_append, le_length]
  have g1 := getsR_enc L (le 2 L.length) Z [] h'.2
  rw [le_length, ← e3, ← hB, List.nil_append] at g1
  have gs : getF (encL L ++ rest) ((encB L).length : Int) 4 = some (crcF (encB L)) := by
    rw [e, hZ]; exact getF_midP rfl (.inr rfl) (by have := crcF_lt (encB L); omega)
  have gt : (encL L ++ rest).take (encB L).length = encB L := by rw [e, List.take_left]
  have gp : ((encL L ++ rest).drop ((encB L).length + 4)).take (pad8 ((encB L).length + 4)) = List.replicate (pad8 ((encB L).length + 4)) 0 := by
    rw [e, hZ, ← List.append_assoc]
    exact sl_mid (by rw [List.length_append, le_length]) List.length_replicate
  unfold decR
  rw [g0]
  dsimp only
  rw [if_neg (by omega), g1]
  show endR _ L (encB L).length = _
  unfold endR
  rw [gs]
  dsimp only
  rw [gt, if_neg (fun q => q rfl), if_neg (by rw [List.length_append, encL_len8 h]; omega), gp, if_pos (fun x hx => List.eq_of_mem_replicate hx), encL_len8 h]
theorem decD_enc {L : List PtM} (h : encOk L = true) (rest : List UInt8) : decD (encL L ++ rest) = (L, ((encL L).length : Int), 0) := by rw [decD_decR, decR_enc h]
end Go.Proofs.YtcackliabemecaaGreatDoor
