/- Merged: PlgV PlgY PlgZ PlgLv. -/
import Derived.Test.YtcackliabemecaaGreatDoorPlgMe
import Derived.Test.YtcackliabemecaaGreatDoorPlgMd
import Derived.Test.YtcackliabemecaaGreatDoorPmE
import Derived.Test.YtcackliabemecaaGreatDoorPmMb
/- A log's records, pure: a chain of records; what Append, Clear and Redo leave. -/
namespace Go.Proofs.YtcackliabemecaaGreatDoor
open Go.RowKit
set_option linter.unusedSimpArgs false
set_option linter.unusedVariables false
set_option maxRecDepth 100000

/-- from u on stand these records, up to u' -/
def Chain (b : List UInt8) : Nat → List (List PtM) → Nat → Prop
  | u, [], u' => u' = u
  | u, L :: rs, u' => ∃ n : Nat, decD (b.drop u) = (L, (n : Int), 0) ∧ Chain b (u + n) rs u'
theorem Chain.le {b : List UInt8} {u : Nat} {rs : List (List PtM)} {u' : Nat} (h : Chain b u rs u') (hu : u ≤ b.length) : u ≤ u' ∧ u' ≤ b.length := by
  induction rs generalizing u with
  | nil => cases h; exact ⟨Nat.le_refl _, hu⟩
  | cons L rs ih =>
    obtain ⟨n, h1, h2⟩ := h
    obtain ⟨m, e, h3, h4⟩ := decD_n (xs := b.drop u) (by rw [h1])
    rw [h1] at e
    change (n : Int) = m at e
    rw [List.length_drop] at h4
    have := ih h2 (by omega)
    omega
theorem Chain.snoc {b : List UInt8} {u u' n : Nat} {rs : List (List PtM)} {L : List PtM} (h : Chain b u rs u') (hd : decD (b.drop u') = (L, (n : Int), 0)) : Chain b u (rs ++ [L]) (u' + n) := by
  induction rs generalizing u with
  | nil => cases h; exact ⟨n, hd, rfl⟩
  | cons K rs ih =>
    obtain ⟨m, h1, h2⟩ := h
    exact ⟨m, h1, ih h2⟩
theorem decD_mod {xs : List UInt8} {L : List PtM} {n : Nat} (h : decD xs = (L, (n : Int), 0)) : n % 8 = 0 := by
  rw [decD_decR] at h
  unfold decR at h
  split at h
  · cases h
  · split at h
    · cases h
    · next k _ _ =>
      cases hg : getsR xs k 2 [] with
      | inl e =>
        rw [hg] at h
        change (([] : List PtM), (0 : Int), e) = _ at h
        have : (0 : Int) = n := congrArg (fun x => x.2.1) h
        omega
      | inr r =>
        rw [hg] at h
        change endR xs r.1 r.2 = _ at h
        unfold endR at h
        split at h
        · cases h
        · split at h
          · cases h
          · split at h
            · cases h
            · split at h
              · have : ((r.2 + 4 + pad8 (r.2 + 4) : Nat) : Int) = (n : Int) := congrArg (fun x => x.2.1) h
                have h2 : r.2 + 4 + pad8 (r.2 + 4) = n := by omega
                rw [← h2]; unfold pad8; omega
              · cases h
theorem Chain.mod {b : List UInt8} {u : Nat} {rs : List (List PtM)} {u' : Nat} (h : Chain b u rs u') (hu : u % 8 = 0) : u' % 8 = 0 := by
  induction rs generalizing u with
  | nil => cases h; exact hu
  | cons L rs ih =>
    obtain ⟨n, h1, h2⟩ := h
    have := decD_mod h1
    exact ih h2 (by omega)
theorem Chain.local {b c : List UInt8} {u : Nat} {rs : List (List PtM)} {u' : Nat} (h : Chain b u rs u') (hu : u ≤ b.length) (e : b.take u' = c.take u') (hc : u' ≤ c.length) : Chain c u rs u' := by
  induction rs generalizing u with
  | nil => exact h
  | cons L rs ih =>
    obtain ⟨n, h1, h2⟩ := h
    obtain ⟨m, em, h3, h4⟩ := decD_n (xs := b.drop u) (by rw [h1])
    rw [h1] at em
    change (n : Int) = m at em
    rw [List.length_drop] at h4
    have hl := h2.le (by omega)
    have e2 : (b.drop u).take n = (c.drop u).take n := by
      have : ∀ zs : List UInt8, (zs.drop u).take n = ((zs.take u').drop u).take n := fun zs => by rw [List.drop_take, List.take_take, Nat.min_eq_left (by omega)]
      rw [this b, this c, e]
    refine ⟨n, ?_, ih h2 (by omega)⟩
    rw [decD_decR] at h1 ⊢
    exact decR_local h1 e2 (by rw [List.length_drop]; omega) (by rw [List.length_drop]; omega)
theorem readR_chain (b : List UInt8) (k u : Nat) (acc : List (List PtM)) (hu : u ≤ b.length) (hk : b.length < u + 8 * k) : ∃ rs u', readR b k u acc = (acc ++ rs, u') ∧ Chain b u rs u' ∧ (decD (b.drop u')).2.2 ≠ 0 := by
  induction k generalizing u acc with
  | zero => omega
  | succ k ih =>
    unfold readR
    by_cases h : (decD (b.drop u)).2.2 = 0
    · rw [if_pos h]
      obtain ⟨n, hn, h1, h2⟩ := decD_n h
      rw [List.length_drop] at h2
      rw [hn, Int.toNat_natCast]
      obtain ⟨rs, u', e, hc, hs⟩ := ih (u + n) (acc ++ [(decD (b.drop u)).1]) (by omega) (by omega)
      refine ⟨(decD (b.drop u)).1 :: rs, u', by rw [e, List.append_assoc]; rfl, ⟨n, ?_, hc⟩, hs⟩
      rw [← hn, ← h]
    · rw [if_neg h]
      exact ⟨[], u, by rw [List.append_nil], rfl, h⟩
theorem readL_chain (b : List UInt8) : Chain b 0 (readL b).1 (readL b).2 ∧ (decD (b.drop (readL b).2)).2.2 ≠ 0 := by
  obtain ⟨rs, u', e, h⟩ := readR_chain b (b.length + 1) 0 [] (Nat.zero_le _) (by omega)
  rw [List.nil_append] at e
  unfold readL
  rw [e]
  exact h
theorem Chain.det {b : List UInt8} {u : Nat} {rs rs' : List (List PtM)} {v v' : Nat} (h : Chain b u rs v) (h' : Chain b u rs' v') (s : (decD (b.drop v)).2.2 ≠ 0) (s' : (decD (b.drop v')).2.2 ≠ 0) : rs = rs' ∧ v = v' := by
  induction rs generalizing u rs' with
  | nil =>
    cases h
    cases rs' with
    | nil => cases h'; exact ⟨rfl, rfl⟩
    | cons L rs' => obtain ⟨n, h1, _⟩ := h'; exact absurd (by rw [h1]) s
  | cons L rs ih =>
    obtain ⟨n, h1, h2⟩ := h
    cases rs' with
    | nil => cases h'; exact absurd (by rw [h1]) s'
    | cons L' rs' =>
      obtain ⟨n', h1', h2'⟩ := h'
      rw [h1] at h1'
      have e1 : L = L' := congrArg (fun x => x.1) h1'
      have e2 : (n : Int) = n' := congrArg (fun x => x.2.1) h1'
      have e3 : n = n' := by omega
      subst e1 e3
      obtain ⟨q1, q2⟩ := ih h2 h2'
      exact ⟨by rw [q1], q2⟩
theorem readL_of {b : List UInt8} {rs : List (List PtM)} {u : Nat} (h : Chain b 0 rs u) (s : (decD (b.drop u)).2.2 ≠ 0) : readL b = (rs, u) := by
  obtain ⟨h1, s1⟩ := readL_chain b
  obtain ⟨q1, q2⟩ := h1.det h s1 s
  exact Prod.ext q1 q2
theorem decD_nil : decD [] = ([], 0, 3) := by
  rw [decD_decR]
  have g : getF ([] : List UInt8) 0 2 = none := getF_outP (a := 0) (k := 2) (by show 0 < 0 + 2; omega)
  unfold decR
  rw [g]
/-- the bytes of the records, and one more behind them -/
theorem readL_app (b : List UInt8) {L : List PtM} (h : encOk L = true) : readL (b.take (readL b).2 ++ encL L) = ((readL b).1 ++ [L], (readL b).2 + (encL L).length) := by
  obtain ⟨hc, _⟩ := readL_chain b
  have hl := (hc.le (Nat.zero_le _)).2
  have hlt : (b.take (readL b).2).length = (readL b).2 := by rw [List.length_take]; omega
  refine readL_of (Chain.snoc (hc.local (Nat.zero_le _) ?_ ?_) ?_) ?_
  · rw [List.take_left' hlt]
  · rw [List.length_append]; omega
  · rw [List.drop_left' hlt]
    have := decD_enc h []
    rwa [List.append_nil] at this
  · rw [List.drop_eq_nil_of_le (by rw [List.length_append]; omega), decD_nil]
    show (3 : Int) ≠ 0
    omega
theorem readL_nil : readL [] = ([], 0) := readL_of rfl (by rw [List.drop_nil, decD_nil]; show (3 : Int) ≠ 0; omega)

/-! memory -/
def stV (V : List UInt8) (p : PtM) : List UInt8 := if 0 ≤ p.at_ ∧ p.at_ + p.d.length ≤ V.length then splice V p.at_.toNat p.d else V
theorem inM_iff (M : MemM) (a : Int) (n : Nat) : inM M a (n : Int) = true ↔ 0 ≤ a ∧ a + n ≤ M.V.length := by
  unfold inM
  rw [decide_eq_true_iff]
  omega
theorem wStep_V (M : MemM) (p : PtM) : (wStep M p).V = stV M.V p := by
  unfold wStep stV
  by_cases h : inM M p.at_ p.d.length = true
  · have h2 := (inM_iff _ _ _).1 h
    rw [if_pos h, if_pos h2]
    unfold flushU storeU
    rw [if_pos h]
    split <;> rfl
  · have h2 := fun q => h ((inM_iff _ _ _).2 q)
    rw [if_neg h, if_neg h2]
theorem stV_len (V : List UInt8) (p : PtM) : (stV V p).length = V.length := by
  unfold stV; split
  · exact length_splice _ _ _ (by omega)
  · rfl
theorem foldW_V (L : List PtM) (M : MemM) : (L.foldl wStep M).V = L.foldl stV M.V := by
  induction L generalizing M with
  | nil => rfl
  | cons p L ih => rw [List.foldl_cons, List.foldl_cons, ih, wStep_V]
theorem writeM_V (M : MemM) (L : List PtM) : (writeM M L).V = L.foldl stV M.V := foldW_V L M
theorem foldV_len (L : List PtM) (V : List UInt8) : (L.foldl stV V).length = V.length := by
  induction L generalizing V with
  | nil => rfl
  | cons p L ih => rw [List.foldl_cons, ih, stV_len]
theorem writeM_len (M : MemM) (L : List PtM) : (writeM M L).V.length = M.V.length := by rw [writeM_V, foldV_len]
theorem wStep_ok {M : MemM} (h : M.ok) (p : PtM) : (wStep M p).ok := by
  unfold wStep
  by_cases hi : inM M p.at_ p.d.length = true
  · have h2 := (inM_iff _ _ _).1 hi
    rw [if_pos hi]
    have hs : (storeU M p.at_ p.d).ok := by
      unfold storeU; rw [if_pos hi]; exact storeM_ok h (by omega)
    unfold flushU
    split
    · exact flushM_ok hs _ _
    · exact hs
  · rw [if_neg hi]; exact h
theorem foldW_ok (L : List PtM) {M : MemM} (h : M.ok) : (L.foldl wStep M).ok := by
  induction L generalizing M with
  | nil => exact h
  | cons p L ih => exact ih (wStep_ok h p)
theorem writeM_ok {M : MemM} (h : M.ok) (L : List PtM) : (writeM M L).ok := fenceM_ok (foldW_ok L h)
/-- whatever is dirty is on its way -/
def Warm (M : MemM) : Prop := ∀ k, k < M.A.length → dirtyB M.V M.D k = true → M.A.getD k false = true
theorem warm_of {M : MemM} (h : M.D = M.V) : Warm M := by
  intro k _ hd
  unfold dirtyB at hd
  rw [h] at hd
  exact absurd rfl (of_decide_eq_true hd)
theorem fence_warm {M : MemM} (h : M.ok) (hw : Warm M) : (fenceM M).D = (fenceM M).V := by
  obtain ⟨h1, h2, h3, h4, h5⟩ := h
  unfold fenceM
  refine list8_ext (by rw [mixF_len]; exact h1) fun i hi => ?_
  dsimp only at hi ⊢
  rw [mixF_get _ _ _ (by omega)]
  by_cases ha : M.A.getD (i / 8) false = true
  · rw [if_pos ha]
  · rw [if_neg ha]
    have hd : ¬ dirtyB M.V M.D (i / 8) = true := fun q => ha (hw _ (by omega) q)
    have he : cell8 M.V (i / 8) = cell8 M.D (i / 8) := by
      refine Classical.byContradiction fun q => hd ?_
      exact decide_eq_true q
    have e1 := cell8_get (X := M.V) (k := i / 8) (i := i % 8) (by omega)
    have e2 := cell8_get (X := M.D) (k := i / 8) (i := i % 8) (by omega)
    rw [show 8 * (i / 8) + i % 8 = i by omega] at e1 e2
    rw [← e1, ← e2, he]
theorem wStep_warm {M : MemM} (h : M.ok) (hw : Warm M) (p : PtM) : Warm (wStep M p) := by
  unfold wStep
  by_cases hi : inM M p.at_ p.d.length = true
  · have h2 := (inM_iff _ _ _).1 hi
    rw [if_pos hi]
    have hs : storeU M p.at_ p.d = storeM M p.at_.toNat p.d := if_pos hi
    have hi2 : inM (storeM M p.at_.toNat p.d) p.at_ (p.d.length : Int) = true := by
      rw [inM_iff]
      show 0 ≤ p.at_ ∧ p.at_ + _ ≤ ((splice M.V p.at_.toNat p.d).length : Int)
      rw [length_splice _ _ _ (by omega)]; exact h2
    rw [hs]
    unfold flushU
    rw [if_pos hi2, Int.toNat_natCast]
    obtain ⟨g1, g2, g3, g4, g5⟩ := h
    intro k hk hd
    change k < (tabF _ _).length at hk
    change k < (tabF (tabF _ _).length _).length at hk
    rw [tabF_len, tabF_len] at hk
    change dirtyB (splice M.V p.at_.toNat p.d) M.D k = true at hd
    show (tabF (tabF _ _).length _).getD k false = true
    rw [tabF_len, tabF_get _ hk]
    show ((tabF M.A.length _).getD k false || (inT p.at_.toNat p.d.length 64 (k / 8) && dirtyB (splice M.V p.at_.toNat p.d) M.D k)) = true
    rw [hd, Bool.and_true, tabF_get _ hk]
    by_cases ht : inT p.at_.toNat p.d.length 8 k = true
    · have : inT p.at_.toNat p.d.length 64 (k / 8) = true := by
        unfold inT at ht ⊢
        rw [decide_eq_true_iff] at ht ⊢
        omega
      rw [this, Bool.or_true]
    · have hf : inT p.at_.toNat p.d.length 8 k = false := by simpa using ht
      have hsame : cell8 (splice M.V p.at_.toNat p.d) k = cell8 M.V k := by
        unfold inT at hf
        rw [decide_eq_false_iff_not] at hf
        refine list8_ext ?_ fun i hi => ?_
        · unfold cell8; rw [List.length_take, List.length_take, List.length_drop, List.length_drop, length_splice _ _ _ (by omega)]
        · rw [cell8_len (by omega)] at hi
          rw [cell8_get hi, cell8_get hi, getD_splice _ _ _ (by omega), if_neg (by omega)]
      have hd2 : dirtyB M.V M.D k = true := by
        unfold dirtyB at hd ⊢
        rwa [hsame] at hd
      rw [hw k hk hd2, hf]
      rfl
  · rw [if_neg hi]; exact hw
theorem foldW_warm (L : List PtM) {M : MemM} (h : M.ok) (hw : Warm M) : Warm (L.foldl wStep M) := by
  induction L generalizing M with
  | nil => exact hw
  | cons p L ih => exact ih (wStep_ok h p) (wStep_warm h hw p)
theorem writeM_D {M : MemM} (h : M.ok) (hw : Warm M) (L : List PtM) : (writeM M L).D = (writeM M L).V := fence_warm (foldW_ok L h) (foldW_warm L h hw)
/-! the end -/
theorem putF8 (n : Nat) : putF [] (n : Int) 8 = le 8 n := by
  have f : fitsB (n : Int) 8 = true := by unfold fitsB; simp
  exact (if_pos f).trans (List.nil_append _)
theorem endL_at {V : List UInt8} {at_ size n : Nat} (h : (V.drop at_).take 8 = le 8 n) (hn : n ≤ size - 8) (hs : size ≤ 65536) : endL V at_ size = n := by
  have g : getF (le 8 n) 0 8 = some n := by
    unfold getF
    rw [if_pos ⟨rfl, by omega, by rw [le_length]; omega⟩]
    show (if ofLE (((le 8 n).drop 0).take 8) ≤ _ then some (ofLE (((le 8 n).drop 0).take 8)) else none) = _
    rw [List.drop_zero, List.take_of_length_le (by rw [le_length]; omega), ofLE_leP 8 n (by omega), if_pos (by omega)]
  unfold endL
  rw [h, g]
  exact if_pos hn
theorem setM_V {M : MemM} {at_ n : Nat} (h : at_ + 8 ≤ M.V.length) : (setM M at_ (n : Int)).V = splice M.V at_ (le 8 n) := by
  unfold setM
  rw [writeM_V]
  show stV M.V ⟨(at_ : Int), putF [] (n : Int) 8⟩ = _
  rw [putF8]
  unfold stV
  dsimp only
  rw [if_pos (by rw [le_length]; omega), Int.toNat_natCast]
theorem take_splice_at {V b : List UInt8} {q n : Nat} (h : q + b.length ≤ V.length) (hn : b.length = n) : ((splice V q b).drop q).take n = b := by
  subst hn
  unfold splice
  have hq : (V.take q).length = q := by rw [List.length_take]; omega
  rw [List.drop_left' hq, List.take_left]
/-- bytes elsewhere stay -/
theorem sl_splice {V b : List UInt8} {q a n : Nat} (h : q + b.length ≤ V.length) (ho : a + n ≤ q ∨ q + b.length ≤ a) (ha : a + n ≤ V.length) : ((splice V q b).drop a).take n = (V.drop a).take n := by
  refine list8_ext ?_ fun i hi => ?_
  · rw [List.length_take, List.length_take, List.length_drop, List.length_drop, length_splice _ _ _ h]
  · rw [List.length_take, List.length_drop] at hi
    have e : ∀ Z : List UInt8, ((Z.drop a).take n).getD i 0 = Z.getD (a + i) 0 := fun Z => by
      simp only [List.getD_eq_getElem?_getD, List.getElem?_take, List.getElem?_drop, if_pos (show i < n by omega)]
    rw [e, e, getD_splice _ _ _ h, if_neg (by omega)]
theorem endL_setM {M : MemM} {at_ size n : Nat} (hok : LogOk at_ size M) (hn : n ≤ size - 8) : endL (setM M at_ (n : Int)).V at_ size = n := by
  obtain ⟨s1, s2, s3, s4⟩ := hok
  rw [setM_V (by omega)]
  exact endL_at (take_splice_at (by rw [le_length]; omega) (le_length 8 n)) hn s2
theorem body_setM {M : MemM} {at_ size n : Nat} (hok : LogOk at_ size M) (hn : n ≤ size - 8) : bodyL (setM M at_ (n : Int)).V at_ size = (M.V.drop (at_ + 8)).take n := by
  have he := endL_setM hok hn
  obtain ⟨s1, s2, s3, s4⟩ := hok
  unfold bodyL
  rw [he, setM_V (by omega)]
  exact sl_splice (by rw [le_length]; omega) (.inr (by rw [le_length]; omega)) (by omega)
theorem logOk_congr {at_ size : Nat} {M M' : MemM} (h : LogOk at_ size M) (e : M'.V.length = M.V.length) : LogOk at_ size M' := ⟨h.s1, h.s2, by rw [e]; exact h.a, by rw [e]; exact h.v⟩
theorem logR_chain (V : List UInt8) (at_ size : Nat) (h : at_ + size ≤ V.length) (h8 : 8 ≤ size) : (logR V at_ size).2 ≤ endL V at_ size ∧ (logR V at_ size).2 % 8 = 0 := by
  obtain ⟨hc, _⟩ := readL_chain (bodyL V at_ size)
  have h1 := hc.le (Nat.zero_le _)
  have h2 := hc.mod rfl
  have h3 : (bodyL V at_ size).length = endL V at_ size := by
    have := endL_le V at_ size
    unfold bodyL
    rw [List.length_take, List.length_drop]; omega
  exact ⟨by rw [← h3]; exact h1.2, h2⟩
theorem app_V {V b : List UInt8} {q : Nat} (h : q + b.length ≤ V.length) : [(⟨(q : Int), b⟩ : PtM)].foldl stV V = splice V q b := by
  show stV V _ = _
  unfold stV
  dsimp only
  rw [if_pos (by omega), Int.toNat_natCast]
theorem app_sl {V b : List UInt8} {at_ u e : Nat} (hV : at_ + 8 + u + b.length ≤ V.length) (hu : u ≤ e) : ((splice V (at_ + 8 + u) b).drop (at_ + 8)).take (u + b.length) = ((V.drop (at_ + 8)).take e).take u ++ b := by
  rw [List.take_add, List.take_take, Nat.min_eq_left hu, List.drop_drop, take_splice_at hV rfl, sl_splice hV (.inl (Nat.le_refl _)) (by omega)]
theorem logR_append {M : MemM} {at_ size : Nat} {L : List PtM} (hok : LogOk at_ size M) (h : encOk L = true) {u : Nat} (hu0 : (logR M.V at_ size).2 = u) {eb : List UInt8} (heb : encL L = eb) (hf : u + eb.length ≤ size - 8) :
    logR (setM (writeM M [⟨((at_ + 8 + u : Nat) : Int), eb⟩]) at_ ((u + eb.length : Nat) : Int)).V at_ size = ((logR M.V at_ size).1 ++ [L], u + eb.length) := by
  have hok2 := hok
  obtain ⟨s1, s2, s3, s4⟩ := hok2
  have hu := (logR_chain M.V at_ size s3 (by omega)).1
  rw [hu0] at hu
  have hV : (writeM M [⟨((at_ + 8 + u : Nat) : Int), eb⟩]).V = splice M.V (at_ + 8 + u) eb := by
    rw [writeM_V]
    exact app_V (by omega)
  have hb := readL_app (bodyL M.V at_ size) h
  have e1 : (readL (bodyL M.V at_ size)).2 = u := hu0
  rw [e1, heb] at hb
  have e2 := app_sl (V := M.V) (b := eb) (at_ := at_) (u := u) (e := endL M.V at_ size) (by omega) hu
  have e3 := body_setM (M := writeM M [⟨((at_ + 8 + u : Nat) : Int), eb⟩]) (logOk_congr hok (writeM_len _ _)) hf
  rw [hV, e2] at e3
  unfold logR
  rw [e3]
  exact hb
end Go.Proofs.YtcackliabemecaaGreatDoor
/- plog.New; where a log may be. -/
namespace Go.Proofs.YtcackliabemecaaGreatDoor
open Go.RowKit
set_option linter.unusedSimpArgs false
set_option linter.unusedVariables false
set_option maxRecDepth 100000

def mayL (n at_ size : Int) : Prop := 128 ≤ size ∧ size ≤ 65536 ∧ size % 64 = 0 ∧ 0 ≤ at_ ∧ at_ % 64 = 0 ∧ at_ ≤ n - size
instance (n at_ size : Int) : Decidable (mayL n at_ size) := by unfold mayL; infer_instance
/-- what New tells -/
def NewLP (w : World) (g : Nat) (n at_ size : Int) (e : Ending) (w' : World) : Prop :=
  if mayL n at_ size then ∃ lg, e = .returned (.pointer (some ⟨lg, 0, none⟩)) ∧ Blk w' lg 74 (logC g at_.toNat size.toNat) ∧ w.heap.size ≤ lg ∧ Below w.heap.size w w' else e = .returned (.pointer none) ∧ w = w'
theorem newLP_yes {w W : World} {g : Nat} {n at_ size : Int} (h : mayL n at_ size) {lg : Nat} (hb : Blk W lg 74 [.pointer (some ⟨g, 0, none⟩), .int .i64 at_, .int .i64 size]) (hl : w.heap.size ≤ lg) (b : Below w.heap.size w W) : NewLP w g n at_ size (.returned (.pointer (some ⟨lg, 0, none⟩))) W := by
  unfold NewLP
  rw [if_pos h]
  refine ⟨lg, rfl, ?_, hl, b⟩
  obtain ⟨h1, h2, h3, h4, h5, h6⟩ := h
  unfold logC
  rw [Int.toNat_of_nonneg h4, Int.toNat_of_nonneg (by omega)]
  exact hb
theorem newLP_no {w : World} {g : Nat} {n at_ size : Int} (h : ¬ mayL n at_ size) : NewLP w g n at_ size (.returned (.pointer none)) w := by
  unfold NewLP; rw [if_neg h]; exact ⟨rfl, rfl⟩

set_option maxHeartbeats 8000000 in
theorem newL_any {w : World} {g v d p : Nat} {M : MemM} (h : MemP w g v d p M) (at_ size : Int) (ha : i64B at_) (hs : i64B size) (hM : M.V.length ≤ 1048576) :
    Calls Tryz.prog 17 #[.pointer (some ⟨g, 0, none⟩), .int .i64 at_, .int .i64 size] w (NewLP w g M.V.length at_ size) := by
  have HS := hid (size_any h)
  obtain ⟨m, hm⟩ : ∃ m : Nat, m = M.V.length := ⟨_, rfl⟩
  rw [← hm] at HS hM ⊢
  clear hm h
  unfold i64B at ha hs
  by_cases c1 : size < 128
  · have HE := hid (newLP_no (w := w) (g := g) (n := m) (at_ := at_) (size := size) (by unfold mayL; omega))
    have d1 : decide (size < 128) = true := decide_eq_true c1
    clear ha hs
    go_enter Tryz.func17, Tryz.ntmps17
    go_wp2
    go_ret
    exact HE.out
  have d1 : decide (size < 128) = false := decide_eq_false c1
  by_cases c2 : 65536 < size
  · have HE := hid (newLP_no (w := w) (g := g) (n := m) (at_ := at_) (size := size) (by unfold mayL; omega))
    have d2 : decide (65536 < size) = true := decide_eq_true c2
    clear ha hs
    go_enter Tryz.func17, Tryz.ntmps17
    go_wp2
    go_ret
    exact HE.out
  have d2 : decide (65536 < size) = false := decide_eq_false c2
  have e1 : size.tmod 64 = size % 64 := Int.tmod_eq_emod_of_nonneg (by omega)
  have e2 : IntKind.i64.wrap (size % 64) = size % 64 := IntWalk.i64_in _ (by omega)
  by_cases c3 : size % 64 = 0
  case neg =>
    have HE := hid (newLP_no (w := w) (g := g) (n := m) (at_ := at_) (size := size) (by unfold mayL; omega))
    clear ha hs
    generalize size % 64 = r at *
    have d3 : (r != 0) = true := by simpa using c3
    go_enter Tryz.func17, Tryz.ntmps17
    go_wp2
    go_ret
    exact HE.out
  by_cases c4 : at_ < 0
  · have HE := hid (newLP_no (w := w) (g := g) (n := m) (at_ := at_) (size := size) (by unfold mayL; omega))
    have d4 : decide (at_ < 0) = true := decide_eq_true c4
    clear ha hs
    rw [c3] at e1 e2
    clear c3
    go_enter Tryz.func17, Tryz.ntmps17
    go_wp2
    go_ret
    exact HE.out
  have d4 : decide (at_ < 0) = false := decide_eq_false c4
  have e3 : at_.tmod 64 = at_ % 64 := Int.tmod_eq_emod_of_nonneg (by omega)
  have e4 : IntKind.i64.wrap (at_ % 64) = at_ % 64 := IntWalk.i64_in _ (by omega)
  by_cases c5 : at_ % 64 = 0
  case neg =>
    have HE := hid (newLP_no (w := w) (g := g) (n := m) (at_ := at_) (size := size) (by unfold mayL; omega))
    clear ha hs
    rw [c3] at e1 e2
    clear c3
    generalize at_ % 64 = r at *
    have d5 : (r != 0) = true := by simpa using c5
    go_enter Tryz.func17, Tryz.ntmps17
    go_wp2
    go_ret
    exact HE.out
  have e5 : IntKind.i64.wrap ((m : Int) - size) = (m : Int) - size := IntWalk.i64_in _ (by omega)
  by_cases c6 : (m : Int) - size < at_
  · have HE := hid (newLP_no (w := w) (g := g) (n := m) (at_ := at_) (size := size) (by unfold mayL; omega))
    have d6 : decide ((m : Int) - size < at_) = true := decide_eq_true c6
    clear ha hs
    rw [c3] at e1 e2
    rw [c5] at e3 e4
    clear c3 c5
    go_enter Tryz.func17, Tryz.ntmps17
    go_wp2_with (go_at_call 35; refine HS.out.mono ?_; rintro e w1 ⟨rfl, rfl⟩)
    go_ret
    exact HE.out
  have d6 : decide ((m : Int) - size < at_) = false := decide_eq_false c6
  have HM : Hid (mayL m at_ size) := hid (by unfold mayL; omega)
  clear ha hs
  rw [c3] at e1 e2
  rw [c5] at e3 e4
  clear c3 c5
  go_enter Tryz.func17, Tryz.ntmps17
  go_wp2_with (go_at_call 35; refine HS.out.mono ?_; rintro e w1 ⟨rfl, rfl⟩)
  go_ret
  exact newLP_yes HM.out (blk_newO rfl _ _) (Nat.le_refl _) (albO w _)

/-! what stays -/
theorem setM_len (M : MemM) (at_ : Nat) (n : Int) : (setM M at_ n).V.length = M.V.length := writeM_len _ _
theorem appM_len (M : MemM) (at_ size : Nat) (L : List PtM) : (appM M at_ size L).V.length = M.V.length := by
  unfold appM; split
  · rw [setM_len, writeM_len]
  · rfl
theorem redoM_len (M : MemM) (at_ size : Nat) : (redoM M at_ size).V.length = M.V.length := by unfold redoM; rw [setM_len, writeM_len]
theorem appM_ok {M : MemM} (h : M.ok) (at_ size : Nat) (L : List PtM) : (appM M at_ size L).ok := by
  unfold appM; split
  · exact writeM_ok (writeM_ok h _) _
  · exact h
theorem setM_D {M : MemM} (h : M.ok) (e : M.D = M.V) (at_ : Nat) (n : Int) : (setM M at_ n).D = (setM M at_ n).V := writeM_D h (warm_of e) _
theorem appM_D {M : MemM} (h : M.ok) (e : M.D = M.V) (at_ size : Nat) (L : List PtM) : (appM M at_ size L).D = (appM M at_ size L).V := by
  unfold appM; split
  · exact setM_D (writeM_ok h _) (writeM_D h (warm_of e) _) _ _
  · exact e
theorem redoM_D {M : MemM} (h : M.ok) (e : M.D = M.V) (at_ size : Nat) : (redoM M at_ size).D = (redoM M at_ size).V := setM_D (writeM_ok h _) (writeM_D h (warm_of e) _) _ _
theorem logOk_app {at_ size : Nat} {M : MemM} (h : LogOk at_ size M) (L : List PtM) : LogOk at_ size (appM M at_ size L) := logOk_congr h (appM_len _ _ _ _)
/-- what Append leaves in the log -/
theorem logR_app {M : MemM} {at_ size : Nat} (hok : LogOk at_ size M) (L : List PtM) : logR (appM M at_ size L).V at_ size = if appE M at_ size L = 0 then ((logR M.V at_ size).1 ++ [L], (logR M.V at_ size).2 + (encL L).length) else logR M.V at_ size := by
  unfold appE appM
  by_cases he : encE L = 0
  · have hk : encOk L = true := by
      unfold encE at he
      by_cases q : encOk L = true
      · exact q
      · rw [if_neg q] at he; cases he
    by_cases hf : size - 8 < (logR M.V at_ size).2 + (encL L).length
    · rw [if_pos he, if_pos hf, if_neg (fun q => q.2 hf), if_neg (by omega)]
    · rw [if_pos he, if_neg hf, if_pos ⟨he, hf⟩, if_pos rfl]
      exact logR_append hok hk rfl rfl (by omega)
  · rw [if_neg he, if_neg (fun q => he q.1), if_neg he]
/-! the example -/
def exP : PtM := ⟨258, [5]⟩
def exQ : PtM := ⟨3, [120]⟩
def mem0 : MemM := newM 1024
theorem mem0_V : mem0.V = List.replicate 1024 0 := by unfold mem0 newM; rfl
theorem mem0_D : mem0.D = mem0.V := by unfold mem0 newM; rfl
theorem mem0_len : mem0.V.length = 1024 := by rw [mem0_V, List.length_replicate]
theorem mem0_ok : mem0.ok := newM_ok (n := 1024) ⟨by omega, by omega, by omega⟩
theorem log0 : LogOk 512 512 mem0 := ⟨by omega, by omega, by rw [mem0_len]; omega, by rw [mem0_len]; omega⟩
theorem endL0 : endL mem0.V 512 512 = 0 := by
  refine endL_at (n := 0) ?_ (Nat.zero_le _) (by omega)
  rw [mem0_V, List.drop_replicate, List.take_replicate]; rfl
theorem logR0 : logR mem0.V 512 512 = ([], 0) := by
  unfold logR bodyL
  rw [endL0, List.take_zero, readL_nil]
def mem1 : MemM := appM mem0 512 512 [exQ]
def mem2 : MemM := redoM mem1 512 512
theorem mem0_eq : newM (Int.toNat 1024) = mem0 := by unfold mem0; rfl
attribute [irreducible] mem0 mem1 mem2
end Go.Proofs.YtcackliabemecaaGreatDoor
/- The document's example of a log. -/
namespace Go.Proofs.YtcackliabemecaaGreatDoor
open Go.RowKit
set_option linter.unusedSimpArgs false
set_option linter.unusedVariables false
set_option maxRecDepth 100000

theorem new1024 (w : World) : Calls Tryz.prog 16 #[.int .i64 1024] w fun e w' => ∃ g v d p, e = .returned (.pointer (some ⟨g, 0, none⟩)) ∧ MemP w' g v d p mem0 ∧ (w.heap.size ≤ g ∧ w.heap.size ≤ v ∧ w.heap.size ≤ d ∧ w.heap.size ≤ p) ∧ Below w.heap.size w w' := by
  refine (newM_any 1024 w (by omega)).mono ?_
  intro e w' z
  unfold NewP at z
  rw [if_pos (by decide), mem0_eq] at z
  exact z
theorem newlog (w : World) {g v d p : Nat} (h : MemP w g v d p mem0) : Calls Tryz.prog 17 #[.pointer (some ⟨g, 0, none⟩), .int .i64 512, .int .i64 512] w fun e w' => ∃ lg, e = .returned (.pointer (some ⟨lg, 0, none⟩)) ∧ LogP w' lg g v d p 512 512 mem0 ∧ w.heap.size ≤ lg ∧ Below w.heap.size w w' := by
  refine (newL_any h 512 512 (by unfold i64B; omega) (by unfold i64B; omega) (by rw [mem0_len]; omega)).mono ?_
  intro e w' z
  unfold NewLP at z
  rw [if_pos (by rw [mem0_len]; decide)] at z
  obtain ⟨lg, rfl, hb, hl, b⟩ := z
  exact ⟨lg, rfl, ⟨hb, h.mono b⟩, hl, b⟩