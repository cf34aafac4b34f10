/- A crash within Commit, pure. -/
import Derived.Test.YtcackliabemecaaDoorTxnMc
namespace Go.Proofs.YtcackliabemecaaDoor
open Go.RowKit
set_option linter.unusedSimpArgs false
set_option linter.unusedVariables false
set_option maxRecDepth 100000

/-- a patch's bytes -/
def covers (p : PtM) (i : Nat) : Prop := p.at_ ≤ (i : Int) ∧ (i : Int) < p.at_ + p.d.length
def inR (p : PtM) : Bool := decide (0 ≤ p.at_ ∧ p.at_ + p.d.length ≤ 512)
theorem inR_iff (p : PtM) : inR p = true ↔ 0 ≤ p.at_ ∧ p.at_ + p.d.length ≤ 512 := by unfold inR; exact decide_eq_true_iff
theorem stV_get {V : List UInt8} {p : PtM} (h : inR p = true) (hl : V.length = 1024) (i : Nat) : (stV V p).getD i 0 = if p.at_.toNat ≤ i ∧ i < p.at_.toNat + p.d.length then p.d.getD (i - p.at_.toNat) 0 else V.getD i 0 := by
  obtain ⟨h1, h2⟩ := (inR_iff p).1 h
  unfold stV
  rw [if_pos ⟨h1, by omega⟩, getD_splice _ _ _ (by omega)]
theorem stV_l {V : List UInt8} (hl : V.length = 1024) (p : PtM) : (stV V p).length = 1024 := by rw [stV_len]; exact hl
theorem fold_eq (L : List PtM) {V V' : List UInt8} (hl : V.length = 1024) (hl' : V'.length = 1024) (hL : ∀ p ∈ L, inR p = true) (h : ∀ i, i < 1024 → V.getD i 0 = V'.getD i 0 ∨ ∃ p ∈ L, covers p i) : L.foldl stV V = L.foldl stV V' := by
  induction L generalizing V V' with
  | nil =>
    refine list8_ext (by rw [List.foldl_nil, List.foldl_nil, hl, hl']) fun i hi => ?_
    rw [List.foldl_nil] at hi
    rcases h i (by omega) with q | ⟨p, hp, _⟩
    · exact q
    · cases hp
  | cons p L ih =>
    rw [List.foldl_cons, List.foldl_cons]
    refine ih (stV_l hl p) (stV_l hl' p) (fun q hq => hL q (List.mem_cons_of_mem _ hq)) fun i hi => ?_
    have hp := hL p (List.mem_cons_self ..)
    obtain ⟨h1, h2⟩ := (inR_iff p).1 hp
    rw [stV_get hp hl, stV_get hp hl']
    by_cases hc : p.at_.toNat ≤ i ∧ i < p.at_.toNat + p.d.length
    · rw [if_pos hc, if_pos hc]; exact .inl rfl
    · rw [if_neg hc, if_neg hc]
      rcases h i hi with q | ⟨q, hq, hcov⟩
      · exact .inl q
      · rcases List.mem_cons.1 hq with rfl | hq
        · exact absurd (show q.at_.toNat ≤ i ∧ i < q.at_.toNat + q.d.length by unfold covers at hcov; omega) hc
        · exact .inr ⟨q, hq, hcov⟩
theorem foldV_cov (L : List PtM) {V : List UInt8} (hl : V.length = 1024) (hL : ∀ p ∈ L, inR p = true) (i : Nat) : (L.foldl stV V).getD i 0 = V.getD i 0 ∨ ∃ p ∈ L, covers p i := by
  induction L generalizing V with
  | nil => exact .inl rfl
  | cons p L ih =>
    have hp := hL p (List.mem_cons_self ..)
    obtain ⟨h1, h2⟩ := (inR_iff p).1 hp
    rw [List.foldl_cons]
    rcases ih (stV_l hl p) (fun q hq => hL q (List.mem_cons_of_mem _ hq)) with q | ⟨q, hq, hc⟩
    · rw [stV_get hp hl] at q
      by_cases hc : p.at_.toNat ≤ i ∧ i < p.at_.toNat + p.d.length
      · exact .inr ⟨p, List.mem_cons_self .., by unfold covers; omega⟩
      · rw [if_neg hc] at q; exact .inl q
    · exact .inr ⟨q, List.mem_cons_of_mem _ hq, hc⟩
theorem crash_mix {M : MemM} (h : M.ok) (P : List Int) : ∃ f : Nat → Bool, ∀ i, i < M.V.length → (crashM M P).V.getD i 0 = if f (i / 8) then M.V.getD i 0 else M.D.getD i 0 := by
  refine ⟨selF (dirtyL M) P (dirtyL M).length, fun i hi => ?_⟩
  show (crashD M P).getD i 0 = _
  unfold crashD
  exact mixF_get _ _ _ (by rw [h.1]; exact hi)
theorem crashM_len8 {M : MemM} (h : M.ok) (P : List Int) : (crashM M P).V.length = M.V.length := by
  show (crashD M P).length = _
  rw [crashD_len]; exact h.1
theorem log_high {V V' : List UInt8} (hl : V.length = 1024) (hl' : V'.length = 1024) (h : ∀ i, 512 ≤ i → i < 1024 → V'.getD i 0 = V.getD i 0) : logR V' 512 512 = logR V 512 512 := by
  have sl : ∀ a n, 512 ≤ a → (V'.drop a).take n = (V.drop a).take n := by
    intro a n ha
    refine list8_ext ?_ fun i hi => ?_
    · rw [List.length_take, List.length_take, List.length_drop, List.length_drop, hl, hl']
    · rw [List.length_take, List.length_drop] at hi
      have e : ∀ Z : List UInt8, ((Z.drop a).take n).getD i 0 = Z.getD (a + i) 0 := fun Z => by
        simp only [List.getD_eq_getElem?_getD, List.getElem?_take, List.getElem?_drop, if_pos (show i < n by omega)]
      rw [e, e, h _ (by omega) (by omega)]
  have e1 : endL V' 512 512 = endL V 512 512 := by
    unfold endL
    rw [sl 512 8 (by omega)]
  have e2 : bodyL V' 512 512 = bodyL V 512 512 := by
    unfold bodyL
    rw [e1, sl (512 + 8) _ (by omega)]
  unfold logR
  rw [e2]
theorem agree {V V' : List UInt8} {u : Nat} (hl : V.length = 1024) (hl' : V'.length = 1024) (hE : endL V 512 512 = u) (hu : u ≤ 504) (h : ∀ i, i < 520 + u → V'.getD i 0 = V.getD i 0) : logR V' 512 512 = logR V 512 512 := by
  have sl : ∀ a n, a + n ≤ 520 + u → (V'.drop a).take n = (V.drop a).take n := by
    intro a n han
    refine list8_ext ?_ fun i hi => ?_
    · rw [List.length_take, List.length_take, List.length_drop, List.length_drop, hl, hl']
    · rw [List.length_take, List.length_drop] at hi
      have e : ∀ Z : List UInt8, ((Z.drop a).take n).getD i 0 = Z.getD (a + i) 0 := fun Z => by
        simp only [List.getD_eq_getElem?_getD, List.getElem?_take, List.getElem?_drop, if_pos (show i < n by omega)]
      rw [e, e, h _ (by omega)]
  have e1 : endL V' 512 512 = endL V 512 512 := by
    unfold endL
    rw [sl 512 8 (by omega)]
  have e2 : bodyL V' 512 512 = bodyL V 512 512 := by
    unfold bodyL
    rw [e1, hE, sl (512 + 8) u (by omega)]
  unfold logR
  rw [e2]
theorem storeM_V (M : MemM) (q : Nat) (b : List UInt8) : (storeM M q b).V = splice M.V q b := by unfold storeM; rfl
theorem storeM_D (M : MemM) (q : Nat) (b : List UInt8) : (storeM M q b).D = M.D := by unfold storeM; rfl
theorem flushM_V (M : MemM) (q n : Nat) : (flushM M q n).V = M.V := by unfold flushM; rfl
theorem flushM_D (M : MemM) (q n : Nat) : (flushM M q n).D = M.D := by unfold flushM; rfl
theorem fenceM_V9 (M : MemM) : (fenceM M).V = M.V := by unfold fenceM; rfl
/-- the bytes stored, flushed and fenced by hand -/
theorem writeM_one9 {M : MemM} {q : Nat} {b : List UInt8} (h : q + b.length ≤ M.V.length) : writeM M [⟨(q : Int), b⟩] = fenceM (flushM (storeM M q b) q b.length) := by
  unfold writeM
  have h1 : inM M (q : Int) b.length = true := (inM_iff M _ _).2 (by omega)
  have hs : storeU M (q : Int) b = storeM M q b := by unfold storeU; rw [if_pos h1, Int.toNat_natCast]
  have h2 : inM (storeM M q b) (q : Int) b.length = true := (inM_iff _ _ _).2 (by rw [storeM_V, length_splice _ _ _ h]; omega)
  show fenceM (wStep M ⟨(q : Int), b⟩) = _
  unfold wStep
  dsimp only
  rw [if_pos h1, hs]
  unfold flushU
  rw [if_pos h2, Int.toNat_natCast, Int.toNat_natCast]
def Y1 (eb : List UInt8) (k : Nat) : MemM := if 0 < k then fenceM (flushM (storeM mem0 520 eb) 520 eb.length) else storeM mem0 520 eb
def Y2 (eb : List UInt8) (k : Nat) : MemM := if 1 < k then storeM (Y1 eb k) 512 (le 8 eb.length) else Y1 eb k
def Y3 (eb : List UInt8) (k : Nat) : MemM := if 2 < k then fenceM (flushM (Y2 eb k) 512 8) else Y2 eb k
def Y4 (eb : List UInt8) (p : PtM) (k : Nat) : MemM := if 3 < k then storeM (Y3 eb k) p.at_.toNat p.d else Y3 eb k
section
variable {eb : List UInt8} {C : List PtM} {p0 : PtM}
theorem Y1_len (hf : eb.length ≤ 504) (k : Nat) : (Y1 eb k).V.length = 1024 := by
  have h : (storeM mem0 520 eb).V.length = 1024 := by rw [storeM_V, length_splice _ _ _ (by rw [mem0_len]; omega), mem0_len]
  unfold Y1; split
  · rw [fenceM_V9, flushM_V]; exact h
  · exact h
theorem Y2_len (hf : eb.length ≤ 504) (k : Nat) : (Y2 eb k).V.length = 1024 := by
  have h := Y1_len hf k
  unfold Y2; split
  · rw [storeM_V, length_splice _ _ _ (by rw [le_length]; omega), h]
  · exact h
theorem Y3_len (hf : eb.length ≤ 504) (k : Nat) : (Y3 eb k).V.length = 1024 := by
  have h := Y2_len hf k
  unfold Y3; split
  · rw [fenceM_V9, flushM_V]; exact h
  · exact h
theorem Y4_len (hf : eb.length ≤ 504) (hp : inR p0 = true) (k : Nat) : (Y4 eb p0 k).V.length = 1024 := by
  have h := Y3_len hf k
  obtain ⟨h1, h2⟩ := (inR_iff p0).1 hp
  unfold Y4; split
  · rw [storeM_V, length_splice _ _ _ (by omega), h]
  · exact h
theorem end0 : endL mem0.V 512 512 = 0 := by
  unfold endL
  rw [mem0_V, List.drop_replicate, List.take_replicate]
  rfl
/-- what Redo leaves where the log has nothing -/
theorem redo_none {M : MemM} (hok : M.ok) (hD : M.D = M.V) (hl : M.V.length = 1024) (hn : (logR M.V 512 512).1 = []) : (redoM M 512 512).D.take 512 = M.V.take 512 := by
  rw [redoM_D hok hD]
  unfold redoM
  rw [hn, show setM (writeM M ([] : List (List PtM)).flatten) 512 0 = setM (writeM M []) 512 ((0 : Nat) : Int) from rfl, setM_V (by rw [writeM_len]; omega), writeM_V]
  rw [List.foldl_nil]
  have z := sl_splice (V := M.V) (b := le 8 0) (q := 512) (a := 0) (n := 512) (by rw [le_length]; omega) (.inl (by omega)) (by omega)
  rw [List.drop_zero, List.drop_zero] at z
  exact z
/-- what Redo leaves where it has the record -/
theorem redo_one {M : MemM} (hok : M.ok) (hD : M.D = M.V) (hl : M.V.length = 1024) (hn : (logR M.V 512 512).1 = [C]) : (redoM M 512 512).D = splice (C.foldl stV M.V) 512 (le 8 0) := by
  rw [redoM_D hok hD]
  unfold redoM
  rw [hn, show setM (writeM M [C].flatten) 512 0 = setM (writeM M [C].flatten) 512 ((0 : Nat) : Int) from rfl, setM_V (by rw [writeM_len]; omega), writeM_V]
  simp
set_option maxHeartbeats 2000000 in
theorem whole (hC : encOk C = true) (heb : encL C = eb) (hin : ∀ p ∈ C, inR p = true) (hp0 : p0 ∈ C) (hf : eb.length ≤ 504) (k : Nat) (hk : k ≤ 4) (hok4 : (Y4 eb p0 k).ok) (P : List Int) :
    ((logR (crashM (Y4 eb p0 k) P).V 512 512).1.length = 1 ∧ (redoM (crashM (Y4 eb p0 k) P) 512 512).D = (redoM (appM mem0 512 512 C) 512 512).D ∧ 1 < k) ∨
    ((logR (crashM (Y4 eb p0 k) P).V 512 512).1.length = 0 ∧ (redoM (crashM (Y4 eb p0 k) P) 512 512).D.take 512 = mem0.V.take 512 ∧ k < 3) := by
  have l0 := mem0_len
  have hq : 520 + eb.length ≤ mem0.V.length := by omega
  have hlog : LogOk 512 512 mem0 := ⟨by omega, by omega, by omega, by omega⟩
  obtain ⟨A, hA⟩ : ∃ A, A = appM mem0 512 512 C := ⟨_, rfl⟩
  have hE : appE mem0 512 512 C = 0 := by
    unfold appE encE
    rw [if_pos hC, if_pos rfl, logR0, heb, if_neg (by omega)]
  have hAlog : logR A.V 512 512 = ([C], eb.length) := by
    rw [hA, logR_app hlog, if_pos hE, logR0, heb]
    show ([] ++ [C], 0 + eb.length) = _
    rw [List.nil_append, Nat.zero_add]
  have hAok : A.ok := by rw [hA]; exact appM_ok mem0_ok _ _ _
  have hAD : A.D = A.V := by rw [hA]; exact appM_D mem0_ok mem0_D _ _ _
  obtain ⟨M3, hM3⟩ : ∃ M, M = fenceM (flushM (storeM mem0 520 eb) 520 eb.length) := ⟨_, rfl⟩
  have w3 : M3 = writeM mem0 [⟨((520 : Nat) : Int), eb⟩] := by rw [hM3]; exact (writeM_one9 hq).symm
  have ok3 : M3.ok := by rw [w3]; exact writeM_ok mem0_ok _
  have D3 : M3.D = M3.V := by rw [w3]; exact writeM_D mem0_ok (warm_of mem0_D) _
  have V3 : M3.V = splice mem0.V 520 eb := by rw [w3, writeM_V]; exact app_V hq
  have l3 : M3.V.length = 1024 := by rw [V3, length_splice _ _ _ hq, l0]
  have hAM : A = fenceM (flushM (storeM M3 512 (le 8 eb.length)) 512 8) := by
    rw [hA]
    unfold appM
    rw [logR0, heb, if_pos ⟨by unfold encE; rw [if_pos hC], by omega⟩]
    show setM (writeM mem0 [⟨((520 : Nat) : Int), eb⟩]) 512 (((0 + eb.length : Nat)) : Int) = _
    rw [Nat.zero_add, ← w3]
    unfold setM
    rw [putF8, writeM_one9 (by rw [le_length]; omega), le_length]
  have hAV : A.V = splice M3.V 512 (le 8 eb.length) := by rw [hAM, fenceM_V9, flushM_V, storeM_V]
  have lA : A.V.length = 1024 := by rw [hAV, length_splice _ _ _ (by rw [le_length]; omega), l3]
  have far : ∀ i, i < 520 → M3.V.getD i 0 = mem0.V.getD i 0 := fun i hi => by rw [V3, getD_splice _ _ _ hq, if_neg (by omega)]
  have none_of : ∀ M : MemM, M.ok → M.D = M.V → M.V.length = 1024 → (∀ i, i < 520 → M.V.getD i 0 = mem0.V.getD i 0) → (logR M.V 512 512).1.length = 0 ∧ (redoM M 512 512).D.take 512 = mem0.V.take 512 := by
    intro M ok hD hl h
    have z : logR M.V 512 512 = ([], 0) := by rw [agree l0 hl end0 (by omega) h, logR0]
    refine ⟨by rw [z]; rfl, ?_⟩
    rw [redo_none ok hD hl (by rw [z])]
    refine list8_ext (by rw [List.length_take, List.length_take, hl, l0]) fun i hi => ?_
    rw [List.length_take, l0] at hi
    have e : ∀ Z : List UInt8, (Z.take 512).getD i 0 = Z.getD i 0 := fun Z => by
      simp only [List.getD_eq_getElem?_getD, List.getElem?_take, if_pos (show i < 512 by omega)]
    rw [e, e, h i (by omega)]
  have one_of : ∀ M : MemM, M.ok → M.D = M.V → M.V.length = 1024 → (∀ i, i < 1024 → M.V.getD i 0 = A.V.getD i 0 ∨ ∃ p ∈ C, covers p i) → (logR M.V 512 512).1.length = 1 ∧ (redoM M 512 512).D = (redoM A 512 512).D := by
    intro M ok hD hl h
    have z : logR M.V 512 512 = ([C], eb.length) := by
      rw [← hAlog]
      refine log_high lA hl fun i h1 h2 => ?_
      rcases h i h2 with q | ⟨p, hp, hc⟩
      · exact q
      · obtain ⟨q1, q2⟩ := (inR_iff p).1 (hin p hp)
        unfold covers at hc
        omega
    refine ⟨by rw [z]; rfl, ?_⟩
    rw [redo_one ok hD hl (by rw [z]), redo_one hAok hAD lA (by rw [hAlog]), fold_eq C hl lA hin h]
  have cok : (crashM (Y4 eb p0 k) P).ok := crashM_ok hok4 P
  have cD : (crashM (Y4 eb p0 k) P).D = (crashM (Y4 eb p0 k) P).V := by unfold crashM; rfl
  have cl : (crashM (Y4 eb p0 k) P).V.length = 1024 := by
    rw [crashM_len8 hok4]; exact Y4_len hf (hin p0 hp0) k
  obtain ⟨f, hc⟩ := crash_mix hok4 P
  rw [Y4_len hf (hin p0 hp0) k] at hc
  rw [← hA]
  rcases (by omega : k = 0 ∨ k = 1 ∨ k = 2 ∨ k = 3 ∨ k = 4) with rfl | rfl | rfl | rfl | rfl
  · have e : Y4 eb p0 0 = storeM mem0 520 eb := by unfold Y4 Y3 Y2 Y1; rw [if_neg (by omega), if_neg (by omega), if_neg (by omega), if_neg (by omega)]
    obtain ⟨q1, q2⟩ := none_of _ cok cD cl fun i hi => by
      rw [hc i (by omega), e, storeM_V, storeM_D, mem0_D]
      split
      · rw [getD_splice _ _ _ hq, if_neg (by omega)]
      · rfl
    exact .inr ⟨q1, q2, by omega⟩
  · have e : Y4 eb p0 1 = M3 := by unfold Y4 Y3 Y2 Y1; rw [hM3, if_neg (by omega), if_neg (by omega), if_neg (by omega), if_pos (by omega)]
    obtain ⟨q1, q2⟩ := none_of _ cok cD cl fun i hi => by
      rw [e, (crash_same ok3 D3 P).1]; exact far i hi
    exact .inr ⟨q1, q2, by omega⟩
  · have e : Y4 eb p0 2 = storeM M3 512 (le 8 eb.length) := by unfold Y4 Y3 Y2 Y1; rw [hM3, if_neg (by omega), if_neg (by omega), if_pos (by omega), if_pos (by omega)]
    rw [e, storeM_V, storeM_D, ← hAV, D3] at hc
    have hdif : ∀ i, i < 512 ∨ 520 ≤ i → A.V.getD i 0 = M3.V.getD i 0 := fun i hi => by
      rw [hAV, getD_splice _ _ _ (by rw [le_length]; omega), le_length, if_neg (by omega)]
    by_cases hf64 : f 64 = true
    · obtain ⟨q1, q2⟩ := one_of _ cok cD cl fun i hi => by
        rw [e, hc i hi]
        by_cases h : i < 512 ∨ 520 ≤ i
        · rw [hdif i h]; simp
        · rw [show i / 8 = 64 by omega, if_pos hf64]; exact .inl rfl
      exact .inl ⟨q1, q2, by omega⟩
    · obtain ⟨q1, q2⟩ := none_of _ cok cD cl fun i hi => by
        rw [e, hc i (by omega)]
        by_cases h : i < 512 ∨ 520 ≤ i
        · rw [hdif i h]; simp; exact far i hi
        · rw [show i / 8 = 64 by omega, if_neg hf64]; exact far i hi
      exact .inr ⟨q1, q2, by omega⟩
  · have e : Y4 eb p0 3 = A := by unfold Y4 Y3 Y2 Y1; rw [hAM, hM3, if_neg (by omega), if_pos (by omega), if_pos (by omega), if_pos (by omega)]
    obtain ⟨q1, q2⟩ := one_of _ cok cD cl fun i hi => by
      rw [e, (crash_same hAok hAD P).1]; exact .inl rfl
    exact .inl ⟨q1, q2, by omega⟩
  · have e : Y4 eb p0 4 = storeM A p0.at_.toNat p0.d := by unfold Y4 Y3 Y2 Y1; rw [hAM, hM3, if_pos (by omega), if_pos (by omega), if_pos (by omega), if_pos (by omega)]
    obtain ⟨h1, h2⟩ := (inR_iff p0).1 (hin p0 hp0)
    rw [e, storeM_V, storeM_D, hAD] at hc
    obtain ⟨q1, q2⟩ := one_of _ cok cD cl fun i hi => by
      rw [e, hc i hi]
      split
      · rw [getD_splice _ _ _ (by omega)]
        split
        · exact .inr ⟨p0, hp0, by unfold covers; omega⟩
        · exact .inl rfl
      · exact .inl rfl
    exact .inl ⟨q1, q2, by omega⟩
end
/-- few patches are encoded, and there is room -/
theorem few_enc {C : List PtM} (hin : ∀ p ∈ C, inR p = true ∧ p.d.length ≤ 40) (hl : C.length ≤ 5) : encOk C = true ∧ (encL C).length ≤ 504 := by
  have h : encOk C = true := by
    unfold encOk
    rw [Bool.and_eq_true, decide_eq_true_iff, List.all_eq_true]
    refine ⟨by omega, fun p hp => ?_⟩
    obtain ⟨q1, q2⟩ := hin p hp
    obtain ⟨q3, q4⟩ := (inR_iff p).1 q1
    unfold okPt
    rw [Bool.and_eq_true, decide_eq_true_iff]
    refine ⟨?_, by omega⟩
    unfold fitsB
    simp
    omega
  refine ⟨h, ?_⟩
  have e : ∀ L : List PtM, (∀ p ∈ L, p.d.length ≤ 40) → (L.flatMap encPt).length ≤ 46 * L.length := by
    intro L
    induction L with
    | nil => intro _; simp
    | cons p L ih =>
      intro hp
      rw [List.flatMap_cons, List.length_append, encPt_len, List.length_cons]
      have := ih fun q hq => hp q (List.mem_cons_of_mem _ hq)
      have := hp p (List.mem_cons_self ..)
      omega
  have z := e C fun p hp => (hin p hp).2
  have hb : (encB C).length = 2 + (C.flatMap encPt).length := by rw [encB_eq h, List.length_append, le_length]
  rw [encL_len8 h, hb]
  have : pad8 (2 + (C.flatMap encPt).length + 4) < 8 := by unfold pad8; omega
  omega
end Go.Proofs.YtcackliabemecaaDoor
