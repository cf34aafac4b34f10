/- Redo twice: pure; two logs of the code's. -/
import Derived.Test.YtkhhoognemjibaaDoorPlgPr
import Derived.Test.YtkhhoognemjibaaDoorPlgXr
import Derived.Test.YtkhhoognemjibaaDoorPlgEn
namespace Go.Proofs.YtkhhoognemjibaaDoor
open Go.RowKit
set_option linter.unusedSimpArgs false
set_option linter.unusedVariables false
set_option maxRecDepth 100000

/-- a patch's bytes -/
def covers (p : PtM) (i : Nat) : Prop := p.at_ ≤ (i : Int) ∧ (i : Int) < p.at_ + p.d.length
def inR (p : PtM) : Bool := decide (0 ≤ p.at_ ∧ p.at_ + p.d.length ≤ 512)
theorem inR_iff (p : PtM) : inR p = true ↔ 0 ≤ p.at_ ∧ p.at_ + p.d.length ≤ 512 := by unfold inR; exact decide_eq_true_iff
theorem stV_get {V : List UInt8} {p : PtM} (h : inR p = true) (hl : V.length = 1024) (i : Nat) : (stV V p).getD i 0 = if p.at_.toNat ≤ i ∧ i < p.at_.toNat + p.d.length then p.d.getD (i - p.at_.toNat) 0 else V.getD i 0 := by
  obtain ⟨h1, h2⟩ := (inR_iff p).1 h
  unfold stV
  rw [if_pos ⟨h1, by omega⟩, getD_splice _ _ _ (by omega)]
theorem stV_l {V : List UInt8} (hl : V.length = 1024) (p : PtM) : (stV V p).length = 1024 := by rw [stV_len]; exact hl
theorem fold_eq (L : List PtM) {V V' : List UInt8} (hl : V.length = 1024) (hl' : V'.length = 1024) (hL : ∀ p ∈ L, inR p = true) (h : ∀ i, i < 1024 → V.getD i 0 = V'.getD i 0 ∨ ∃ p ∈ L, covers p i) : L.foldl stV V = L.foldl stV V' := by
  induction L generalizing V V' with
  | nil =>
    refine list8_ext (by rw [List.foldl_nil, List.foldl_nil, hl, hl']) fun i hi => ?_
    rw [List.foldl_nil] at hi
    rcases h i (by omega) with q | ⟨p, hp, _⟩
    · exact q
    · cases hp
  | cons p L ih =>
    rw [List.foldl_cons, List.foldl_cons]
    refine ih (stV_l hl p) (stV_l hl' p) (fun q hq => hL q (List.mem_cons_of_mem _ hq)) fun i hi => ?_
    have hp := hL p (List.mem_cons_self ..)
    obtain ⟨h1, h2⟩ := (inR_iff p).1 hp
    rw [stV_get hp hl, stV_get hp hl']
    by_cases hc : p.at_.toNat ≤ i ∧ i < p.at_.toNat + p.d.length
    · rw [if_pos hc, if_pos hc]; exact .inl rfl
    · rw [if_neg hc, if_neg hc]
      rcases h i hi with q | ⟨q, hq, hcov⟩
      · exact .inl q
      · rcases List.mem_cons.1 hq with rfl | hq
        · exact absurd (show q.at_.toNat ≤ i ∧ i < q.at_.toNat + q.d.length by unfold covers at hcov; omega) hc
        · exact .inr ⟨q, hq, hcov⟩
/-- what is stored alone -/
def stU (M : MemM) (p : PtM) : MemM := storeU M p.at_ p.d
theorem stU_V (M : MemM) (p : PtM) : (stU M p).V = stV M.V p := by
  unfold stU storeU stV
  by_cases h : inM M p.at_ p.d.length = true
  · rw [if_pos h, if_pos ((inM_iff _ _ _).1 h)]; unfold storeM; rfl
  · rw [if_neg h, if_neg (fun q => h ((inM_iff _ _ _).2 q))]
theorem stU_D (M : MemM) (p : PtM) : (stU M p).D = M.D := by
  unfold stU storeU; split
  · unfold storeM; rfl
  · rfl
theorem foldU_V (L : List PtM) (M : MemM) : (L.foldl stU M).V = L.foldl stV M.V := by
  induction L generalizing M with
  | nil => rfl
  | cons p L ih => rw [List.foldl_cons, List.foldl_cons, ih, stU_V]
theorem foldU_D (L : List PtM) (M : MemM) : (L.foldl stU M).D = M.D := by
  induction L generalizing M with
  | nil => rfl
  | cons p L ih => rw [List.foldl_cons, ih, stU_D]
theorem foldV_cov (L : List PtM) {V : List UInt8} (hl : V.length = 1024) (hL : ∀ p ∈ L, inR p = true) (i : Nat) : (L.foldl stV V).getD i 0 = V.getD i 0 ∨ ∃ p ∈ L, covers p i := by
  induction L generalizing V with
  | nil => exact .inl rfl
  | cons p L ih =>
    have hp := hL p (List.mem_cons_self ..)
    obtain ⟨h1, h2⟩ := (inR_iff p).1 hp
    rw [List.foldl_cons]
    rcases ih (stV_l hl p) (fun q hq => hL q (List.mem_cons_of_mem _ hq)) with q | ⟨q, hq, hc⟩
    · rw [stV_get hp hl] at q
      by_cases hc : p.at_.toNat ≤ i ∧ i < p.at_.toNat + p.d.length
      · exact .inr ⟨p, List.mem_cons_self .., by unfold covers; omega⟩
      · rw [if_neg hc] at q; exact .inl q
    · exact .inr ⟨q, List.mem_cons_of_mem _ hq, hc⟩
theorem crash_mix {M : MemM} (h : M.ok) (P : List Int) : ∃ f : Nat → Bool, ∀ i, i < M.V.length → (crashM M P).V.getD i 0 = if f (i / 8) then M.V.getD i 0 else M.D.getD i 0 := by
  refine ⟨selF (dirtyL M) P (dirtyL M).length, fun i hi => ?_⟩
  show (crashD M P).getD i 0 = _
  unfold crashD
  exact mixF_get _ _ _ (by rw [h.1]; exact hi)
theorem crashM_len8 {M : MemM} (h : M.ok) (P : List Int) : (crashM M P).V.length = M.V.length := by
  show (crashD M P).length = _
  rw [crashD_len]; exact h.1
theorem log_high {V V' : List UInt8} (hl : V.length = 1024) (hl' : V'.length = 1024) (h : ∀ i, 512 ≤ i → i < 1024 → V'.getD i 0 = V.getD i 0) : logR V' 512 512 = logR V 512 512 := by
  have sl : ∀ a n, 512 ≤ a → (V'.drop a).take n = (V.drop a).take n := by
    intro a n ha
    refine list8_ext ?_ fun i hi => ?_
    · rw [List.length_take, List.length_take, List.length_drop, List.length_drop, hl, hl']
    · rw [List.length_take, List.length_drop] at hi
      have e : ∀ Z : List UInt8, ((Z.drop a).take n).getD i 0 = Z.getD (a + i) 0 := fun Z => by
        simp only [List.getD_eq_getElem?_getD, List.getElem?_take, List.getElem?_drop, if_pos (show i < n by omega)]
      rw [e, e, h _ (by omega) (by omega)]
  have e1 : endL V' 512 512 = endL V 512 512 := by
    unfold endL
    rw [sl 512 8 (by omega)]
  have e2 : bodyL V' 512 512 = bodyL V 512 512 := by
    unfold bodyL
    rw [e1, sl (512 + 8) _ (by omega)]
  unfold logR
  rw [e2]
/-- stored, crashed, redone: as if redone at once -/
theorem twice {M : MemM} (hok : M.ok) (hD : M.D = M.V) (hl : M.V.length = 1024) (A : List PtM) (hA : (logR M.V 512 512).1.flatten = A) (hin : ∀ p ∈ A, inR p = true) (j : Nat) (P : List Int)
    (hNok : ((A.take j).foldl stU M).ok) : logR (crashM ((A.take j).foldl stU M) P).V 512 512 = logR M.V 512 512 ∧
      (redoM (crashM ((A.take j).foldl stU M) P) 512 512).D = (redoM M 512 512).D ∧ (crashM ((A.take j).foldl stU M) P).V.length = 1024 := by
  obtain ⟨N, hN⟩ : ∃ N, N = (A.take j).foldl stU M := ⟨_, rfl⟩
  rw [← hN] at hNok ⊢
  have hNV : N.V = (A.take j).foldl stV M.V := by rw [hN, foldU_V]
  have hND : N.D = M.V := by rw [hN, foldU_D, hD]
  have hNl : N.V.length = 1024 := by rw [hNV, foldV_len, hl]
  have hinj : ∀ p ∈ A.take j, inR p = true := fun p hp => hin p (List.mem_of_mem_take hp)
  obtain ⟨f, hc⟩ := crash_mix hNok P
  have hcl : (crashM N P).V.length = 1024 := by rw [crashM_len8 hNok, hNl]
  have cov : ∀ i, i < 1024 → (crashM N P).V.getD i 0 = M.V.getD i 0 ∨ ∃ p ∈ A, covers p i := by
    intro i hi
    rw [hc i (by omega)]
    split
    · rw [hNV]
      rcases foldV_cov (A.take j) hl hinj i with q | ⟨p, hp, hcv⟩
      · exact .inl q
      · exact .inr ⟨p, List.mem_of_mem_take hp, hcv⟩
    · rw [hND]; exact .inl rfl
  have hlog : logR (crashM N P).V 512 512 = logR M.V 512 512 := log_high hl hcl fun i h1 h2 => by
    rcases cov i h2 with q | ⟨p, hp, hcv⟩
    · exact q
    · obtain ⟨q1, q2⟩ := (inR_iff p).1 (hin p hp)
      unfold covers at hcv
      omega
  refine ⟨hlog, ?_, hcl⟩
  have cok : (crashM N P).ok := crashM_ok hNok P
  have cD : (crashM N P).D = (crashM N P).V := rfl
  rw [redoM_D cok cD, redoM_D hok hD]
  unfold redoM
  rw [hlog, hA]
  have e0 : ∀ X : MemM, X.V.length = 1024 → (setM (writeM X A) 512 0).V = splice (A.foldl stV X.V) 512 (le 8 0) := fun X hX => by
    rw [show setM (writeM X A) 512 0 = setM (writeM X A) 512 ((0 : Nat) : Int) from rfl, setM_V (by rw [writeM_len]; omega), writeM_V]
  rw [e0 _ hcl, e0 _ hl, fold_eq A hcl hl hin cov]
theorem flat_app {M : MemM} (hl : LogOk 512 512 M) (L : List PtM) : (logR (appM M 512 512 L).V 512 512).1.flatten = if appE M 512 512 L = 0 then (logR M.V 512 512).1.flatten ++ L else (logR M.V 512 512).1.flatten := by
  rw [logR_app hl]
  split
  · rw [List.flatten_append]; simp
  · rfl

/-! two logs of the code's -/
structure TwoP (w : World) (S : Nat) (K1 K2 : PK) (M N : MemM) : Prop where
  l : LogP w K1.lg K1.g K1.v K1.d K1.p 512 512 M
  r : LogP w K2.lg K2.g K2.v K2.d K2.p 512 512 N
  b1 : Blk w K1.pp 50 (pairC K1)
  b2 : Blk w K2.pp 50 (pairC K2)
  o : K1.lg < S ∧ K1.g < S ∧ K1.v < S ∧ K1.d < S ∧ K1.p < S ∧ K1.pp < S
  h : S ≤ K2.lg ∧ S ≤ K2.g ∧ S ≤ K2.v ∧ S ≤ K2.d ∧ S ≤ K2.p ∧ S ≤ K2.pp
theorem TwoP.mono {w w' : World} {S : Nat} {K1 K2 : PK} {M N : MemM} (h : TwoP w S K1 K2 M N) (b : Below w.heap.size w w') : TwoP w' S K1 K2 M N := ⟨h.l.mono b, h.r.mono b, h.b1.mono b, h.b2.mono b, h.o, h.h⟩
theorem TwoP.left {w w' : World} {S : Nat} {K1 K2 : PK} {M N M' : MemM} (h : TwoP w S K1 K2 M N) (l : LogP w' K1.lg K1.g K1.v K1.d K1.p 512 512 M') (t : Turns (XM K1.v K1.d K1.p) w w') : TwoP w' S K1 K2 M' N := by
  obtain ⟨o1, o2, o3, o4, o5, o6⟩ := h.o
  obtain ⟨h1, h2, h3, h4, h5, h6⟩ := h.h
  obtain ⟨_, _, _, v1, d1, p1⟩ := h.l.m
  refine ⟨l, ⟨t.blk h.r.l ?_, h.r.m.turns t ?_ ?_ ?_ ?_⟩, t.blk h.b1 ?_, t.blk h.b2 ?_, h.o, h.h⟩
  case refine_6 =>
    rintro (e | e | e)
    · exact blk_ne h.b1 v1 (by decide) e
    · exact blk_ne h.b1 d1 (by decide) e
    · exact pend_neP p1 h.b1 e
  all_goals (rintro (e | e | e) <;> omega)
theorem TwoP.right {w w' : World} {S : Nat} {K1 K2 : PK} {M N N' : MemM} (h : TwoP w S K1 K2 M N) (r : LogP w' K2.lg K2.g K2.v K2.d K2.p 512 512 N') (t : Turns (XM K2.v K2.d K2.p) w w') : TwoP w' S K1 K2 M N' := by
  obtain ⟨o1, o2, o3, o4, o5, o6⟩ := h.o
  obtain ⟨h1, h2, h3, h4, h5, h6⟩ := h.h
  obtain ⟨_, _, _, v1, d1, p1⟩ := h.r.m
  refine ⟨⟨t.blk h.l.l ?_, h.l.m.turns t ?_ ?_ ?_ ?_⟩, r, t.blk h.b1 ?_, t.blk h.b2 ?_, h.o, h.h⟩
  case refine_7 =>
    rintro (e | e | e)
    · exact blk_ne h.b2 v1 (by decide) e
    · exact blk_ne h.b2 d1 (by decide) e
    · exact pend_neP p1 h.b2 e
  all_goals (rintro (e | e | e) <;> omega)
theorem TwoP.lt {w : World} {S : Nat} {K1 K2 : PK} {M N : MemM} (h : TwoP w S K1 K2 M N) : (K1.lg < w.heap.size ∧ K1.g < w.heap.size ∧ K1.v < w.heap.size ∧ K1.d < w.heap.size ∧ K1.p < w.heap.size) ∧ (K2.lg < w.heap.size ∧ K2.g < w.heap.size ∧ K2.v < w.heap.size ∧ K2.d < w.heap.size ∧ K2.p < w.heap.size) ∧ K1.pp < w.heap.size ∧ K2.pp < w.heap.size := ⟨h.l.lt, h.r.lt, h.b1.lt, h.b2.lt⟩
theorem TwoP.under {w w' : World} {B S : Nat} {K1 K2 : PK} {M N : MemM} (h : TwoP w S K1 K2 M N) (b : Below B w w') (hb : (K1.lg < B ∧ K1.g < B ∧ K1.v < B ∧ K1.d < B ∧ K1.p < B) ∧ (K2.lg < B ∧ K2.g < B ∧ K2.v < B ∧ K2.d < B ∧ K2.p < B) ∧ K1.pp < B ∧ K2.pp < B) : TwoP w' S K1 K2 M N := by
  have t : Turns (fun k => B ≤ k) w w' := ⟨b.os, b.tape, b.output, b.size, fun k _ hn => b.block k (by omega)⟩
  obtain ⟨q1, q2, q3, q4⟩ := hb
  exact ⟨h.l.below b q1, h.r.below b q2, t.blk h.b1 (by omega), t.blk h.b2 (by omega), h.o, h.h⟩
end Go.Proofs.YtkhhoognemjibaaDoor
