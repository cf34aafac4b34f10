/- pure: what the laws of stage 6 ask of doF. -/
import Derived.Test.YtcanemamnmmbcaaGreatDoorPyM
namespace Go.Proofs.YtcanemamnmmbcaaGreatDoor
open Go.RowKit
set_option linter.unusedSimpArgs false
set_option linter.unusedVariables false
set_option maxRecDepth 100000

abbrev syncX (fd : Int) : CallM := ⟨6, [], [], 0, fd, 0, 0, []⟩
abbrev statX (X : List UInt8) : CallM := ⟨13, X, [], 0, 0, 0, 0, []⟩
abbrev listX (X : List UInt8) : CallM := ⟨12, X, [], 0, 0, 0, 0, []⟩
abbrev renX (X Y : List UInt8) : CallM := ⟨11, X, Y, 0, 0, 0, 0, []⟩
theorem doStat (F : FsM) (X : List UInt8) : doF F 1 (statX X) = (F, (statF F X).2) := by
 show statF F X = _
 unfold statF; (repeat' split) <;> rfl
/-- a walk past a name that goes -/
theorem walk_moved {F G : FsM} {dX n : Nat} {sX : ByteArray} (hd : ∀ i, G.dir i = F.dir i) (he : ∀ k t j, ¬ (k = dX ∧ t = sX) → lookE F.E k t = some j → lookE G.E k t = some j) (hx : lookE F.E dX sX = some n) :
   ∀ (A : List ByteArray) (k f : Nat), walkF F k A = (0, f) → walkF G k A = (0, f) ∨ ∃ P Q, A = P ++ sX :: Q ∧ walkF F k P = (0, dX) ∧ walkF F n Q = (0, f)
 | [], k, f, h => .inl h
 | t :: A, k, f, h => by
  unfold walkF at h
  by_cases h1 : F.dir k = true
  ·rw [if_pos h1] at h
   cases hl : lookE F.E k t with
   | none => rw [hl] at h; cases h
   | some j =>
    rw [hl] at h
    by_cases hq : k = dX ∧ t = sX
    ·obtain ⟨rfl, rfl⟩ := hq
     rw [hx] at hl; cases hl
     exact .inr ⟨[], A, rfl, rfl, h⟩
    ·rcases walk_moved hd he hx A j f h with q | ⟨P, Q, q1, q2, q3⟩
     ·left; unfold walkF; rw [hd, if_pos h1, he k t j hq hl]; exact q
     ·refine .inr ⟨t :: P, Q, by rw [q1]; rfl, ?_, q3⟩
      unfold walkF; rw [if_pos h1, hl]; exact q2
  ·rw [if_neg h1] at h; cases h
theorem walk_cons_dir {F : FsM} {n f : Nat} {Q : List ByteArray} (h : walkF F n Q = (0, f)) (hf : F.dir f = true) : F.dir n = true := by
 cases Q with
 | nil => have e : n = f := (Prod.mk.inj h).2; rw [e]; exact hf
 | cons t Q =>
  unfold walkF at h
  by_cases h1 : F.dir n = true
  ·exact h1
  ·rw [if_neg h1] at h; cases h
theorem insF_ext {L M : List ByteArray} : insF (some (L ++ M)) (some L) = true := by simp [insF]
/-- what was moved is found under its new name alone -/
theorem moved_found {F : FsM} {δ : Nat → Int} (h : FsC F δ) {X Y : List UInt8} {d n : Nat} {s : ByteArray} (hX : (placeF F X).1 = 0) (hx : lookE F.E (placeF F X).2.1 (placeF F X).2.2 = some n) (hY : (placeF F Y).1 = 0) (ed : (placeF F Y).2.1 = d) (es : (placeF F Y).2.2 = s) (hl : lookE F.E d s = none) (hi : ¬ (F.dir n = true ∧ insF (pathO Y) (pathO X) = true)) :
   findF (movedF F X d s n) Y = (0, n) ∧ findF (movedF F X d s n) X = (10, 0) ∧ (F.dir n = true → cntE (movedF F X d s n).E n = cntE F.E n) := by
 obtain ⟨M, sX, hpX, w1, d1, e1⟩ := place_cases hX
 obtain ⟨K, y, hpY, w2, d2, e2⟩ := place_cases hY
 have eX1 : (placeF F X).2.1 = (walkF F 0 M).2 := by rw [e1]
 have eX2 : (placeF F X).2.2 = sX := by rw [e1]
 have eY1 : (walkF F 0 K).2 = d := by rw [← ed, e2]
 have eY2 : y = s := by rw [← es, e2]
 subst eY2
 have wX : walkF F 0 M = (0, (walkF F 0 M).2) := by rw [← w1]
 have wY : walkF F 0 K = (0, d) := by rw [← eY1, ← w2]
 rw [eX1, eX2] at hx
 have dd : F.dir d = true := by rw [← eY1]; exact d2
 have hm : movedF F X d y n = ⟨F.N, takeE F.E (walkF F 0 M).2 sX ++ [⟨d, y, n⟩], F.O⟩ := by unfold movedF; rw [eX1, eX2]; rfl
 rw [hm]
 have wn : walkF F 0 (M ++ [sX]) = (0, n) := by rw [walkF_app, if_pos w1, if_pos d1, hx]
 have hlk : ∀ k t j, ¬ (k = (walkF F 0 M).2 ∧ t = sX) → lookE F.E k t = some j → lookE (takeE F.E (walkF F 0 M).2 sX ++ [⟨d, y, n⟩]) k t = some j := by
  intro k t j hk hj
  rw [lookE_app, lookE_take, if_neg hk, hj]; rfl
 have hw := walk_moved (F := F) (G := ⟨F.N, takeE F.E (walkF F 0 M).2 sX ++ [⟨d, y, n⟩], F.O⟩) (fun _ => rfl) hlk hx
 have hdn : ¬ (F.dir n = true ∧ d = n) := by
  rintro ⟨hn, rfl⟩
  have e := h.uniq _ _ _ _ rfl wn wY hn
  exact hi ⟨hn, by rw [hpY, hpX, ← e]; exact insF_ext⟩
 have hne : ¬ (F.dir n = true ∧ (walkF F 0 M).2 = n) := by
  rintro ⟨hn, e0⟩
  have e := h.uniq _ _ _ _ rfl wn (by rw [e0] at wX; exact wX) hn
  have := congrArg List.length e
  simp at this
 have gY : walkF (⟨F.N, takeE F.E (walkF F 0 M).2 sX ++ [⟨d, y, n⟩], F.O⟩ : FsM) 0 K = (0, d) := by
  rcases hw K 0 d wY with q | ⟨P, Q, q1, q2, q3⟩
  ·exact q
  ·have e := h.uniq _ _ _ _ rfl q2 wX d1
   have hn := walk_cons_dir q3 dd
   refine absurd ⟨hn, ?_⟩ hi
   rw [hpY, hpX, q1, e, show M ++ sX :: Q ++ [y] = (M ++ [sX]) ++ (Q ++ [y]) by simp]
   exact insF_ext
 have gX : walkF (⟨F.N, takeE F.E (walkF F 0 M).2 sX ++ [⟨d, y, n⟩], F.O⟩ : FsM) 0 M = (0, (walkF F 0 M).2) := by
  rcases hw M 0 _ wX with q | ⟨P, Q, q1, q2, q3⟩
  ·exact q
  ·have e := h.uniq _ _ _ _ rfl q2 wX d1
   rw [e] at q1
   have := congrArg List.length q1
   simp at this
 refine ⟨?_, ?_, ?_⟩
 ·rw [findF_yes hpY, walkF_app, gY, if_pos rfl]
  show (if F.dir d = true then (match lookE (takeE F.E (walkF F 0 M).2 sX ++ [⟨d, y, n⟩]) d y with | none => ((10 : Int), 0) | some m => (0, m)) else (12, 0)) = _
  have hq : lookE (takeE F.E (walkF F 0 M).2 sX ++ [⟨d, y, n⟩]) d y = some n := by
   rw [lookE_app, lookE_take, hl, ite_self, if_pos ⟨rfl, rfl⟩]; rfl
  rw [if_pos dd, hq]
 ·rw [findF_yes hpX, walkF_app, gX, if_pos rfl]
  show (if F.dir (walkF F 0 M).2 = true then (match lookE (takeE F.E (walkF F 0 M).2 sX ++ [⟨d, y, n⟩]) (walkF F 0 M).2 sX with | none => ((10 : Int), 0) | some m => (0, m)) else (12, 0)) = _
  have hq : lookE (takeE F.E (walkF F 0 M).2 sX ++ [⟨d, y, n⟩]) (walkF F 0 M).2 sX = none := by
   rw [lookE_app, lookE_take, if_pos ⟨rfl, rfl⟩, if_neg]; rfl
   rintro ⟨e, e'⟩
   rw [e, e', hl] at hx; cases hx
  rw [if_pos d1, hq]
 ·intro hn
  show cntE (takeE F.E (walkF F 0 M).2 sX ++ [⟨d, y, n⟩]) n = _
  unfold cntE takeE
  rw [List.filter_append, List.filter_filter, List.filter_cons, if_neg (by simpa using fun e => hdn ⟨hn, e⟩), List.filter_nil, List.append_nil]
  refine congrArg List.length (List.filter_congr fun x _ => ?_)
  by_cases hx : x.dn = n
  ·rw [decide_eq_true hx, decide_eq_false (fun q => hne ⟨hn, q.1.symm.trans hx⟩)]; rfl
  ·rw [decide_eq_false hx]; rfl
theorem statF_at {F : FsM} {X : List UInt8} {n : Nat} (h : findF F X = (0, n)) : (statF F X).2 = if F.dir n = true then infoR 2 1 (cntE F.E n) else infoR 1 (F.at n).links (F.at n).data.length := by
 unfold statF; rw [h, if_pos rfl]; split <;> rfl
theorem statF_no {F : FsM} {X : List UInt8} {e : Int} {n : Nat} (h : findF F X = (e, n)) (he : ¬ e = 0) : (statF F X).2 = errR e := by
 unfold statF; rw [h, if_neg he]
/-- what a rename comes to, as Stat tells it -/
theorem renamed_stat {F : FsM} (h : FsOk F) {X Y : List UInt8} (he : (renameF F X Y).2.e = 0) :
   ((statF F X).2.e = 0 ∧ (statF (renameF F X Y).1 Y).2.e = 0 ∧ (statF (renameF F X Y).1 Y).2.kind = (statF F X).2.kind ∧ (statF (renameF F X Y).1 Y).2.size = (statF F X).2.size) ∧ (X = Y → (statF (renameF F X Y).1 X).2.e = 0) ∧
   ((statF (renameF F X Y).1 X).2.e = 10 ∨ ((statF F Y).2.e = 0 ∧ (statF F Y).2.kind = (statF F X).2.kind ∧ (statF F Y).2.links = (statF F X).2.links ∧ (statF F Y).2.size = (statF F X).2.size)) := by
 unfold renameF at he ⊢
 split at he
 case isFalse => cases he
 rename_i hc
 rw [if_pos hc]
 split at he
 case isFalse hf => exact absurd he hf
 rename_i hf
 rw [if_pos hf]
 split at he
 case isTrue => cases he
 rename_i hins
 rw [if_neg hins]
 split at he
 case isFalse hp => exact absurd he hp
 rename_i hp
 rw [if_pos hp]
 have hnX : ¬ pathO X = some [] := fun e => hc.2.1 (pathO_root.1 e)
 obtain ⟨x1, x2⟩ := place_of_find hf hnX
 have fX : findF F X = (0, (findF F X).2) := by rw [← hf]
 have fY := find_place hp
 generalize hn : (findF F X).2 = n at *
 have sX := statF_at fX
 have eX : (statF F X).2.e = 0 := by rw [sX]; split <;> rfl
 -- the moved node, in F0 as in F
 have core : ∀ F0 : FsM, FsC F0 (fun _ => 0) → placeF F0 X = placeF F X → placeF F0 Y = placeF F Y → lookE F0.E (placeF F X).2.1 (placeF F X).2.2 = some n → lookE F0.E (placeF F Y).2.1 (placeF F Y).2.2 = none → (∀ i, F0.dir i = F.dir i) → (F.dir n = true → cntE F0.E n = cntE F.E n) → (F0.at n).data = (F.at n).data → ¬ X = Y →
    ((statF F X).2.e = 0 ∧ (statF (movedF F0 X (placeF F Y).2.1 (placeF F Y).2.2 n) Y).2.e = 0 ∧ (statF (movedF F0 X (placeF F Y).2.1 (placeF F Y).2.2 n) Y).2.kind = (statF F X).2.kind ∧ (statF (movedF F0 X (placeF F Y).2.1 (placeF F Y).2.2 n) Y).2.size = (statF F X).2.size) ∧ (statF (movedF F0 X (placeF F Y).2.1 (placeF F Y).2.2 n) X).2.e = 10 := by
  intro F0 h0 pX pY lX lY hdir hcnt hdat hXY
  obtain ⟨m1, m2, m3⟩ := moved_found h0 (X := X) (Y := Y) (n := n) (by rw [pX]; exact x1) (by rw [pX]; exact lX) (by rw [pY]; exact hp) (by rw [pY]) (by rw [pY]) lY (fun q => hins ⟨⟨by rw [← hdir]; exact q.1, hXY⟩, q.2⟩)
  have s1 := statF_at m1
  have s2 := statF_no m2 (by decide)
  have hdm : ∀ i, (movedF F0 X (placeF F Y).2.1 (placeF F Y).2.2 n).dir i = F.dir i := hdir
  have ham : (movedF F0 X (placeF F Y).2.1 (placeF F Y).2.2 n).at n = F0.at n := rfl
  rw [hdm, ham] at s1
  rw [s1, s2, sX]
  by_cases hd : F.dir n = true
  ·rw [if_pos hd, if_pos hd, m3 (by rw [hdir]; exact hd), hcnt hd]
   exact ⟨⟨rfl, rfl, rfl, rfl⟩, rfl⟩
  ·rw [if_neg hd, if_neg hd, show (infoR 1 (F0.at n).links ((F0.at n).data.length : Int)).size = ((F0.at n).data.length : Int) from rfl, hdat]
   exact ⟨⟨rfl, rfl, rfl, rfl⟩, rfl⟩
 unfold renamedF at he ⊢
 cases hl : lookE F.E (placeF F Y).2.1 (placeF F Y).2.2 with
 | none =>
  have hXY : ¬ X = Y := fun e => by rw [← e, x2] at hl; cases hl
  obtain ⟨c1, c2⟩ := core F h.toFsC rfl rfl x2 hl (fun _ => rfl) (fun _ => rfl) rfl hXY
  exact ⟨c1, fun e => absurd e hXY, .inl c2⟩
 | some m =>
  rw [hl] at he
  dsimp only at he ⊢
  by_cases hmn : m = n
  ·rw [if_pos hmn]
   rw [hl] at fY
   have fY' : findF F Y = (0, n) := by rw [fY, hmn]
   have sY := (statF_at fY').trans sX.symm
   refine ⟨⟨eX, by rw [sY]; exact eX, by rw [sY], by rw [sY]⟩, fun _ => eX, .inr ⟨by rw [sY]; exact eX, by rw [sY], by rw [sY], by rw [sY]⟩⟩
  ·rw [if_neg hmn] at he ⊢
   split at he
   case isTrue => cases he
   rename_i q1
   rw [if_neg q1]
   split at he
   case isTrue => cases he
   rename_i q2
   rw [if_neg q2]
   split at he
   case isTrue => cases he
   rename_i q3
   rw [if_neg q3]
   have hr : RenOk F n m := ⟨hmn, q1, q2, q3⟩
   have hm := (h.toFsC.look_lt hl).1
   have hXY : ¬ X = Y := fun e => by rw [← e, x2] at hl; exact hmn (Option.some.inj hl).symm
   obtain ⟨e1, e2⟩ := freed_place h.toFsC x1 x2 hl hr
   obtain ⟨K, y, hpY, w2, d2, e3⟩ := place_cases hp
   have eY : placeF (freedF F (placeF F Y).2.1 (placeF F Y).2.2 m) Y = placeF F Y := by
    have hw : walkF (freedF F (placeF F Y).2.1 (placeF F Y).2.2 m) 0 K = (0, (walkF F 0 K).2) := by
     refine walk_free (d := (placeF F Y).2.1) (m := m) (s := (placeF F Y).2.2) (freedF_dir hm) (fun k t hk => by rw [freedF_E, lookE_take, if_neg hk]) hl hr.dead K 0 _ (by rw [← w2]) d2 ?_
     refine ⟨(placeF F Y).2.2, m, ?_⟩
     rw [show (walkF F 0 K).2 = (placeF F Y).2.1 by rw [e3]]; exact hl
    conv => rhs; rw [e3]
    rw [placeF_snoc hpY]
    unfold placeL
    rw [hw, if_pos rfl, if_pos (by rw [freedF_dir hm]; exact d2)]
   have hdn : F.dir n = true → ¬ (placeF F Y).2.1 = n := by
    intro hn e0
    obtain ⟨M, x, hpX, u1, u2, u3⟩ := place_cases x1
    have wn : walkF F 0 (M ++ [x]) = (0, n) := by rw [walkF_app, if_pos u1, if_pos u2]; rw [u3] at x2; rw [show lookE F.E (walkF F 0 M).2 x = some n from x2]
    have wK : walkF F 0 K = (0, n) := by rw [← e0, e3, ← w2]
    have e := h.toFsC.uniq _ _ _ _ rfl wn wK hn
    exact hins ⟨⟨hn, hXY⟩, by rw [hpY, hpX, ← e]; exact insF_ext⟩
   obtain ⟨c1, c2⟩ := core (freedF F (placeF F Y).2.1 (placeF F Y).2.2 m) (h.freed hl).toFsC e1 eY (by rw [freedF_E, lookE_take, if_neg e2]; exact x2) (by rw [freedF_E, lookE_take, if_pos ⟨rfl, rfl⟩]) (freedF_dir hm) (fun hn => by
     rw [freedF_E]; unfold cntE takeE; rw [List.filter_filter]
     refine congrArg List.length (List.filter_congr fun x _ => ?_)
     by_cases hx : x.dn = n
     ·rw [decide_eq_true hx, decide_eq_false (fun q => hdn hn (q.1.symm.trans hx))]; rfl
     ·rw [decide_eq_false hx]; rfl) (by
     unfold freedF; split
     ·rfl
     ·rw [linkF_at (F := takeF F _ _) hm, if_neg (fun e => hmn e.symm)]; rfl) hXY
   exact ⟨c1, fun e => absurd e hXY, .inl c2⟩
end Go.Proofs.YtcanemamnmmbcaaGreatDoor
