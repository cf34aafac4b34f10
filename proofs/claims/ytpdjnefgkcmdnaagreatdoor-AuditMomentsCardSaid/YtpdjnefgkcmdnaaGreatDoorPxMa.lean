/- Merged: PxC PxD PxE PxF PxG PxH. -/
import Derived.Test.YtpdjnefgkcmdnaaGreatDoorPxB
import Derived.Test.YtpdjnefgkcmdnaaGreatDoorSxU
import Derived.Test.YtpdjnefgkcmdnaaGreatDoorPxZ
/- the document's Walk, Find, Place (sx/psB.py) -/
namespace Go.Proofs.YtpdjnefgkcmdnaaGreatDoor
open Go.RowKit
set_option linter.unusedSimpArgs false
set_option linter.unusedVariables false
set_option maxRecDepth 100000

/-- how many names a node has -/
def cntN (E : List EntM) (m : Nat) : Nat := (E.filter fun x => decide (x.nd = m)).length
/-- a file system that hangs together, but for the numbers of names -/
structure FsC (F : FsM) (δ : Nat → Int) : Prop where
 n0 : 0 < F.N.length ∧ F.dir 0 = true
 e : ∀ x ∈ F.E, (x.dn < F.N.length ∧ F.dir x.dn = true) ∧ (x.nd < F.N.length ∧ 0 < x.nd) ∧ mayN x.nm = true
 ed : F.E.Pairwise (fun x y => ¬ (x.dn = y.dn ∧ x.nm = y.nm))
 du : F.E.Pairwise (fun x y => x.nd = y.nd → F.dir x.nd = false)
 o : ∀ x ∈ F.O, (x.nd < F.N.length ∧ F.dir x.nd = false) ∧ (1 ≤ x.cl ∧ x.cl ≤ 8) ∧ (0 ≤ x.fd ∧ x.fd < 8)
 od : F.O.Pairwise (fun x y => ¬ (x.cl = y.cl ∧ x.fd = y.fd))
 k : ∀ i, i < F.N.length → (F.at i).data.length ≤ 256 ∧ (F.dir i = true → (F.at i).links = 1) ∧ (F.dir i = false → (F.at i).links = (cntN F.E i : Int) + δ i)
structure FsOk (F : FsM) : Prop extends FsC F (fun _ => 0) where
 l20 : ∀ i, i < F.N.length → (F.at i).links ≤ 20
theorem lookE_mem {E : List EntM} {d m : Nat} {s : ByteArray} (h : lookE E d s = some m) : ∃ x ∈ E, x.dn = d ∧ x.nm = s ∧ x.nd = m := by
 unfold lookE at h
 obtain ⟨x, hx, rfl⟩ := Option.map_eq_some_iff.1 h
 have h1 := List.find?_some hx
 have h1 := dT h1
 exact ⟨x, List.mem_of_find?_eq_some hx, h1.1, h1.2, rfl⟩
theorem lookO_mem {O : List OpM} {c fd : Int} {m : Nat} (h : lookO O c fd = some m) : ∃ x ∈ O, x.cl = c ∧ x.fd = fd ∧ x.nd = m := by
 unfold lookO at h
 obtain ⟨x, hx, rfl⟩ := Option.map_eq_some_iff.1 h
 have h1 := List.find?_some hx
 have h1 := dT h1
 exact ⟨x, List.mem_of_find?_eq_some hx, h1.1, h1.2, rfl⟩
theorem FsOk.look_lt {F : FsM} (h : FsOk F) {d m : Nat} {s : ByteArray} (hl : lookE F.E d s = some m) : m < F.N.length := by
 obtain ⟨x, hx, _, _, rfl⟩ := lookE_mem hl
 exact (h.e x hx).2.1.1
theorem FsOk.walk_lt {F : FsM} (h : FsOk F) : ∀ (L : List ByteArray) (n : Nat), n < F.N.length → (walkF F n L).2 < F.N.length
 | [], n, hn => hn
 | s :: L, n, hn => by
  unfold walkF
  split
  ·split
   ·exact h.n0.1
   ·rename_i m hm; exact h.walk_lt L m (h.look_lt hm)
  ·exact h.n0.1
theorem cut_step {L : List ByteArray} {n i : Nat} (hi : i < n ∧ n ≤ L.length) : (L.take n).drop i = L.getD i noNm :: (L.take n).drop (i + 1) := by
 rw [drop_getD (by rw [List.length_take]; omega) noNm, List.getD_eq_getElem?_getD, List.getElem?_take, if_pos hi.1]; rfl
theorem walkF_some {F : FsM} {L : List ByteArray} {n i k m : Nat} (hi : i < n ∧ n ≤ L.length) (hd : (F.N.getD k nilN).dir = true) (h : lookE F.E k (L.getD i noNm) = some m) : walkF F k ((L.take n).drop i) = walkF F m ((L.take n).drop (i + 1)) := by
 rw [cut_step hi, walkF, if_pos (show F.dir k = true from hd), h]
theorem walkF_none {F : FsM} {L : List ByteArray} {n i k : Nat} (hi : i < n ∧ n ≤ L.length) (hd : (F.N.getD k nilN).dir = true) (h : lookE F.E k (L.getD i noNm) = none) : walkF F k ((L.take n).drop i) = (10, 0) := by
 rw [cut_step hi, walkF, if_pos (show F.dir k = true from hd), h]
theorem walkF_nodir {F : FsM} {L : List ByteArray} {n i k : Nat} (hi : i < n ∧ n ≤ L.length) (hd : (F.N.getD k nilN).dir = false) : walkF F k ((L.take n).drop i) = (12, 0) := by
 rw [cut_step hi, walkF, if_neg (show ¬ F.dir k = true from fun q => by rw [show F.dir k = false from hd] at q; cases q)]
theorem walkF_end {F : FsM} {L : List ByteArray} {n i k : Nat} (hi : n ≤ i) : walkF F k ((L.take n).drop i) = (0, k) := by
 rw [List.drop_eq_nil_of_le (by rw [List.length_take]; omega)]; rfl
theorem findF_no {F : FsM} {X : List UInt8} (h : pathO X = none) : findF F X = (15, 0) := by unfold findF; rw [h]
theorem findF_yes {F : FsM} {X : List UInt8} {L : List ByteArray} (h : pathO X = some L) : findF F X = walkF F 0 L := by unfold findF; rw [h]
theorem placeF_no {F : FsM} {X : List UInt8} (h : pathO X = none) : placeF F X = (15, 0, noNm) := by unfold placeF; rw [h]
theorem placeF_nil {F : FsM} {X : List UInt8} (h : pathO X = some []) : placeF F X = (15, 0, noNm) := by unfold placeF; rw [h]; rfl
theorem placeF_snoc {F : FsM} {X : List UInt8} {M : List ByteArray} {x : ByteArray} (h : pathO X = some (M ++ [x])) : placeF F X = placeL F M x := by
 unfold placeF; rw [h]; simp
theorem path_snoc {X : List UInt8} (h : (pathO X).isSome = true) (hn : ¬ pathO X = some []) : ∃ M x, pathO X = some (M ++ [x]) := by
 obtain ⟨L, hL⟩ := Option.isSome_iff_exists.1 h
 rcases snoc_cases L with e | ⟨M, x, e⟩
 ·rw [e] at hL; exact absurd hL hn
 ·exact ⟨M, x, by rw [hL, e]⟩
theorem take_snoc (M : List ByteArray) (x : ByteArray) : (M ++ [x]).take ((M ++ [x]).length - 1) = M := by simp
theorem last_snoc (M : List ByteArray) (x : ByteArray) : (M ++ [x]).getD ((M ++ [x]).length - 1) noNm = x := by simp
theorem placeL_ok {F : FsM} {M : List ByteArray} {x : ByteArray} (h : (walkF F 0 M).1 = 0) (hd : (F.N.getD (walkF F 0 M).2 nilN).dir = true) : placeL F M x = (0, (walkF F 0 M).2, x) := by
 unfold placeL; rw [if_pos h, if_pos (show F.dir _ = true from hd)]
theorem placeL_nodir {F : FsM} {M : List ByteArray} {x : ByteArray} (h : (walkF F 0 M).1 = 0) (hd : (F.N.getD (walkF F 0 M).2 nilN).dir = false) : placeL F M x = (12, 0, noNm) := by
 unfold placeL; rw [if_pos h, if_neg (show ¬ F.dir _ = true from fun q => by rw [show F.dir (walkF F 0 M).2 = false from hd] at q; cases q)]
theorem placeL_err {F : FsM} {M : List ByteArray} {x : ByteArray} (h : ¬ (walkF F 0 M).1 = 0) : placeL F M x = ((walkF F 0 M).1, 0, noNm) := by
 unfold placeL; rw [if_neg h]
theorem path_len {X : List UInt8} {L : List ByteArray} (h : pathO X = some L) : L.length ≤ 6 := by
 unfold pathO at h
 split at h
 ·cases h; exact Nat.zero_le _
 ·cases X with
  | nil => cases h
  | cons b r =>
   by_cases hb : b = 47
   ·have h' : namesO r = some L := by rw [restO, if_pos hb] at h; exact h
    by_cases hc : (pieces r).length ≤ 6 ∧ ((pieces r).map strB).all mayN = true
    ·rw [namesO, if_pos hc] at h'
     rw [← Option.some.inj h', List.length_map]; exact hc.1
    ·rw [namesO, if_neg hc] at h'; cases h'
   ·rw [restO, if_neg hb] at h; cases h
theorem Sep.own {w w' : World} {R : List Ch} (hS : Sep w R) (hb : Below w.heap.size w w') {e : TypeId} {sz : Nat} {a : Option Addr} {n c : Nat} {cs : List Value} (hO : Own w' w.heap.size e sz a n c cs) : Sep w' (ownC 0 e sz a n c cs :: R) :=
 hS.push hb (c := ownC 0 e sz a n c cs) (Own.low hO (Nat.zero_le _)) (fun k hk => (World.ownsRow.lt hO k hk).1)
end Go.Proofs.YtpdjnefgkcmdnaaGreatDoor
/- the document's put, node, take, Drop, Sized (sx/psC.py) -/
namespace Go.Proofs.YtpdjnefgkcmdnaaGreatDoor
open Go.RowKit
set_option linter.unusedSimpArgs false
set_option linter.unusedVariables false
set_option maxRecDepth 100000

def dropO (O : List OpM) (c : Int) : List OpM := O.filter fun x => !decide (x.cl = c)
theorem sized_len (X : List UInt8) (n : Nat) : (sized X n).length = n := by
 unfold sized; rw [List.length_append, List.length_take, List.length_replicate]; omega
def pathsF (x : CallM) : Bool := (pathO x.p1).isSome && (pathO x.p2).isSome
end Go.Proofs.YtpdjnefgkcmdnaaGreatDoor
/- the document's Names (sx/psD.py) -/
namespace Go.Proofs.YtpdjnefgkcmdnaaGreatDoor
open Go.RowKit
set_option linter.unusedSimpArgs false
set_option linter.unusedVariables false
set_option maxRecDepth 100000

theorem insN_len (x : ByteArray) : ∀ S, (insN x S).length = S.length + 1
 | [] => rfl
 | y :: r => by
  unfold insN
  split
  ·rfl
  ·rw [List.length_cons, insN_len x r, List.length_cons]
theorem sortN_len (L : List ByteArray) : (sortN L).length = L.length := by
 suffices h : ∀ (L A : List ByteArray), (L.foldl (fun acc x => insN x acc) A).length = A.length + L.length by
  unfold sortN; rw [h]; simp
 intro L
 induction L with
 | nil => intro A; simp
 | cons x r ih => intro A; rw [List.foldl_cons, ih, insN_len, List.length_cons]; omega
theorem namesOf_le (E : List EntM) (d : Nat) : (namesOf E d).length ≤ E.length := by unfold namesOf; rw [List.length_map]; exact List.length_filter_le _ _
def stepN (x : ByteArray) (s : List ByteArray × Bool) (y : ByteArray) : List ByteArray × Bool := if (!s.2 && ltN x y) = true then (s.1 ++ [x] ++ [y], true) else (s.1 ++ [y], s.2)
def stN (x : ByteArray) (S : List ByteArray) (j : Nat) : List ByteArray × Bool := (S.take j).foldl (stepN x) ([], false)
def endN (x : ByteArray) (s : List ByteArray × Bool) : List ByteArray := if s.2 = true then s.1 else s.1 ++ [x]
end Go.Proofs.YtpdjnefgkcmdnaaGreatDoor
/- The document's file system stays sound. -/
namespace Go.Proofs.YtpdjnefgkcmdnaaGreatDoor
open Go.RowKit
set_option linter.unusedSimpArgs false
set_option linter.unusedVariables false
set_option maxRecDepth 100000

theorem FsM.at_set {F : FsM} {n : Nat} (hn : n < F.N.length) (x : NodeM) (E : List EntM) (O : List OpM) (i : Nat) : (FsM.at ⟨F.N.set n x, E, O⟩ i) = if i = n then x else F.at i := by
  unfold FsM.at
  simp only [List.getD_eq_getElem?_getD]
  rw [List.getElem?_set]
  by_cases h : n = i
  · subst h; rw [if_pos rfl, if_pos rfl, if_pos hn]; rfl
  · rw [if_neg h, if_neg (fun e => h e.symm)]
theorem FsM.at_snoc (F : FsM) (x : NodeM) (E : List EntM) (O : List OpM) (i : Nat) : (FsM.at ⟨F.N ++ [x], E, O⟩ i) = if i = F.N.length then x else F.at i := by
  unfold FsM.at
  simp only [List.getD_eq_getElem?_getD]
  rcases Nat.lt_trichotomy i F.N.length with h | h | h
  · rw [List.getElem?_append_left h, if_neg (by omega)]
  · subst h; rw [List.getElem?_append_right (Nat.le_refl _), Nat.sub_self, if_pos rfl]; rfl
  · rw [List.getElem?_eq_none (by rw [List.length_append]; show F.N.length + 1 ≤ i; omega), if_neg (by omega), List.getElem?_eq_none (by omega)]
theorem lookE_app (E : List EntM) (d m d' : Nat) (s s' : ByteArray) : lookE (E ++ [⟨d, s, m⟩]) d' s' = (lookE E d' s').or (if d' = d ∧ s' = s then some m else none) := by
  unfold lookE
  rw [List.find?_append]
  cases h : E.find? (fun x => decide (x.dn = d' ∧ x.nm = s')) with
  | some x => rfl
  | none =>
    rw [Option.none_or, List.find?_cons]
    by_cases hq : d' = d ∧ s' = s
    · obtain ⟨rfl, rfl⟩ := hq
      rw [decide_eq_true (show d' = d' ∧ s' = s' from ⟨rfl, rfl⟩), if_pos ⟨rfl, rfl⟩]; rfl
    · rw [decide_eq_false (show ¬ (d = d' ∧ s = s') from fun q => hq ⟨q.1.symm, q.2.symm⟩), if_neg hq]; rfl
theorem lookE_put {E : List EntM} {d m : Nat} {s : ByteArray} (h : lookE E d s = none) (d' : Nat) (s' : ByteArray) : lookE (E ++ [⟨d, s, m⟩]) d' s' = if d' = d ∧ s' = s then some m else lookE E d' s' := by
  rw [lookE_app]
  by_cases hq : d' = d ∧ s' = s
  · rw [if_pos hq, if_pos hq, hq.1, hq.2, h]; rfl
  · rw [if_neg hq, if_neg hq, Option.or_none]
theorem lookE_take (E : List EntM) (d d' : Nat) (s s' : ByteArray) : lookE (takeE E d s) d' s' = if d' = d ∧ s' = s then none else lookE E d' s' := by
  unfold lookE takeE
  rw [List.find?_filter]
  by_cases hq : d' = d ∧ s' = s
  · obtain ⟨rfl, rfl⟩ := hq
    rw [if_pos ⟨rfl, rfl⟩, List.find?_eq_none.2 (fun x _ => by by_cases z : x.dn = d' ∧ x.nm = s' <;> simp [z])]; rfl
  · rw [if_neg hq]
    congr 1
    congr 1
    funext x
    by_cases z : x.dn = d' ∧ x.nm = s'
    · rw [decide_eq_true z, decide_eq_false (show ¬ (x.dn = d ∧ x.nm = s) from fun q => hq ⟨z.1.symm.trans q.1, z.2.symm.trans q.2⟩)]; rfl
    · simp [z]
theorem lookO_app (O : List OpM) (c fd c' fd' : Int) (m : Nat) : lookO (O ++ [⟨c, fd, m⟩]) c' fd' = (lookO O c' fd').or (if c' = c ∧ fd' = fd then some m else none) := by
  unfold lookO
  rw [List.find?_append]
  cases h : O.find? (fun x => decide (x.cl = c' ∧ x.fd = fd')) with
  | some x => rfl
  | none =>
    rw [Option.none_or, List.find?_cons]
    by_cases hq : c' = c ∧ fd' = fd
    · obtain ⟨rfl, rfl⟩ := hq
      rw [decide_eq_true (show c' = c' ∧ fd' = fd' from ⟨rfl, rfl⟩), if_pos ⟨rfl, rfl⟩]; rfl
    · rw [decide_eq_false (show ¬ (c = c' ∧ fd = fd') from fun q => hq ⟨q.1.symm, q.2.symm⟩), if_neg hq]; rfl
theorem lookO_put {O : List OpM} {c fd : Int} {m : Nat} (h : lookO O c fd = none) (c' fd' : Int) : lookO (O ++ [⟨c, fd, m⟩]) c' fd' = if c' = c ∧ fd' = fd then some m else lookO O c' fd' := by
  rw [lookO_app]
  by_cases hq : c' = c ∧ fd' = fd
  · rw [if_pos hq, if_pos hq, hq.1, hq.2, h]; rfl
  · rw [if_neg hq, if_neg hq, Option.or_none]
theorem lookO_take (O : List OpM) (c fd c' fd' : Int) : lookO (takeO O c fd) c' fd' = if c' = c ∧ fd' = fd then none else lookO O c' fd' := by
  unfold lookO takeO
  rw [List.find?_filter]
  by_cases hq : c' = c ∧ fd' = fd
  · obtain ⟨rfl, rfl⟩ := hq
    rw [if_pos ⟨rfl, rfl⟩, List.find?_eq_none.2 (fun x _ => by by_cases z : x.cl = c' ∧ x.fd = fd' <;> simp [z])]; rfl
  · rw [if_neg hq]
    congr 1
    congr 1
    funext x
    by_cases z : x.cl = c' ∧ x.fd = fd'
    · rw [decide_eq_true z, decide_eq_false (show ¬ (x.cl = c ∧ x.fd = fd) from fun q => hq ⟨z.1.symm.trans q.1, z.2.symm.trans q.2⟩)]; rfl
    · simp [z]
theorem lookE_none {E : List EntM} {d : Nat} {s : ByteArray} (h : lookE E d s = none) : ∀ x ∈ E, ¬ (x.dn = d ∧ x.nm = s) := by
  intro x hx hq
  unfold lookE at h
  have := List.find?_eq_none.1 (Option.map_eq_none_iff.1 h) x hx
  exact this (decide_eq_true hq)
theorem lookO_none {O : List OpM} {c fd : Int} (h : lookO O c fd = none) : ∀ x ∈ O, ¬ (x.cl = c ∧ x.fd = fd) := by
  intro x hx hq
  unfold lookO at h
  have := List.find?_eq_none.1 (Option.map_eq_none_iff.1 h) x hx
  exact this (decide_eq_true hq)
/-- the entries of different keys: one of them is found -/
theorem lookE_of {E : List EntM} (hd : E.Pairwise (fun x y => ¬ (x.dn = y.dn ∧ x.nm = y.nm))) {x : EntM} (hx : x ∈ E) : lookE E x.dn x.nm = some x.nd := by
  induction E with
  | nil => cases hx
  | cons y r ih =>
    rw [List.pairwise_cons] at hd
    unfold lookE
    rw [List.find?_cons]
    by_cases hq : y.dn = x.dn ∧ y.nm = x.nm
    · rw [decide_eq_true hq]
      rcases List.mem_cons.1 hx with e | e
      · rw [e]; rfl
      · exact absurd hq (hd.1 x e)
    · rw [decide_eq_false hq]
      rcases List.mem_cons.1 hx with e | e
      · exact absurd ⟨by rw [e], by rw [e]⟩ hq
      · exact ih hd.2 e
theorem cntN_app (E : List EntM) (x : EntM) (i : Nat) : cntN (E ++ [x]) i = cntN E i + (if i = x.nd then 1 else 0) := by
  unfold cntN
  rw [List.filter_append, List.length_append, List.filter_cons]
  by_cases h : x.nd = i
  · rw [if_pos (decide_eq_true h), if_pos h.symm]; rfl
  · rw [if_neg (by rw [decide_eq_true_eq]; exact h), if_neg (fun e => h e.symm)]; rfl
theorem takeE_none {E : List EntM} {d : Nat} {s : ByteArray} (h : ∀ x ∈ E, ¬ (x.dn = d ∧ x.nm = s)) : takeE E d s = E := by
  unfold takeE
  exact List.filter_eq_self.2 fun x hx => by rw [decide_eq_false (h x hx)]; rfl
theorem cntN_cons (y : EntM) (r : List EntM) (i : Nat) : cntN (y :: r) i = cntN r i + (if i = y.nd then 1 else 0) := by
  unfold cntN
  rw [List.filter_cons]
  by_cases h : y.nd = i
  · rw [if_pos (decide_eq_true h), if_pos h.symm]; rfl
  · rw [if_neg (by rw [decide_eq_true_eq]; exact h), if_neg (fun e => h e.symm)]; rfl
theorem cntN_take {E : List EntM} (hd : E.Pairwise (fun x y => ¬ (x.dn = y.dn ∧ x.nm = y.nm))) {d m : Nat} {s : ByteArray} (h : lookE E d s = some m) (i : Nat) : cntN E i = cntN (takeE E d s) i + (if i = m then 1 else 0) := by
  induction E with
  | nil => cases h
  | cons y r ih =>
    rw [List.pairwise_cons] at hd
    by_cases hq : y.dn = d ∧ y.nm = s
    · have e1 : takeE (y :: r) d s = r := by
        rw [show takeE (y :: r) d s = takeE r d s by unfold takeE; rw [List.filter_cons, if_neg (by rw [decide_eq_true hq]; exact Bool.false_ne_true)]]
        exact takeE_none fun x hx q => hd.1 x hx ⟨hq.1.trans q.1.symm, hq.2.trans q.2.symm⟩
      have e2 : y.nd = m := by
        unfold lookE at h
        rw [List.find?_cons, decide_eq_true hq] at h
        exact Option.some.inj h
      rw [e1, cntN_cons, e2]
    · have e1 : takeE (y :: r) d s = y :: takeE r d s := by unfold takeE; rw [List.filter_cons, if_pos (by rw [decide_eq_false hq]; rfl)]
      have e2 : lookE r d s = some m := by
        unfold lookE at h ⊢
        rw [List.find?_cons, decide_eq_false hq] at h
        exact h
      rw [e1, cntN_cons, cntN_cons, ih hd.2 e2]; omega
theorem cntN_pos {E : List EntM} {m : Nat} : (∃ x ∈ E, x.nd = m) ↔ 0 < cntN E m := by
  unfold cntN
  rw [List.length_pos_iff_exists_mem]
  constructor
  · rintro ⟨x, hx, h⟩; exact ⟨x, List.mem_filter.2 ⟨hx, decide_eq_true h⟩⟩
  · rintro ⟨x, hx⟩; obtain ⟨h1, h2⟩ := List.mem_filter.1 hx; exact ⟨x, h1, of_decide_eq_true h2⟩
theorem FsC.put {F : FsM} {δ : Nat → Int} (h : FsC F δ) {d m : Nat} {s : ByteArray} (hd : d < F.N.length ∧ F.dir d = true) (hm : m < F.N.length ∧ 0 < m) (hs : mayN s = true) (hl : lookE F.E d s = none) (hu : F.dir m = true → ∀ x ∈ F.E, x.nd ≠ m) :
    FsC (putF F d s m) (fun i => δ i - if i = m then 1 else 0) where
  n0 := h.n0
  e x hx := by
    rcases List.mem_append.1 hx with q | q
    · exact h.e x q
    · rw [List.mem_singleton.1 q]; exact ⟨hd, hm, hs⟩
  ed := by
    show (F.E ++ [_]).Pairwise _
    rw [List.pairwise_append]
    refine ⟨h.ed, List.pairwise_singleton _ _, fun x hx y hy q => ?_⟩
    rw [List.mem_singleton.1 hy] at q
    exact lookE_none hl x hx q
  du := by
    show (F.E ++ [_]).Pairwise _
    rw [List.pairwise_append]
    refine ⟨h.du, List.pairwise_singleton _ _, fun x hx y hy q => ?_⟩
    rw [List.mem_singleton.1 hy] at q
    have q' : x.nd = m := q
    show F.dir x.nd = false
    cases hq : F.dir x.nd with
    | false => rfl
    | true => exact absurd q' (hu (by rw [← q']; exact hq) x hx)
  o := h.o
  od := h.od
  k i hi := by
    obtain ⟨k1, k2, k3⟩ := h.k i hi
    refine ⟨k1, k2, fun q => ?_⟩
    have z := k3 q
    show (F.at i).links = ((cntN (F.E ++ [_]) i : Nat) : Int) + _
    rw [cntN_app]
    show _ = ((cntN F.E i + (if i = m then 1 else 0) : Nat) : Int) + (δ i - if i = m then 1 else 0)
    by_cases e : i = m
    · rw [if_pos e, if_pos e]; omega
    · rw [if_neg e, if_neg e]; omega
theorem FsC.take {F : FsM} {δ : Nat → Int} (h : FsC F δ) {d m : Nat} {s : ByteArray} (hl : lookE F.E d s = some m) :
    FsC (takeF F d s) (fun i => δ i + if i = m then 1 else 0) where
  n0 := h.n0
  e x hx := h.e x (List.mem_filter.1 hx).1
  ed := h.ed.filter _
  du := h.du.filter _
  o := h.o
  od := h.od
  k i hi := by
    obtain ⟨k1, k2, k3⟩ := h.k i hi
    refine ⟨k1, k2, fun q => ?_⟩
    have z := k3 q
    have y := cntN_take h.ed hl i
    show (F.at i).links = ((cntN (takeE F.E d s) i : Nat) : Int) + (δ i + if i = m then 1 else 0)
    by_cases e : i = m
    · rw [if_pos e] at y ⊢; omega
    · rw [if_neg e] at y ⊢; omega
theorem FsC.link {F : FsM} {δ : Nat → Int} (h : FsC F δ) {n : Nat} (hn : n < F.N.length) (hf : F.dir n = false) (j : Int) : FsC (linkF F n j) (fun i => δ i + if i = n then j else 0) := by
  have ea : ∀ i, (linkF F n j).at i = if i = n then { F.at n with links := (F.at n).links + j } else F.at i := fun i => FsM.at_set hn _ _ _ i
  have ed : ∀ i, (linkF F n j).dir i = F.dir i := fun i => by
    show ((linkF F n j).at i).dir = _
    rw [ea]
    by_cases e : i = n
    · rw [if_pos e, e]; rfl
    · rw [if_neg e]; rfl
  have el : (linkF F n j).N.length = F.N.length := List.length_set
  exact {
    n0 := by rw [el, ed]; exact h.n0
    e := fun x hx => by rw [el, ed]; exact h.e x hx
    ed := h.ed
    du := h.du.imp fun {x y} q e => by rw [ed]; exact q e
    o := fun x hx => by rw [el, ed]; exact h.o x hx
    od := h.od
    k := fun i hi => by
      rw [el] at hi
      obtain ⟨k1, k2, k3⟩ := h.k i hi
      rw [ed, ea]
      by_cases e : i = n
      · subst e
        rw [if_pos rfl]
        refine ⟨k1, fun q => ?_, fun q => ?_⟩
        · rw [hf] at q; cases q
        · have z := k3 q
          show (F.at i).links + j = ((cntN F.E i : Nat) : Int) + (δ i + if i = i then j else 0)
          rw [if_pos rfl]; omega
      · rw [if_neg e]
        refine ⟨k1, k2, fun q => ?_⟩
        have z := k3 q
        show (F.at i).links = ((cntN F.E i : Nat) : Int) + (δ i + if i = n then j else 0)
        rw [if_neg e]; omega }
theorem dataF_at {F : FsM} {n : Nat} (hn : n < F.N.length) (X : List UInt8) (i : Nat) : (dataF F n X).at i = if i = n then { F.at n with data := X } else F.at i := FsM.at_set hn _ _ _ i
theorem dataF_dir {F : FsM} {n : Nat} (hn : n < F.N.length) (X : List UInt8) (i : Nat) : (dataF F n X).dir i = F.dir i := by
  show ((dataF F n X).at i).dir = _
  rw [dataF_at hn]
  by_cases e : i = n
  · rw [if_pos e, e]; rfl
  · rw [if_neg e]; rfl
theorem linkF_at {F : FsM} {n : Nat} (hn : n < F.N.length) (j : Int) (i : Nat) : (linkF F n j).at i = if i = n then { F.at n with links := (F.at n).links + j } else F.at i := FsM.at_set hn _ _ _ i
theorem linkF_dir {F : FsM} {n : Nat} (hn : n < F.N.length) (j : Int) (i : Nat) : (linkF F n j).dir i = F.dir i := by
  show ((linkF F n j).at i).dir = _
  rw [linkF_at hn]
  by_cases e : i = n
  · rw [if_pos e, e]; rfl
  · rw [if_neg e]; rfl
theorem FsC.data {F : FsM} {δ : Nat → Int} (h : FsC F δ) {n : Nat} (hn : n < F.N.length) {X : List UInt8} (hX : X.length ≤ 256) : FsC (dataF F n X) δ := by
  have ea := dataF_at hn X
  have ed := dataF_dir hn X
  have el : (dataF F n X).N.length = F.N.length := List.length_set
  exact {
    n0 := by rw [el, ed]; exact h.n0
    e := fun x hx => by rw [el, ed]; exact h.e x hx
    ed := h.ed
    du := h.du.imp fun {x y} q e => by rw [ed]; exact q e
    o := fun x hx => by rw [el, ed]; exact h.o x hx
    od := h.od
    k := fun i hi => by
      rw [el] at hi
      obtain ⟨k1, k2, k3⟩ := h.k i hi
      rw [ed, ea]
      by_cases e : i = n
      · subst e
        rw [if_pos rfl]
        exact ⟨hX, k2, k3⟩
      · rw [if_neg e]
        exact ⟨k1, k2, k3⟩ }
theorem nodeF_at (F : FsM) (b : Bool) (i : Nat) : (nodeF F b).at i = if i = F.N.length then ⟨b, [], 1⟩ else F.at i := FsM.at_snoc F _ _ _ i
theorem nodeF_len (F : FsM) (b : Bool) : (nodeF F b).N.length = F.N.length + 1 := List.length_append
theorem nodeF_dir (F : FsM) (b : Bool) (i : Nat) : (nodeF F b).dir i = if i = F.N.length then b else F.dir i := by
  show ((nodeF F b).at i).dir = _
  rw [nodeF_at]
  by_cases e : i = F.N.length
  · rw [if_pos e, if_pos e]
  · rw [if_neg e, if_neg e]; rfl
theorem FsC.cnt0 {F : FsM} {δ : Nat → Int} (h : FsC F δ) {i : Nat} (hi : F.N.length ≤ i) : cntN F.E i = 0 := by
  rcases Nat.eq_zero_or_pos (cntN F.E i) with q | q
  · exact q
  · obtain ⟨x, hx, e⟩ := cntN_pos.2 q
    have := (h.e x hx).2.1.1
    omega
theorem FsC.node {F : FsM} {δ : Nat → Int} (h : FsC F δ) (b : Bool) : FsC (nodeF F b) (fun i => if i = F.N.length then 1 else δ i) := by
  have ea := nodeF_at F b
  have ed := nodeF_dir F b
  have el := nodeF_len F b
  have ed' : ∀ i, i < F.N.length → (nodeF F b).dir i = F.dir i := fun i hi => by rw [ed, if_neg (by omega)]
  exact {
    n0 := by rw [el, ed' 0 h.n0.1]; exact ⟨by omega, h.n0.2⟩
    e := fun x hx => by
      obtain ⟨q1, q2, q3⟩ := h.e x hx
      rw [el, ed' _ q1.1]; exact ⟨⟨by omega, q1.2⟩, ⟨by omega, q2.2⟩, q3⟩
    ed := h.ed
    du := List.Pairwise.imp_of_mem (fun {x y} hx hy q e => by rw [ed' _ (h.e x hx).2.1.1]; exact q e) h.du
    o := fun x hx => by
      obtain ⟨q1, q2, q3⟩ := h.o x hx
      rw [el, ed' _ q1.1]; exact ⟨⟨by omega, q1.2⟩, q2, q3⟩
    od := h.od
    k := fun i hi => by
      rw [el] at hi
      rw [ed, ea]
      by_cases e : i = F.N.length
      · rw [if_pos e, if_pos e]
        refine ⟨Nat.zero_le _, fun _ => rfl, fun _ => ?_⟩
        show (1 : Int) = ((cntN F.E i : Nat) : Int) + (if i = F.N.length then 1 else δ i)
        rw [if_pos e, h.cnt0 (by omega)]; rfl
      · rw [if_neg e, if_neg e]
        obtain ⟨k1, k2, k3⟩ := h.k i (by omega)
        refine ⟨k1, k2, fun q => ?_⟩
        show (F.at i).links = ((cntN F.E i : Nat) : Int) + (if i = F.N.length then 1 else δ i)
        rw [if_neg e]; exact k3 q }
theorem FsC.fd {F : FsM} {δ : Nat → Int} (h : FsC F δ) {c fd : Int} {m : Nat} (hm : m < F.N.length ∧ F.dir m = false) (hc : 1 ≤ c ∧ c ≤ 8) (hf : 0 ≤ fd ∧ fd < 8) (hl : lookO F.O c fd = none) : FsC (fdF F c fd m) δ where
  n0 := h.n0
  e := h.e
  ed := h.ed
  du := h.du
  o x hx := by
    rcases List.mem_append.1 hx with q | q
    · exact h.o x q
    · rw [List.mem_singleton.1 q]; exact ⟨hm, hc, hf⟩
  od := by
    show (F.O ++ [_]).Pairwise _
    rw [List.pairwise_append]
    refine ⟨h.od, List.pairwise_singleton _ _, fun x hx y hy q => ?_⟩
    rw [List.mem_singleton.1 hy] at q
    exact lookO_none hl x hx q
  k := h.k
theorem FsC.unO {F : FsM} {δ : Nat → Int} (h : FsC F δ) (p : OpM → Bool) : FsC { F with O := F.O.filter p } δ where
  n0 := h.n0
  e := h.e
  ed := h.ed
  du := h.du
  o x hx := h.o x (List.mem_filter.1 hx).1
  od := h.od.filter _
  k := h.k
theorem FsC.eq {F : FsM} {δ δ' : Nat → Int} (h : FsC F δ) (e : ∀ i, i < F.N.length → F.dir i = false → δ i = δ' i) : FsC F δ' :=
  { h with k := fun i hi => ⟨(h.k i hi).1, (h.k i hi).2.1, fun q => by rw [← e i hi q]; exact (h.k i hi).2.2 q⟩ }
theorem fs0_ok : FsOk fs0 where
  n0 := ⟨by decide, rfl⟩
  e x hx := by cases hx
  ed := List.Pairwise.nil
  du := List.Pairwise.nil
  o x hx := by cases hx
  od := List.Pairwise.nil
  k i hi := by
    have : i = 0 := by have : i < 1 := hi; omega
    subst this
    exact ⟨by decide, fun _ => rfl, fun q => by cases q⟩
  l20 i hi := by
    have : i = 0 := by have : i < 1 := hi; omega
    subst this
    decide
end Go.Proofs.YtpdjnefgkcmdnaaGreatDoor
/- Whatever is done, the document's file system stays sound. -/
namespace Go.Proofs.YtpdjnefgkcmdnaaGreatDoor
open Go.RowKit
set_option linter.unusedSimpArgs false
set_option linter.unusedVariables false
set_option maxRecDepth 100000

theorem walkF_app (F : FsM) : ∀ (M : List ByteArray) (n : Nat) (x : ByteArray), walkF F n (M ++ [x]) = if (walkF F n M).1 = 0 then (if F.dir (walkF F n M).2 = true then (match lookE F.E (walkF F n M).2 x with | none => (10, 0) | some m => (0, m)) else (12, 0)) else walkF F n M
  | [], n, x => by
    show walkF F n [x] = _
    rw [show walkF F n [] = (0, n) from rfl, if_pos rfl]
    rfl
  | s :: L, n, x => by
    show walkF F n (s :: (L ++ [x])) = _
    unfold walkF
    by_cases hd : F.dir n = true
    · rw [if_pos hd, if_pos hd]
      cases lookE F.E n s with
      | none => rfl
      | some m => exact walkF_app F L m x
    · rw [if_neg hd, if_neg hd]; rfl
theorem mayN_all {X : List UInt8} {L : List ByteArray} (h : pathO X = some L) : L.all mayN = true := by
  unfold pathO at h
  split at h
  · cases h; rfl
  · cases X with
    | nil => cases h
    | cons b r =>
      by_cases hb : b = 47
      · have h' : namesO r = some L := by rw [restO, if_pos hb] at h; exact h
        by_cases hc : (pieces r).length ≤ 6 ∧ ((pieces r).map strB).all mayN = true
        · rw [namesO, if_pos hc] at h'
          rw [← Option.some.inj h']; exact hc.2
        · rw [namesO, if_neg hc] at h'; cases h'
      · rw [restO, if_neg hb] at h; cases h
/-- a path's place, and its node -/
theorem place_cases {F : FsM} {X : List UInt8} (h : (placeF F X).1 = 0) : ∃ M x, pathO X = some (M ++ [x]) ∧ (walkF F 0 M).1 = 0 ∧ F.dir (walkF F 0 M).2 = true ∧ placeF F X = (0, (walkF F 0 M).2, x) := by
  cases hp : pathO X with
  | none => rw [placeF_no hp] at h; cases h
  | some L =>
    rcases snoc_cases L with e | ⟨M, x, e⟩
    · rw [e] at hp; rw [placeF_nil hp] at h; cases h
    · rw [e] at hp
      refine ⟨M, x, by rw [e], ?_⟩
      rw [placeF_snoc hp] at h ⊢
      unfold placeL at h ⊢
      by_cases h1 : (walkF F 0 M).1 = 0
      · rw [if_pos h1] at h ⊢
        by_cases h2 : F.dir (walkF F 0 M).2 = true
        · rw [if_pos h2]; exact ⟨h1, h2, rfl⟩
        · rw [if_neg h2] at h; cases h
      · rw [if_neg h1] at h; exact absurd h h1
theorem find_place {F : FsM} {X : List UInt8} (h : (placeF F X).1 = 0) : findF F X = (match lookE F.E (placeF F X).2.1 (placeF F X).2.2 with | none => (10, 0) | some m => (0, m)) := by
  obtain ⟨M, x, hp, h1, h2, e⟩ := place_cases h
  rw [e, findF_yes hp, walkF_app, if_pos h1, if_pos h2]
theorem place_of_find {F : FsM} {X : List UInt8} (h : (findF F X).1 = 0) (hn : ¬ pathO X = some []) : (placeF F X).1 = 0 ∧ lookE F.E (placeF F X).2.1 (placeF F X).2.2 = some (findF F X).2 := by
  cases hp : pathO X with
  | none => rw [findF_no hp] at h; cases h
  | some L =>
    rcases snoc_cases L with e | ⟨M, x, e⟩
    · rw [e] at hp; exact absurd hp hn
    · rw [e] at hp
      have hf := findF_yes (F := F) hp
      rw [walkF_app] at hf
      have hq := placeF_snoc (F := F) hp
      by_cases h1 : (walkF F 0 M).1 = 0
      · rw [if_pos h1] at hf
        by_cases h2 : F.dir (walkF F 0 M).2 = true
        · rw [if_pos h2] at hf
          rw [placeL, if_pos h1, if_pos h2] at hq
          rw [hq]
          refine ⟨rfl, ?_⟩
          show lookE F.E (walkF F 0 M).2 x = _
          cases hl : lookE F.E (walkF F 0 M).2 x with
          | none => rw [hl] at hf; rw [hf] at h; cases h
          | some m => rw [hl] at hf; rw [hf]
        · rw [if_neg h2] at hf; rw [hf] at h; cases h
      · rw [if_neg h1] at hf; rw [hf] at h; exact absurd h h1
theorem pathO_root {X : List UInt8} : pathO X = some [] ↔ X = [47] := by
  constructor
  · intro h
    by_cases e : X = [47]
    · exact e
    · unfold pathO at h
      rw [if_neg e] at h
      cases X with
      | nil => cases h
      | cons b r =>
        by_cases hb : b = 47
        · have h' : namesO r = some [] := by rw [restO, if_pos hb] at h; exact h
          by_cases hc : (pieces r).length ≤ 6 ∧ ((pieces r).map strB).all mayN = true
          · rw [namesO, if_pos hc] at h'
            have z : (pieces r).map strB = [] := Option.some.inj h'
            have z2 := List.map_eq_nil_iff.1 z
            exact absurd z2 (pieces_ne _)
          · rw [namesO, if_neg hc] at h'; cases h'
        · rw [restO, if_neg hb] at h; cases h
  · intro h; rw [h]; rfl
section
variable {F : FsM} {δ : Nat → Int} {X : List UInt8}
theorem FsC.look_lt (h : FsC F δ) {d m : Nat} {s : ByteArray} (hl : lookE F.E d s = some m) : m < F.N.length ∧ 0 < m := by
  obtain ⟨x, hx, _, _, rfl⟩ := lookE_mem hl
  exact (h.e x hx).2.1
theorem FsC.walk_lt (h : FsC F δ) : ∀ (L : List ByteArray) (n : Nat), n < F.N.length → (walkF F n L).2 < F.N.length
  | [], n, hn => hn
  | s :: L, n, hn => by
    unfold walkF
    split
    · split
      · exact h.n0.1
      · rename_i m hm; exact h.walk_lt L m (h.look_lt hm).1
    · exact h.n0.1
theorem FsC.find_lt (h : FsC F δ) (X : List UInt8) : (findF F X).2 < F.N.length := by
  unfold findF
  split
  · exact h.n0.1
  · exact h.walk_lt _ _ h.n0.1
theorem FsC.place (h : FsC F δ) (hp : (placeF F X).1 = 0) : ((placeF F X).2.1 < F.N.length ∧ F.dir (placeF F X).2.1 = true) ∧ mayN (placeF F X).2.2 = true := by
  obtain ⟨M, x, hq, h1, h2, e⟩ := place_cases hp
  rw [e]
  have := mayN_all hq
  rw [List.all_append, Bool.and_eq_true] at this
  refine ⟨⟨h.walk_lt _ _ h.n0.1, h2⟩, ?_⟩
  have z := this.2
  simpa using z
theorem FsC.look_fd (h : FsC F δ) {c fd : Int} {m : Nat} (hl : lookO F.O c fd = some m) : m < F.N.length ∧ F.dir m = false := by
  obtain ⟨x, hx, _, _, rfl⟩ := lookO_mem hl
  exact (h.o x hx).1
theorem freeF_some {c : Int} {fd : Nat} (h : freeF F c = some fd) : lookO F.O c (fd : Int) = none ∧ fd < 8 := by
  unfold freeF at h
  have h1 := List.find?_some h
  have h2 := List.mem_of_find?_eq_some h
  rw [List.mem_range] at h2
  refine ⟨?_, h2⟩
  cases hq : lookO F.O c (fd : Int) with
  | none => rfl
  | some m => rw [hq] at h1; cases h1
theorem look_none_of (hf : ¬ (findF F X).1 = 0) (hp : (placeF F X).1 = 0) : lookE F.E (placeF F X).2.1 (placeF F X).2.2 = none := by
  have z := find_place hp
  cases hl : lookE F.E (placeF F X).2.1 (placeF F X).2.2 with
  | none => rfl
  | some m => rw [hl] at z; rw [z] at hf; exact absurd rfl hf
theorem FsC.links_lt (h : FsC F δ) {i : Nat} (hi : i < F.N.length) (hd : F.dir i = true) : (F.at i).links ≤ 20 := by
  rw [(h.k i hi).2.1 hd]; decide
theorem FsC.ok (h : FsC F δ) (hδ : ∀ i, i < F.N.length → F.dir i = false → δ i = 0) (hl : ∀ i, i < F.N.length → F.dir i = false → (F.at i).links ≤ 20) : FsOk F := by
  refine ⟨h.eq hδ, fun i hi => ?_⟩
  cases hd : F.dir i with
  | true => exact h.links_lt hi hd
  | false => exact hl i hi hd
end
section
variable {F : FsM} {X Y : List UInt8}
theorem FsOk.newNode (h : FsOk F) (b : Bool) {d : Nat} {s : ByteArray} (hd : d < F.N.length ∧ F.dir d = true) (hs : mayN s = true) (hl : lookE F.E d s = none) : FsOk (putF (nodeF F b) d s F.N.length) := by
  have h1 := (h.toFsC.node b).put (d := d) (m := F.N.length) (s := s) ⟨by rw [nodeF_len]; omega, by rw [nodeF_dir, if_neg (by omega)]; exact hd.2⟩ ⟨by rw [nodeF_len]; omega, h.n0.1⟩ hs hl (fun _ x hx => by have := (h.e x hx).2.1.1; omega)
  refine h1.ok (fun i _ _ => ?_) (fun i hi _ => ?_)
  · show (if i = F.N.length then 1 else 0) - (if i = F.N.length then 1 else 0) = (0 : Int); omega
  · show ((nodeF F b).at i).links ≤ 20
    rw [nodeF_at]
    by_cases e : i = F.N.length
    · rw [if_pos e]; show (1 : Int) ≤ 20; decide
    · rw [if_neg e]
      have : (putF (nodeF F b) d s F.N.length).N.length = F.N.length + 1 := nodeF_len F b
      exact h.l20 i (by omega)
theorem FsOk.fd (h : FsOk F) {c fd : Int} {m : Nat} (hm : m < F.N.length ∧ F.dir m = false) (hc : 1 ≤ c ∧ c ≤ 8) (hf : 0 ≤ fd ∧ fd < 8) (hl : lookO F.O c fd = none) : FsOk (fdF F c fd m) :=
  { h.toFsC.fd hm hc hf hl with l20 := h.l20 }
theorem FsOk.unO (h : FsOk F) (p : OpM → Bool) : FsOk { F with O := F.O.filter p } := { h.toFsC.unO p with l20 := h.l20 }
theorem FsOk.data (h : FsOk F) {n : Nat} (hn : n < F.N.length) {X : List UInt8} (hX : X.length ≤ 256) : FsOk (dataF F n X) := by
  refine ⟨h.toFsC.data hn hX, fun i hi => ?_⟩
  rw [dataF_at hn]
  have hi' : i < F.N.length := by have : (dataF F n X).N.length = F.N.length := List.length_set; omega
  by_cases e : i = n
  · rw [if_pos e]; exact h.l20 n hn
  · rw [if_neg e]; exact h.l20 i hi'
theorem wrote_len (d : List UInt8) (off : Nat) (b : List UInt8) (hd : d.length ≤ 256) (hb : off + b.length ≤ 256) : (wrote d off b).length ≤ 256 := by
  unfold wrote
  rw [List.length_append, List.length_append, sized_len, List.length_drop]; omega
theorem FsOk.open_ (h : FsOk F) {c : Int} (hc : 1 ≤ c ∧ c ≤ 8) (fl : Int) : FsOk (openF F c X fl).1 := by
  unfold openF
  split
  · split
    · rename_i hf
      split
      · exact h
      · split
        · exact h
        · rename_i hd
          split
          · exact h
          · rename_i fd hfd
            obtain ⟨q1, q2⟩ := freeF_some hfd
            exact h.fd ⟨h.toFsC.find_lt X, by simpa using hd⟩ hc (by omega) q1
    · rename_i hf
      split
      · rename_i hp
        obtain ⟨_, hp, _⟩ := hp
        obtain ⟨p1, p2⟩ := h.toFsC.place hp
        split
        · exact h
        · rename_i fd hfd
          obtain ⟨q1, q2⟩ := freeF_some hfd
          refine (h.newNode false p1 p2 (look_none_of hf hp)).fd ⟨?_, ?_⟩ hc (by omega) q1
          · have : (putF (nodeF F false) (placeF F X).2.1 (placeF F X).2.2 F.N.length).N.length = F.N.length + 1 := nodeF_len F false
            omega
          · have : (putF (nodeF F false) (placeF F X).2.1 (placeF F X).2.2 F.N.length).dir F.N.length = _ := nodeF_dir F false F.N.length
            rw [this, if_pos rfl]
      · exact h
  · exact h
theorem FsOk.close_ (h : FsOk F) (c fd : Int) : FsOk (closeF F c fd).1 := by
  unfold closeF
  split
  · exact h
  · exact h.unO _
theorem FsOk.read_ (h : FsOk F) (c fd off n : Int) : FsOk (readF F c fd off n).1 := by
  unfold readF
  split
  · exact h
  · split <;> exact h
theorem FsOk.write_ (h : FsOk F) (c fd off : Int) (b : List UInt8) : FsOk (writeF F c fd off b).1 := by
  unfold writeF
  split
  · exact h
  · rename_i k hk
    split
    · exact h
    · rename_i h1
      split
      · exact h
      · split
        · exact h
        · rename_i h2
          obtain ⟨q1, q2⟩ := h.toFsC.look_fd hk
          exact h.data q1 (wrote_len _ _ _ (h.k k q1).1 (by omega))
theorem FsOk.trunc_ (h : FsOk F) (c fd n : Int) : FsOk (truncF F c fd n).1 := by
  unfold truncF
  split
  · exact h
  · rename_i k hk
    split
    · exact h
    · split
      · exact h
      · obtain ⟨q1, q2⟩ := h.toFsC.look_fd hk
        exact h.data q1 (by rw [sized_len]; omega)
theorem FsOk.sync_ (h : FsOk F) (c fd : Int) : FsOk (syncF F c fd).1 := by
  unfold syncF; split <;> exact h
theorem FsOk.mkdir_ (h : FsOk F) : FsOk (mkdirF F X).1 := by
  unfold mkdirF
  split
  · exact h
  · rename_i hf
    split
    · rename_i hp
      obtain ⟨p1, p2⟩ := h.toFsC.place hp
      exact h.newNode true p1 p2 (look_none_of hf hp)
    · exact h
theorem FsC.root_dir {δ : Nat → Int} (h : FsC F δ) (hp : pathO X = some []) : F.dir (findF F X).2 = true := by
  rw [findF_yes hp]; exact h.n0.2
theorem FsOk.taken (h : FsOk F) {d m : Nat} {s : ByteArray} (hl : lookE F.E d s = some m) (hd : F.dir m = true) : FsOk (takeF F d s) :=
  (h.toFsC.take hl).ok (fun i _ q => by
    show (0 : Int) + (if i = m then 1 else 0) = 0
    have : i ≠ m := fun e => by rw [e] at q; rw [show (takeF F d s).dir m = F.dir m from rfl, hd] at q; cases q
    rw [if_neg this]; rfl) (fun i hi _ => h.l20 i hi)
theorem FsOk.freed (h : FsOk F) {d m : Nat} {s : ByteArray} (hl : lookE F.E d s = some m) : FsOk (freedF F d s m) := by
  unfold freedF
  split
  · rename_i hd; exact h.taken hl hd
  · rename_i hd
    have hd' : F.dir m = false := by simpa using hd
    have hm := (h.toFsC.look_lt hl).1
    have h1 := (h.toFsC.take hl).link (n := m) hm hd' (-1)
    refine h1.ok (fun i _ _ => ?_) (fun i hi _ => ?_)
    · show (0 : Int) + (if i = m then 1 else 0) + (if i = m then -1 else 0) = 0
      by_cases e : i = m
      · rw [if_pos e, if_pos e]; rfl
      · rw [if_neg e, if_neg e]; rfl
    · rw [linkF_at (F := takeF F d s) hm]
      have hi' : i < F.N.length := by have : (linkF (takeF F d s) m (-1)).N.length = F.N.length := List.length_set; omega
      by_cases e : i = m
      · rw [if_pos e]
        have := h.l20 m hm
        show (F.at m).links + -1 ≤ 20
        omega
      · rw [if_neg e]; exact h.l20 i hi'
theorem FsOk.unlink_ (h : FsOk F) : FsOk (unlinkF F X).1 := by
  unfold unlinkF
  split
  · rename_i hf
    split
    · exact h
    · rename_i hd
      have hn : ¬ pathO X = some [] := fun e => hd (h.toFsC.root_dir e)
      obtain ⟨p1, p2⟩ := place_of_find hf hn
      have := h.freed p2
      unfold freedF at this
      rw [if_neg hd] at this
      exact this
  · exact h
theorem FsOk.rmdir_ (h : FsOk F) : FsOk (rmdirF F X).1 := by
  unfold rmdirF
  split
  · exact h
  · rename_i hx
    split
    · rename_i hf
      split
      · rename_i hd
        split
        · exact h
        · have hn : ¬ pathO X = some [] := fun e => hx (pathO_root.1 e)
          obtain ⟨p1, p2⟩ := place_of_find hf hn
          exact h.taken p2 hd
      · exact h
    · exact h
theorem FsOk.link_ (h : FsOk F) : FsOk (linksF F X Y).1 := by
  unfold linksF
  split
  · split
    · rename_i hf
      split
      · exact h
      · rename_i hd
        have hd' : F.dir (findF F X).2 = false := by simpa using hd
        have hn : ¬ pathO X = some [] := fun e => hd (h.toFsC.root_dir e)
        obtain ⟨x1, x2⟩ := place_of_find hf hn
        obtain ⟨m1, m2⟩ := h.toFsC.look_lt x2
        split
        · exact h
        · split
          · rename_i hp
            obtain ⟨p1, p2⟩ := h.toFsC.place hp
            split
            · exact h
            · rename_i hl
              split
              · exact h
              · rename_i h20
                have hl' : lookE F.E (placeF F Y).2.1 (placeF F Y).2.2 = none := by
                  cases hq : lookE F.E (placeF F Y).2.1 (placeF F Y).2.2 with
                  | none => rfl
                  | some m => rw [hq] at hl; exact absurd rfl hl
                have h1 := (h.toFsC.put (m := (findF F X).2) p1 ⟨m1, m2⟩ p2 hl' (fun q => absurd q hd)).link (n := (findF F X).2) m1 hd' 1
                refine h1.ok (fun i _ _ => ?_) (fun i hi _ => ?_)
                · show (0 : Int) - (if i = (findF F X).2 then 1 else 0) + (if i = (findF F X).2 then 1 else 0) = 0
                  split <;> rfl
                · rw [linkF_at (F := putF F _ _ _) m1]
                  have hi' : i < F.N.length := by have : (linkF (putF F (placeF F Y).2.1 (placeF F Y).2.2 (findF F X).2) (findF F X).2 1).N.length = F.N.length := List.length_set; omega
                  by_cases e : i = (findF F X).2
                  · rw [if_pos e]
                    have := h.l20 _ m1
                    show (F.at (findF F X).2).links + 1 ≤ 20
                    omega
                  · rw [if_neg e]; exact h.l20 i hi'
          · exact h
    · exact h
  · exact h
end
end Go.Proofs.YtpdjnefgkcmdnaaGreatDoor
/- Rename keeps the document's file system sound; sizes. -/
namespace Go.Proofs.YtpdjnefgkcmdnaaGreatDoor
open Go.RowKit
set_option linter.unusedSimpArgs false
set_option linter.unusedVariables false
set_option maxRecDepth 100000

theorem pair_mem {α : Type} {R : α → α → Prop} {L : List α} (h : L.Pairwise R) {x y : α} (hx : x ∈ L) (hy : y ∈ L) : x = y ∨ R x y ∨ R y x := by
  induction L with
  | nil => cases hx
  | cons z r ih =>
    rw [List.pairwise_cons] at h
    rcases List.mem_cons.1 hx with e | e <;> rcases List.mem_cons.1 hy with e' | e'
    · exact .inl (e.trans e'.symm)
    · subst e; exact .inr (.inl (h.1 y e'))
    · subst e'; exact .inr (.inr (h.1 x e))
    · exact ih h.2 e e'
theorem cntE_zero {E : List EntM} {d : Nat} (h : ¬ 0 < cntE E d) (t : ByteArray) : lookE E d t = none := by
  cases hl : lookE E d t with
  | none => rfl
  | some m =>
    obtain ⟨x, hx, h1, _, _⟩ := lookE_mem hl
    refine absurd ?_ h
    unfold cntE
    exact List.length_pos_iff_exists_mem.2 ⟨x, List.mem_filter.2 ⟨hx, decide_eq_true h1⟩⟩
/-- a directory has one name alone -/
theorem FsC.one {F : FsM} {δ : Nat → Int} (h : FsC F δ) {a b k : Nat} {x y : ByteArray} (hx : lookE F.E a x = some k) (hy : lookE F.E b y = some k) (hd : F.dir k = true) : a = b ∧ x = y := by
  obtain ⟨u, hu, rfl, rfl, rfl⟩ := lookE_mem hx
  obtain ⟨v, hv, rfl, rfl, e⟩ := lookE_mem hy
  rcases pair_mem h.du hu hv with q | q | q
  · rw [q]; exact ⟨rfl, rfl⟩
  · have := q e.symm; rw [hd] at this; cases this
  · have := q e; rw [e, hd] at this; cases this
/-- a walk that does not need a name that goes -/
theorem walk_free {F G : FsM} {d m : Nat} {s : ByteArray} (hd : ∀ i, G.dir i = F.dir i) (he : ∀ k t, ¬ (k = d ∧ t = s) → lookE G.E k t = lookE F.E k t) (hm : lookE F.E d s = some m) (hdead : F.dir m = true → ∀ t, lookE F.E m t = none) :
    ∀ (A : List ByteArray) (n f : Nat), walkF F n A = (0, f) → F.dir f = true → (∃ t k, lookE F.E f t = some k) → walkF G n A = (0, f)
  | [], n, f, hw, _, _ => hw
  | t :: A, n, f, hw, hf, hn => by
    unfold walkF at hw ⊢
    rw [hd]
    by_cases h1 : F.dir n = true
    · rw [if_pos h1] at hw ⊢
      by_cases hq : n = d ∧ t = s
      · rw [hq.1, hq.2, hm] at hw
        have hw' : walkF F m A = (0, f) := hw
        exfalso
        cases A with
        | nil =>
          have e : m = f := (Prod.mk.inj hw').2
          subst e
          obtain ⟨t', k, hk⟩ := hn
          rw [hdead hf t'] at hk; cases hk
        | cons t' A =>
          unfold walkF at hw'
          by_cases h2 : F.dir m = true
          · rw [if_pos h2, hdead h2 t'] at hw'; cases hw'
          · rw [if_neg h2] at hw'; cases hw'
      · rw [he n t hq]
        cases hl : lookE F.E n t with
        | none => rw [hl] at hw; cases hw
        | some k =>
          rw [hl] at hw
          exact walk_free hd he hm hdead A k f hw hf hn
    · rw [if_neg h1] at hw; cases hw
theorem freedF_len (F : FsM) (d : Nat) (s : ByteArray) (m : Nat) : (freedF F d s m).N.length = F.N.length := by
  unfold freedF; split
  · rfl
  · exact List.length_set
theorem freedF_E (F : FsM) (d : Nat) (s : ByteArray) (m : Nat) : (freedF F d s m).E = takeE F.E d s := by unfold freedF; split <;> rfl
theorem freedF_O (F : FsM) (d : Nat) (s : ByteArray) (m : Nat) : (freedF F d s m).O = F.O := by unfold freedF; split <;> rfl
theorem freedF_dir {F : FsM} {d : Nat} {s : ByteArray} {m : Nat} (hm : m < F.N.length) (i : Nat) : (freedF F d s m).dir i = F.dir i := by
  unfold freedF; split
  · rfl
  · exact linkF_dir (F := takeF F d s) hm (-1) i
/-- what a rename asks of the node whose name it takes -/
structure RenOk (F : FsM) (n m : Nat) : Prop where
  ne : m ≠ n
  a : ¬ (F.dir n = true ∧ F.dir m = false)
  b : ¬ (F.dir n = true ∧ 0 < cntE F.E m)
  c : ¬ (F.dir n = false ∧ F.dir m = true)
theorem RenOk.dead {F : FsM} {n m : Nat} (h : RenOk F n m) (hd : F.dir m = true) (t : ByteArray) : lookE F.E m t = none := by
  refine cntE_zero (fun q => h.b ⟨?_, q⟩) t
  cases hn : F.dir n with
  | true => rfl
  | false => exact absurd ⟨hn, hd⟩ h.c
theorem freed_place {F : FsM} {δ : Nat → Int} (h : FsC F δ) {X : List UInt8} {d n m : Nat} {s : ByteArray} (hp : (placeF F X).1 = 0) (hx : lookE F.E (placeF F X).2.1 (placeF F X).2.2 = some n) (hl : lookE F.E d s = some m) (hr : RenOk F n m) :
    placeF (freedF F d s m) X = placeF F X ∧ ¬ ((placeF F X).2.1 = d ∧ (placeF F X).2.2 = s) := by
  have hne : ¬ ((placeF F X).2.1 = d ∧ (placeF F X).2.2 = s) := fun q => by
    rw [q.1, q.2, hl] at hx
    exact hr.ne (Option.some.inj hx)
  refine ⟨?_, hne⟩
  obtain ⟨M, x, hpo, h1, h2, e⟩ := place_cases hp
  have hm := (h.look_lt hl).1
  have hw : walkF (freedF F d s m) 0 M = (0, (walkF F 0 M).2) := by
    refine walk_free (d := d) (m := m) (s := s) (freedF_dir hm) (fun k t hk => by rw [freedF_E, lookE_take, if_neg hk]) hl hr.dead M 0 _ (by rw [← h1]) h2 ?_
    rw [e] at hx
    exact ⟨x, n, hx⟩
  rw [e, placeF_snoc hpo]
  unfold placeL
  rw [hw, if_pos rfl, if_pos (by rw [freedF_dir hm]; exact h2)]
section
variable {F : FsM} {X Y : List UInt8}
theorem FsOk.moved (h : FsOk F) {d n : Nat} {s : ByteArray} (hd : d < F.N.length ∧ F.dir d = true) (hs : mayN s = true) (hl : lookE F.E d s = none) (hx : lookE F.E (placeF F X).2.1 (placeF F X).2.2 = some n) : FsOk (movedF F X d s n) := by
  have h1 := h.toFsC.take hx
  have hu : (takeF F (placeF F X).2.1 (placeF F X).2.2).dir n = true → ∀ x ∈ (takeF F (placeF F X).2.1 (placeF F X).2.2).E, x.nd ≠ n := by
    intro hdn x hxm e
    obtain ⟨hm1, hm2⟩ := List.mem_filter.1 hxm
    have hlx := lookE_of h.ed hm1
    rw [e] at hlx
    obtain ⟨q1, q2⟩ := h.toFsC.one hlx hx hdn
    rw [decide_eq_true ⟨q1, q2⟩] at hm2; cases hm2
  have h2 := h1.put (d := d) (m := n) (s := s) hd (h.toFsC.look_lt hx) hs (by show lookE (takeE F.E _ _) d s = none; rw [lookE_take]; split; rfl; exact hl) hu
  refine h2.ok (fun i _ _ => ?_) (fun i hi _ => h.l20 i hi)
  show (0 : Int) + (if i = n then 1 else 0) - (if i = n then 1 else 0) = 0
  omega
theorem FsOk.rename_ (h : FsOk F) : FsOk (renameF F X Y).1 := by
  unfold renameF
  split
  · rename_i hc
    split
    · rename_i hf
      split
      · exact h
      · split
        · rename_i hp
          obtain ⟨p1, p2⟩ := h.toFsC.place hp
          have hn : ¬ pathO X = some [] := fun e => hc.2.1 (pathO_root.1 e)
          obtain ⟨x1, x2⟩ := place_of_find hf hn
          unfold renamedF
          split
          · rename_i hl; exact h.moved p1 p2 hl x2
          · rename_i m hl
            split
            · exact h
            · rename_i q0
              split
              · exact h
              · rename_i q1
                split
                · exact h
                · rename_i q2
                  split
                  · exact h
                  · rename_i q3
                    have hr : RenOk F (findF F X).2 m := ⟨q0, q1, q2, q3⟩
                    obtain ⟨e1, e2⟩ := freed_place h.toFsC x1 x2 hl hr
                    have hm := (h.toFsC.look_lt hl).1
                    refine (h.freed hl).moved ⟨by rw [freedF_len]; exact p1.1, by rw [freedF_dir hm]; exact p1.2⟩ p2 (by rw [freedF_E, lookE_take, if_pos ⟨rfl, rfl⟩]) ?_
                    rw [e1, freedF_E, lookE_take, if_neg e2]; exact x2
        · exact h
    · exact h
  · exact h
theorem FsOk.list_ (h : FsOk F) : FsOk (listF F X).1 := by unfold listF; split <;> (try split) <;> exact h
theorem FsOk.stat_ (h : FsOk F) : FsOk (statF F X).1 := by unfold statF; split <;> (try split) <;> exact h
/-- whatever holds of each kind's doing -/
theorem kindF_all {Pr : FsM × RepM → Prop} {F : FsM} {c : Int} {x : CallM} (h1 : Pr (openF F c x.p1 x.fl)) (h2 : Pr (closeF F c x.fd)) (h3 : Pr (readF F c x.fd x.off x.n)) (h4 : Pr (writeF F c x.fd x.off x.data)) (h5 : Pr (truncF F c x.fd x.n)) (h6 : Pr (syncF F c x.fd)) (h7 : Pr (mkdirF F x.p1)) (h8 : Pr (rmdirF F x.p1)) (h9 : Pr (linksF F x.p1 x.p2)) (h10 : Pr (unlinkF F x.p1)) (h11 : Pr (renameF F x.p1 x.p2)) (h12 : Pr (listF F x.p1)) (h13 : Pr (statF F x.p1)) (h0 : Pr (F, errR 15)) : Pr (kindF F c x) := by
  unfold kindF
  by_cases k1 : x.kind = 1
  · rw [if_pos k1]; exact h1
  rw [if_neg k1]
  by_cases k2 : x.kind = 2
  · rw [if_pos k2]; exact h2
  rw [if_neg k2]
  by_cases k3 : x.kind = 3
  · rw [if_pos k3]; exact h3
  rw [if_neg k3]
  by_cases k4 : x.kind = 4
  · rw [if_pos k4]; exact h4
  rw [if_neg k4]
  by_cases k5 : x.kind = 5
  · rw [if_pos k5]; exact h5
  rw [if_neg k5]
  by_cases k6 : x.kind = 6
  · rw [if_pos k6]; exact h6
  rw [if_neg k6]
  by_cases k7 : x.kind = 7
  · rw [if_pos k7]; exact h7
  rw [if_neg k7]
  by_cases k8 : x.kind = 8
  · rw [if_pos k8]; exact h8
  rw [if_neg k8]
  by_cases k9 : x.kind = 9
  · rw [if_pos k9]; exact h9
  rw [if_neg k9]
  by_cases k10 : x.kind = 10
  · rw [if_pos k10]; exact h10
  rw [if_neg k10]
  by_cases k11 : x.kind = 11
  · rw [if_pos k11]; exact h11
  rw [if_neg k11]
  by_cases k12 : x.kind = 12
  · rw [if_pos k12]; exact h12
  rw [if_neg k12]
  by_cases k13 : x.kind = 13
  · rw [if_pos k13]; exact h13
  rw [if_neg k13]
  exact h0
theorem FsOk.do_ (h : FsOk F) (c : Int) (x : CallM) : FsOk (doF F c x).1 := by
  unfold doF
  split
  · exact h
  · rename_i hc
    have hc' : 1 ≤ c ∧ c ≤ 8 := by omega
    exact kindF_all (Pr := fun p => FsOk p.1) (h.open_ hc' _) (h.close_ _ _) (h.read_ _ _ _ _) (h.write_ _ _ _ _) (h.trunc_ _ _ _) (h.sync_ _ _) (h.mkdir_ ) (h.rmdir_ ) (h.link_ ) (h.unlink_ ) (h.rename_ ) (h.list_ ) (h.stat_ ) h
/-- how many nodes, names, descriptors there are -/
def SzF (F : FsM) (n : Nat) : Prop := F.N.length ≤ n + 1 ∧ F.E.length ≤ n ∧ F.O.length ≤ n
theorem SzF.sm {n : Nat} (h : SzF F n) (hn : n ≤ 900) : SmF F := ⟨by have := h.1; omega, by have := h.2.1; omega, by have := h.2.2; omega⟩
theorem takeE_le (E : List EntM) (d : Nat) (s : ByteArray) : (takeE E d s).length ≤ E.length := List.length_filter_le _ _
theorem SzF.mono {n : Nat} (h : SzF F n) : SzF F (n + 1) := ⟨by have := h.1; omega, by have := h.2.1; omega, by have := h.2.2; omega⟩
theorem SzF.step {n : Nat} (h : SzF F n) {N : List NodeM} {E : List EntM} {O : List OpM} (h1 : N.length ≤ F.N.length + 1) (h2 : E.length ≤ F.E.length + 1) (h3 : O.length ≤ F.O.length + 1) : SzF ⟨N, E, O⟩ (n + 1) :=
  ⟨by have := h.1; show N.length ≤ _; omega, by have := h.2.1; show E.length ≤ _; omega, by have := h.2.2; show O.length ≤ _; omega⟩
theorem szE_app (E : List EntM) (x : EntM) : (E ++ [x]).length ≤ E.length + 1 := by rw [List.length_append]; exact Nat.le_refl _
theorem szO_app (O : List OpM) (x : OpM) : (O ++ [x]).length ≤ O.length + 1 := by rw [List.length_append]; exact Nat.le_refl _
theorem szN_app (N : List NodeM) (x : NodeM) : (N ++ [x]).length ≤ N.length + 1 := by rw [List.length_append]; exact Nat.le_refl _
theorem SzF.rename {n : Nat} (h : SzF F n) (d : Nat) (s : ByteArray) (m : Nat) : SzF (renamedF F X d s m).1 (n + 1) := by
  unfold renamedF
  split
  · exact h.step (Nat.le_succ _) (Nat.le_trans (szE_app _ _) (Nat.succ_le_succ (takeE_le _ _ _))) (Nat.le_succ _)
  · rename_i k _
    split
    · exact h.mono
    · split
      · exact h.mono
      · split
        · exact h.mono
        · split
          · exact h.mono
          · exact h.step (F := F) (by show (freedF F d s k).N.length ≤ _; rw [freedF_len]; omega) (Nat.le_trans (szE_app _ _) (Nat.succ_le_succ (Nat.le_trans (takeE_le _ _ _) (by rw [freedF_E]; exact takeE_le _ _ _)))) (by show (freedF F d s k).O.length ≤ _; rw [freedF_O]; omega)
theorem SzF.close {n : Nat} (h : SzF F n) (c fd : Int) : SzF (closeF F c fd).1 (n + 1) := by
  unfold closeF
  split
  · exact h.mono
  · exact h.step (Nat.le_succ _) (Nat.le_succ _) (Nat.le_trans (List.length_filter_le _ _) (Nat.le_succ _))
theorem SzF.open_ {n : Nat} (h : SzF F n) (c fl : Int) : SzF (openF F c X fl).1 (n + 1) := by
  unfold openF
  split
  · split
    · split
      · exact h.mono
      · split
        · exact h.mono
        · split
          · exact h.mono
          · exact h.step (Nat.le_succ _) (Nat.le_succ _) (szO_app _ _)
    · split
      · split
        · exact h.mono
        · exact h.step (szN_app _ _) (szE_app _ _) (szO_app _ _)
      · exact h.mono
  · exact h.mono
theorem SzF.data {n : Nat} (h : SzF F n) (k : Nat) (d : List UInt8) : SzF (dataF F k d) (n + 1) := h.step (by rw [List.length_set]; exact Nat.le_succ _) (Nat.le_succ _) (Nat.le_succ _)
theorem SzF.write {n : Nat} (h : SzF F n) (c fd off : Int) (b : List UInt8) : SzF (writeF F c fd off b).1 (n + 1) := by
  unfold writeF
  split
  · exact h.mono
  · split
    · exact h.mono
    · split
      · exact h.mono
      · split
        · exact h.mono
        · exact h.data _ _
theorem SzF.trunc {n : Nat} (h : SzF F n) (c fd m : Int) : SzF (truncF F c fd m).1 (n + 1) := by
  unfold truncF
  split
  · exact h.mono
  · split
    · exact h.mono
    · split
      · exact h.mono
      · exact h.data _ _
theorem SzF.mkdir {n : Nat} (h : SzF F n) : SzF (mkdirF F X).1 (n + 1) := by
  unfold mkdirF
  split
  · exact h.mono
  · split
    · exact h.step (szN_app _ _) (szE_app _ _) (Nat.le_succ _)
    · exact h.mono
theorem SzF.take {n : Nat} (h : SzF F n) (d : Nat) (s : ByteArray) : SzF (takeF F d s) (n + 1) := h.step (Nat.le_succ _) (Nat.le_trans (takeE_le _ _ _) (Nat.le_succ _)) (Nat.le_succ _)
theorem SzF.rmdir {n : Nat} (h : SzF F n) : SzF (rmdirF F X).1 (n + 1) := by
  unfold rmdirF
  split
  · exact h.mono
  · split
    · split
      · split
        · exact h.mono
        · exact h.take _ _
      · exact h.mono
    · exact h.mono
theorem SzF.unlink {n : Nat} (h : SzF F n) : SzF (unlinkF F X).1 (n + 1) := by
  unfold unlinkF
  split
  · split
    · exact h.mono
    · exact h.step (F := F) (by show (List.set _ _ _).length ≤ _; rw [List.length_set]; exact Nat.le_succ _) (Nat.le_trans (takeE_le _ _ _) (Nat.le_succ _)) (Nat.le_succ _)
  · exact h.mono
theorem SzF.links {n : Nat} (h : SzF F n) : SzF (linksF F X Y).1 (n + 1) := by
  unfold linksF
  split
  · split
    · split
      · exact h.mono
      · split
        · exact h.mono
        · split
          · split
            · exact h.mono
            · split
              · exact h.mono
              · exact h.step (F := F) (by show (List.set _ _ _).length ≤ _; rw [List.length_set]; exact Nat.le_succ _) (szE_app _ _) (Nat.le_succ _)
          · exact h.mono
    · exact h.mono
  · exact h.mono
theorem SzF.renames {n : Nat} (h : SzF F n) : SzF (renameF F X Y).1 (n + 1) := by
  unfold renameF
  split
  · split
    · split
      · exact h.mono
      · split
        · exact h.rename _ _ _
        · exact h.mono
    · exact h.mono
  · exact h.mono
theorem SzF.list {n : Nat} (h : SzF F n) : SzF (listF F X).1 (n + 1) := by unfold listF; split <;> (try split) <;> exact h.mono
theorem SzF.stat {n : Nat} (h : SzF F n) : SzF (statF F X).1 (n + 1) := by unfold statF; split <;> (try split) <;> exact h.mono
theorem SzF.read {n : Nat} (h : SzF F n) (c fd off m : Int) : SzF (readF F c fd off m).1 (n + 1) := by
  unfold readF
  split
  · exact h.mono
  · split <;> exact h.mono
theorem SzF.sync {n : Nat} (h : SzF F n) (c fd : Int) : SzF (syncF F c fd).1 (n + 1) := by unfold syncF; split <;> exact h.mono
theorem SzF.do_ {n : Nat} (h : SzF F n) (c : Int) (x : CallM) : SzF (doF F c x).1 (n + 1) := by
  unfold doF
  split
  · exact h.mono
  · exact kindF_all (Pr := fun p => SzF p.1 (n + 1)) (h.open_ _ _) (h.close _ _) (h.read _ _ _ _) (h.write _ _ _ _) (h.trunc _ _ _) (h.sync _ _) h.mkdir h.rmdir h.links h.unlink h.renames h.list h.stat h.mono
theorem fs0_sz : SzF fs0 0 := ⟨by decide, by decide, by decide⟩
end
end Go.Proofs.YtpdjnefgkcmdnaaGreatDoor
