/- The coder: a text that is read. -/
import Derived.Test.YtanediaaidfcaaaWirMa
namespace Go.Proofs.Ytanediaaidfcaaa
open Go.RowKit
set_option linter.unusedSimpArgs false
set_option linter.unusedVariables false

/-- what reading a text leaves: the place, has something failed, the text -/
def textG (xs : List UInt8) (k most at_ : Nat) (no : Bool) (s0 : List UInt8) : Nat × Bool × List UInt8 :=
  if no = true then (at_, true, s0) else match getF xs at_ k with
    | none => (at_ + k, true, s0)
    | some v => if v ≤ most then (if xs.length < at_ + k + v then (at_ + k, true, s0) else (at_ + k + v, false, (xs.drop (at_ + k)).take v)) else (at_ + k, true, s0)

set_option maxHeartbeats 600000 in
theorem textG_any {W0 w : World} {g : Nat} {a : Option Addr} {c : Nat} {xs : List UInt8} {at_ : Nat} {no : Bool} (h : CoG w g a c xs at_ no) (r0 : RowB W0 a c xs) (b0 : Below W0.heap.size W0 w) (hg : W0.heap.size ≤ g) (hat : atOk xs at_ no) (hl : xs.length ≤ 1000000) (k most : Nat) (hk : k ≤ 8) (hm9 : most ≤ 1000)
    (f o : Nat) (Tf : TypeId) (L : List Value) (hfg : f ≠ g) (hf0 : W0.heap.size ≤ f) (hf : Blk w f Tf L) (s0 : List UInt8) (hs0 : s0.length ≤ 10000) (hL : L[o]? = some (strV s0)) :
    Calls Try.prog 59 #[.pointer (some ⟨g, 0, none⟩), .int .i64 k, .int .i64 most, .pointer (some ⟨f, o, none⟩)] w fun e w' => e = .returned (.tuple #[]) ∧ CoG w' g a c xs (textG xs k most at_ no s0).1 (textG xs k most at_ no s0).2.1 ∧ atOk xs (textG xs k most at_ no s0).1 (textG xs k most at_ no s0).2.1 ∧ Blk w' f Tf (L.set o (strV (textG xs k most at_ no s0).2.2)) ∧ Turns (fun x => x = g ∨ x = f) w w' := by
  have hol : o < L.length := (List.getElem?_eq_some_iff.1 hL).1
  have hLs : L.set o (strV s0) = L := by
    obtain ⟨h1, h2⟩ := List.getElem?_eq_some_iff.1 hL
    rw [← h2]; exact List.set_getElem_self h1
  have hcell : w.cell? ⟨f, o, none⟩ = some (strV s0) := by
    have := hf.cell (i := o) hol
    rw [this, ← hL, List.getElem?_eq_getElem hol]
  have hsz := strV_size s0
  unfold strV at hcell
  have hgl : g < w.heap.size := h.lt
  have hfl : f < w.heap.size := hf.lt
  obtain ⟨st, hst⟩ : ∃ st : ByteArray, st = ⟨s0.toArray⟩ := ⟨_, rfl⟩
  rw [← hst] at hsz hcell
  have hs1 : st.size ≤ 10000 := by omega
  have H := hid h; have HF := hid hf; have R0 := hid r0; have B0 := hid b0; have HLS := hid hLs
  clear h hst hsz hf r0 b0 hLs hL
  obtain ⟨w1, hw1⟩ : ∃ w1, w1 = (w.alloc (Obj.cells #[Value.int IntKind.i64 (st.size : Int)] 3)).alloc (Obj.cells #[Value.pointer (some { block := w.heap.size, off := 0 })] 71) := ⟨_, rfl⟩
  have b1 : Below w.heap.size w w1 := by rw [hw1]; exact kept_alloc (albO w _) _
  have s1 : w1.heap.size = w.heap.size + 2 := by rw [hw1]; simp
  have kn : Blk w1 w.heap.size 3 [.int .i64 (st.size : Int)] := by
    rw [hw1]; exact (blk_newO rfl _ _ : Blk (w.alloc (Obj.cells #[Value.int IntKind.i64 (st.size : Int)] 3)) w.heap.size 3 [.int .i64 (st.size : Int)]).mono (albO _ _)
  have ka : Blk w1 (w.heap.size + 1) 71 [.pointer (some ⟨w.heap.size, 0, none⟩)] := by
    rw [hw1]
    have : Blk ((w.alloc (Obj.cells #[Value.int IntKind.i64 (st.size : Int)] 3)).alloc (Obj.cells #[Value.pointer (some { block := w.heap.size, off := 0 })] 71)) (w.alloc (Obj.cells #[Value.int IntKind.i64 (st.size : Int)] 3)).heap.size 71 [.pointer (some ⟨w.heap.size, 0, none⟩)] := blk_newO rfl _ _
    simpa using this
  have hW0 : W0.heap.size ≤ w.heap.size := B0.out.size
  have b01 : Below W0.heap.size W0 w1 := B0.out.trans (b1.mono hW0)
  have hN := numbersG_any (w := w1) (g := g) (a := a) (c := c) (xs := xs) (s := ⟨at_, no, [.int .i64 (st.size : Int)]⟩) (show CoG w1 g a c xs at_ no from Blk.mono H.out b1) R0.out b01 hg hat hl k hk (some ⟨w.heap.size + 1, 0, none⟩) 1 w.heap.size 3 [0] (by decide) (row_blkO ka 1 1 rfl (by omega))
    (fun _ b hb => by obtain ⟨off, e⟩ := hb; cases e; omega) (by omega) hW0 kn (fun i hi => by
      obtain rfl : i = 0 := by simp at hi; omega
      exact Nat.one_pos)
  obtain ⟨S, hS⟩ : ∃ S, S = gStep xs k ⟨at_, no, [.int .i64 (st.size : Int)]⟩ 0 := ⟨_, rfl⟩
  rw [show [0].foldl (gStep xs k) ⟨at_, no, [.int .i64 (st.size : Int)]⟩ = S from hS.symm] at hN
  have hSL : ∃ nv : Int, S.L = [.int .i64 nv] ∧ 0 ≤ nv ∧ nv ≤ 9223372036854775807 ∧ (S.no = false → getF xs at_ k = some nv.toNat ∧ S.at_ = at_ + k ∧ no = false) ∧ (S.no = true → textG xs k most at_ no s0 = (S.at_, true, s0)) ∧ (S.no = false → ¬ nv ≤ most → textG xs k most at_ no s0 = (S.at_, true, s0)) := by
    unfold gStep at hS
    cases no with
    | true =>
      rw [if_pos rfl] at hS
      subst hS
      exact ⟨st.size, rfl, by omega, by omega, fun q => (by cases q), fun _ => (by unfold textG; rw [if_pos rfl]), fun q => (by cases q)⟩
    | false =>
      rw [if_neg (by simp)] at hS
      have hb := gStep_bd (xs := xs) (at_ := at_) (k := k)
      cases hv : getF xs at_ k with
      | none =>
        rw [hv] at hS
        subst hS
        exact ⟨0, rfl, by omega, by omega, fun q => (by simp at q), fun _ => (by unfold textG; rw [if_neg (by simp), hv]), fun q => (by simp at q)⟩
      | some v =>
        rw [hv] at hS hb
        subst hS
        exact ⟨v, rfl, by omega, by simpa using hb, fun _ => ⟨by simp, rfl, rfl⟩, fun q => (by simp at q), fun _ hnm => (by unfold textG; rw [if_neg (by simp), hv]; simp only; rw [if_neg (by omega)])⟩
  obtain ⟨nv, hnv, hnv0, hnv9, hgood, hbad1, hbad2⟩ := hSL
  rw [hnv] at hN
  have HN := hid hN; have HW1 := hid hw1; have B1 := hid b1; have HG := hid hgood; have HB1 := hid hbad1; have HB2 := hid hbad2
  clear hN hw1 b1 kn ka hnv hS hgood hbad1 hbad2 b01
  obtain ⟨okb, hok⟩ : ∃ okb, decide (nv ≤ (most : Int)) = okb := ⟨_, rfl⟩
  by_cases hor : (S.no || !okb) = true
  · have hE : textG xs k most at_ no s0 = (S.at_, true, s0) := by
      cases hSn : S.no with
      | true => exact HB1.out hSn
      | false =>
        rw [hSn, Bool.false_or] at hor
        refine HB2.out hSn (fun q => ?_)
        rw [decide_eq_true q] at hok
        rw [← hok] at hor; cases hor
    rw [hE]
    have HOR := hid hor
    clear hor hE
    go_enter Try.func59, Try.ntmps59
    go_wp2_with fail
    rw [← HW1.out]
    refine HN.out.mono ?_
    rintro e w2 ⟨rfl, hb2, hat2, hn2, _, t2⟩
    have n2 := hn2.cell (i := 0) (by simp)
    simp only [List.getElem_cons_zero] at n2
    have CB2 := hid hb2; have T2 := hid t2; have HAT2 := hid hat2
    clear hb2 t2 hn2 hat2
    go_wp2_with fail
    refine (check_any CB2.out okb).mono ?_
    rintro e w3 ⟨rfl, hw3⟩
    rw [HOR.out] at hw3
    have hb3 : Blk w3 g 52 [.bool false, .slice a xs.length c, .int .i64 (S.at_ : Int), .bool true] := by rw [hw3]; exact Blk.set CB2.out 3 _
    have t3 : Turns (fun x => x = g) w2 w3 := by rw [hw3]; exact turns_setG g 3 _
    have x3 := hb3.cell (i := 3) (by simp)
    simp only [List.getElem_cons_zero, List.getElem_cons_succ] at x3
    have T3 := hid t3; have CB3 := hid hb3
    clear hb3 t3 hw3 n2
    go_wp2_with fail
    go_end0
    have ht : Turns (fun x => x = g ∨ x = f) w w3 := ((Turns.of_below B1.out).trans' (T2.out.trans (T3.out.mono (fun _ q => .inl q))) (fun x hx q => q.elim .inl (fun e => by omega)))
    refine ⟨rfl, CB3.out, ⟨HAT2.out.1, fun q => (by cases q)⟩, ?_, ht⟩
    rw [HLS.out]
    have h1 := (Blk.mono HF.out B1.out)
    have hfs : f ≠ w.heap.size := by omega
    exact T3.out.blk (T2.out.blk h1 (fun q => q.elim hfg hfs)) hfg
  · obtain ⟨hSn, rfl⟩ : S.no = false ∧ okb = true := by
      cases h1 : S.no <;> cases okb <;> rw [h1] at hor <;> simp at hor ⊢
    obtain ⟨hgf, hSa, rfl⟩ := HG.out hSn
    obtain ⟨v, rfl⟩ : ∃ v : Nat, nv = (v : Int) := ⟨nv.toNat, by omega⟩
    rw [Int.toNat_natCast] at hgf
    have hvm : v ≤ most := by have := of_decide_eq_true hok; omega
    rw [hSn] at HN
    have hE : textG xs k most at_ false s0 = if xs.length < S.at_ + v then (S.at_, true, s0) else (S.at_ + v, false, (xs.drop S.at_).take v) := by
      unfold textG
      rw [if_neg (by simp), hgf]
      simp only
      rw [if_pos hvm, hSa]
    have hpos : 0 < xs.length := by
      unfold getF at hgf
      split at hgf
      · next h1 => have := widthB_le h1.1; omega
      · cases hgf
    rw [hE]
    generalize S.at_ = at1 at *
    have hok2 : decide (v ≤ most) = true := decide_eq_true hvm
    have hat1 : at1 ≤ xs.length := by
      unfold getF at hgf
      split at hgf
      · next h1 => omega
      · cases hgf
    clear hE hgf hSa hSn hor HB1 HB2 HG hnv0
    have d1 : IntKind.i64.wrap ((xs.length : Int) - (at1 : Int)) = (xs.length : Int) - (at1 : Int) := IntWalk.i64_in _ (by omega)
    by_cases hlt : xs.length < at1 + v
    · rw [if_pos hlt]
      have d2 : decide ((xs.length : Int) - (at1 : Int) < (v : Int)) = true := decide_eq_true (by omega)
      go_enter Try.func59, Try.ntmps59
      go_wp2_with fail
      rw [← HW1.out]
      refine HN.out.mono ?_
      rintro e w2 ⟨rfl, hb2, hat2, hn2, _, t2⟩
      have n2 := hn2.cell (i := 0) (by simp)
      simp only [List.getElem_cons_zero] at n2
      have CB2 := hid hb2; have T2 := hid t2; have HN2 := hid hn2
      clear hb2 t2 hn2 hat2
      go_wp2_with fail
      refine (check_any CB2.out true).mono ?_
      rintro e w3 ⟨rfl, hw3⟩
      have hb3 : Blk w3 g 52 [.bool false, .slice a xs.length c, .int .i64 (at1 : Int), .bool false] := by rw [hw3]; exact Blk.set CB2.out 3 _
      have t3 : Turns (fun x => x = g) w2 w3 := by rw [hw3]; exact turns_setG g 3 _
      have x0 := hb3.cell (i := 0) (by simp)
      have x1 := hb3.cell (i := 1) (by simp)
      have x2 := hb3.cell (i := 2) (by simp)
      have x3 := hb3.cell (i := 3) (by simp)
      have z2 := hb3.frozen 2
      have z3 := hb3.frozen 3
      simp only [List.getElem_cons_zero, List.getElem_cons_succ] at x0 x1 x2 x3
      have kn3 := t3.blk HN2.out (by omega)
      have n3 := kn3.cell (i := 0) (by simp)
      simp only [List.getElem_cons_zero] at n3
      have hfs : f ≠ w.heap.size := by omega
      have hf3 := t3.blk (T2.out.blk (Blk.mono HF.out B1.out) (fun q => q.elim hfg hfs)) hfg
      have ht : Turns (fun x => x = g ∨ x = f) w w3 := ((Turns.of_below B1.out).trans' (T2.out.trans (t3.mono (fun _ q => .inl q))) (fun x hx q => q.elim .inl (fun e => by omega)))
      have CB3 := hid hb3; have HF3 := hid hf3; have HT := hid ht; have KN3 := hid kn3
      clear hb3 t3 hw3 n2 hf3 ht kn3
      go_wp2_with fail
      go_region
      all_goals
        go_wp2_with fail
        go_end0
        have hwd : Below w3.heap.size w3 (w3.drewN 1) := bel_drewN (Below.refl _ _) 1
        refine ⟨rfl, Blk.set (CB3.out.mono hwd) 3 (.bool true), ⟨by omega, fun q => (by cases q)⟩, ?_, (HT.out.trans (Turns.of_below hwd)).trans ((turns_setG g 3 _).mono (fun _ q => .inl q))⟩
        have tq : Turns (fun x => x = g) w3 ((w3.drewN 1).setCell ⟨g, 3, none⟩ (.bool true)) := (Turns.of_below hwd).trans (turns_setG g 3 _)
        rw [HLS.out]
        exact tq.blk HF3.out hfg
    · rw [if_neg hlt]
      obtain ⟨ys, hys⟩ : ∃ ys, ys = (xs.drop at1).take v := ⟨_, rfl⟩
      rw [← hys]
      have HYS := hid hys
      clear hys
      have d2 : decide ((xs.length : Int) - (at1 : Int) < (v : Int)) = false := decide_eq_false (by omega)
      go_enter Try.func59, Try.ntmps59
      go_wp2_with fail
      rw [← HW1.out]
      refine HN.out.mono ?_
      rintro e w2 ⟨rfl, hb2, hat2, hn2, _, t2⟩
      have n2 := hn2.cell (i := 0) (by simp)
      simp only [List.getElem_cons_zero] at n2
      have CB2 := hid hb2; have T2 := hid t2; have HN2 := hid hn2
      clear hb2 t2 hn2 hat2
      go_wp2_with fail
      refine (check_any CB2.out true).mono ?_
      rintro e w3 ⟨rfl, hw3⟩
      have hb3 : Blk w3 g 52 [.bool false, .slice a xs.length c, .int .i64 (at1 : Int), .bool false] := by rw [hw3]; exact Blk.set CB2.out 3 _
      have t3 : Turns (fun x => x = g) w2 w3 := by rw [hw3]; exact turns_setG g 3 _
      have x0 := hb3.cell (i := 0) (by simp)
      have x1 := hb3.cell (i := 1) (by simp)
      have x2 := hb3.cell (i := 2) (by simp)
      have x3 := hb3.cell (i := 3) (by simp)
      have z2 := hb3.frozen 2
      have z3 := hb3.frozen 3
      simp only [List.getElem_cons_zero, List.getElem_cons_succ] at x0 x1 x2 x3
      have kn3 := t3.blk HN2.out (by omega)
      have n3 := kn3.cell (i := 0) (by simp)
      simp only [List.getElem_cons_zero] at n3
      have hfs : f ≠ w.heap.size := by omega
      have hf3 := t3.blk (T2.out.blk (Blk.mono HF.out B1.out) (fun q => q.elim hfg hfs)) hfg
      have ht : Turns (fun x => x = g ∨ x = f) w w3 := ((Turns.of_below B1.out).trans' (T2.out.trans (t3.mono (fun _ q => .inl q))) (fun x hx q => q.elim .inl (fun e => by omega)))
      have CB3 := hid hb3; have HF3 := hid hf3; have HT := hid ht; have KN3 := hid kn3
      clear hb3 t3 hw3 n2 hf3 ht kn3
      have q0 : w3.cell? ⟨f, o, none⟩ = some (L[o]'hol) := HF3.out.cell hol
      have qf := HF3.out.frozen o
      obtain ⟨b, off, rfl, hbw, _⟩ := R0.out.bytes hpos
      have hc1 := R0.out.2.1
      have hc2 := R0.out.2.2.1
      unfold maxLen at hc2
      obtain ⟨dp, hdp⟩ : ∃ dp, (if c = at1 then (some ⟨b, off, none⟩ : Option Addr) else some ⟨b, off + at1, none⟩) = dp := ⟨_, rfl⟩
      have hr3 : Below W0.heap.size W0 w3 := B0.out.trans (HT.out.below hW0 (fun x hx => by rcases hx with e | e <;> rw [e] <;> assumption))
      have R6 := row_part (R0.out.mono hr3) at1 v (by omega) hdp
      have hcv := run_str (R6.1.mono ((Below.refl _ _).drew).drew)
      rw [R6.2, ← HYS.out] at hcv
      have i0 : 0 ≤ (at1 : Int) + (v : Int) := by omega
      have i1 : (at1 : Int) ≤ (at1 : Int) + (v : Int) := by omega
      have i2 : ((at1 : Int) + (v : Int)).toNat = at1 + v := by omega
      have i3 : (at1 : Int) + (v : Int) ≤ (c : Int) := by omega
      have i4 : at1 + v - at1 = v := by omega
      have e1 : IntKind.i64.wrap ((at1 : Int) + (v : Int)) = (at1 : Int) + (v : Int) := IntWalk.i64_in _ (by omega)
      clear R6 hr3
      go_wp2_with fail
      go_region
      all_goals
        go_wp2_with fail
      go_region
      all_goals
        go_wp2_with fail
      have t4 : Turns (fun x => x = f) w3 (w3.setCell ⟨f, o, none⟩ (.string ⟨ys.toArray⟩)) := turns_setG f o _
      have hb4 := t4.blk CB3.out (fun q => hfg q.symm)
      have kn4 := t4.blk KN3.out (fun q => hfs q.symm)
      have hf4 : Blk (w3.setCell ⟨f, o, none⟩ (.string ⟨ys.toArray⟩)) f Tf (L.set o (.string ⟨ys.toArray⟩)) := Blk.set HF3.out o _
      have y2 := hb4.cell (i := 2) (by simp)
      have yf := hb4.frozen 2
      have n4 := kn4.cell (i := 0) (by simp)
      simp only [List.getElem_cons_zero, List.getElem_cons_succ] at y2 n4
      have T4 := hid t4; have CB4 := hid hb4; have HF4 := hid hf4
      clear t4 hb4 kn4 hf4 hcv
      generalize w3.setCell ⟨f, o, none⟩ (.string ⟨ys.toArray⟩) = w4 at *
      go_region
      all_goals
        go_wp2_with fail
        go_end0
        have hwd : Below w4.heap.size w4 w4.drew.drew.drew := (((Below.refl _ _).drew).drew).drew
        have tq : Turns (fun x => x = g) w4 (w4.drew.drew.drew.setCell ⟨g, 2, none⟩ (.int .i64 ((at1 : Int) + (v : Int)))) := (Turns.of_below hwd).trans (turns_setG g 2 _)
        refine ⟨rfl, ?_, ⟨by omega, fun _ => by omega⟩, tq.blk HF4.out hfg, (HT.out.trans (T4.out.mono (fun _ q => .inr q))).trans (tq.mono (fun _ q => .inl q))⟩
        show Blk _ g _ [.bool false, .slice (some ⟨b, off, none⟩) xs.length c, .int .i64 ((at1 + v : Nat) : Int), .bool false]
        rw [Int.natCast_add]
        exact Blk.set (CB4.out.mono hwd) 2 (.int .i64 ((at1 : Int) + (v : Int)))
end Go.Proofs.Ytanediaaidfcaaa
