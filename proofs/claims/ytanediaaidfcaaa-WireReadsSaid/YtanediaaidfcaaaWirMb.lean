/- Merged: WirJ WirK WirL WirM WirN. -/
import Derived.Test.YtanediaaidfcaaaWirI
/- The coder at a packet's fields: one number, two numbers, put and read. -/
namespace Go.Proofs.Ytanediaaidfcaaa
open Go.RowKit
set_option linter.unusedSimpArgs false
set_option linter.unusedVariables false

theorem pk_cell {w : World} {pk : Nat} {P : PkM} {na : Option Addr} {nn nc o : Nat} (h : Blk w pk 35 (pkC P na nn nc)) (ho : isNum o = true) : w.cell? ⟨pk, o, none⟩ = some (.int .i64 (P.I o)) := by
  have h1 := pkC_num P na nn nc ho
  obtain ⟨h2, h3⟩ := List.getElem?_eq_some_iff.1 h1
  rw [← h3]; exact h.cell h2
theorem pk_lt {o : Nat} (h : isNum o = true) : o < 43 := by simp [isNum] at h; omega
/-- two or one pointers in a row of their own -/
theorem ptrs_row {w : World} {pk : Nat} (os : List Nat) (hos : os.length ≤ 10) :
    Row (w.alloc (.cells ((os.map fun o => (.pointer (some ⟨pk, o, none⟩) : Value))).toArray 71)) 1 (some ⟨w.heap.size, 0, none⟩) os.length os.length (os.map fun o => .pointer (some ⟨pk, o, none⟩)) :=
  row_blkO (blk_newO rfl _ _) 1 os.length (by simp) (by omega)

/-- numbers of a packet are put -/
theorem numsP_any {w : World} {g B pk : Nat} {m : WM} {P : PkM} {na : Option Addr} {nn nc : Nat} (h : CoP w g B m) (hBw : B ≤ w.heap.size) (hp : Blk w pk 35 (pkC P na nn nc)) (hP : smallP P) (k : Nat) (hk : k ≤ 8) (os : List Nat) (ho : ∀ o ∈ os, isNum o = true) (hfew : os.length ≤ 10) (hl : m.b.length ≤ 1000000) :
    Calls Try.prog 31 #[.pointer (some ⟨g, 0, none⟩), .int .i64 k, .slice (some ⟨w.heap.size, 0, none⟩) os.length os.length] (w.alloc (.cells ((os.map fun o => (.pointer (some ⟨pk, o, none⟩) : Value))).toArray 71))
      fun e w' => e = .returned (.tuple #[]) ∧ CoP w' g B ((os.map P.I).foldl (numP k) m) ∧ Turns (fun x => x = g) w w' := by
  have hgl : g < w.heap.size := by obtain ⟨_, _, hb, _⟩ := h; exact hb.lt
  have hne : pk ≠ g := by obtain ⟨_, _, hb, _⟩ := h; exact blk_ne hp hb (by decide)
  have b1 : Below w.heap.size w (w.alloc (.cells ((os.map fun o => (.pointer (some ⟨pk, o, none⟩) : Value))).toArray 71)) := albO w _
  have hs : w.heap.size ≤ (w.alloc (.cells ((os.map fun o => (.pointer (some ⟨pk, o, none⟩) : Value))).toArray 71)).heap.size := b1.size
  have h1 : CoP (w.alloc (.cells ((os.map fun o => (.pointer (some ⟨pk, o, none⟩) : Value))).toArray 71)) g B m := by
    obtain ⟨a, c, hb, hw⟩ := h
    exact ⟨a, c, hb.mono b1, hw.mono b1⟩
  refine (numbersP_any h1 (Nat.le_trans hBw hs) k hk (some ⟨w.heap.size, 0, none⟩) os.length pk os (os.map P.I) (by simp) hfew hl (ptrs_row os hfew) (fun _ b hb => by obtain ⟨off, e⟩ := hb; cases e; omega) hne (Nat.lt_of_lt_of_le hp.lt hs) (fun i hi => ?_)).mono ?_
  · have e1 : os.getD i 0 = os[i] := by simp [hi]
    have e2 : (os.map P.I).getD i 0 = P.I os[i] := by simp [hi]
    rw [e1, e2]
    exact ⟨pk_cell (hp.mono b1) (ho _ (List.getElem_mem hi)), hP _⟩
  · rintro e w' ⟨rfl, h2, h3⟩
    exact ⟨rfl, h2, (Turns.of_below b1).trans h3⟩

/-- a packet that is read: the place, has something failed, what was read -/
structure RM where
  at_ : Nat
  no : Bool
  P : PkM
def rNum (xs : List UInt8) (k : Nat) (s : RM) (o : Nat) : RM := if s.no = true then s else ⟨s.at_ + k, !(getF xs s.at_ k).isSome, setI s.P o (((getF xs s.at_ k).getD 0 : Nat) : Int)⟩
def gmOf (s : RM) (na : Option Addr) (nn nc : Nat) : GM := ⟨s.at_, s.no, pkC s.P na nn nc⟩
theorem gStep_pk (xs : List UInt8) (k : Nat) (s : RM) (na : Option Addr) (nn nc o : Nat) (ho : isNum o = true) : gStep xs k (gmOf s na nn nc) o = gmOf (rNum xs k s o) na nn nc := by
  by_cases h : s.no = true
  · have e1 : gStep xs k (gmOf s na nn nc) o = gmOf s na nn nc := if_pos h
    have e2 : rNum xs k s o = s := if_pos h
    rw [e1, e2]
  · have e1 : gStep xs k (gmOf s na nn nc) o = ⟨s.at_ + k, !(getF xs s.at_ k).isSome, (pkC s.P na nn nc).set o (.int .i64 (((getF xs s.at_ k).getD 0 : Nat) : Int))⟩ := if_neg h
    have e2 : rNum xs k s o = ⟨s.at_ + k, !(getF xs s.at_ k).isSome, setI s.P o (((getF xs s.at_ k).getD 0 : Nat) : Int)⟩ := if_neg h
    rw [e1, e2, pkC_setI _ _ _ _ ho]
    rfl
theorem gFold_pk (xs : List UInt8) (k : Nat) (os : List Nat) (s : RM) (na : Option Addr) (nn nc : Nat) (ho : ∀ o ∈ os, isNum o = true) : os.foldl (gStep xs k) (gmOf s na nn nc) = gmOf (os.foldl (rNum xs k) s) na nn nc := by
  induction os generalizing s with
  | nil => rfl
  | cons o os ih =>
    show os.foldl (gStep xs k) (gStep xs k (gmOf s na nn nc) o) = _
    rw [gStep_pk xs k s na nn nc o (ho o (List.mem_cons_self ..)), ih _ (fun q hq => ho q (List.mem_cons_of_mem _ hq))]
    rfl
/-- the coder that reads, and the packet -/
def RdP (W0 w : World) (g pk : Nat) (a : Option Addr) (c : Nat) (xs : List UInt8) (na : Option Addr) (nn nc : Nat) (s : RM) : Prop :=
  CoG w g a c xs s.at_ s.no ∧ atOk xs s.at_ s.no ∧ Blk w pk 35 (pkC s.P na nn nc) ∧ Below W0.heap.size W0 w
theorem numsG_any {W0 w : World} {g pk : Nat} {a : Option Addr} {c : Nat} {xs : List UInt8} {na : Option Addr} {nn nc : Nat} {s : RM} (h : RdP W0 w g pk a c xs na nn nc s) (r0 : RowB W0 a c xs) (hg : W0.heap.size ≤ g) (hpk : W0.heap.size ≤ pk) (hl : xs.length ≤ 1000000) (k : Nat) (hk : k ≤ 8) (os : List Nat) (ho : ∀ o ∈ os, isNum o = true) (hfew : os.length ≤ 10) :
    Calls Try.prog 31 #[.pointer (some ⟨g, 0, none⟩), .int .i64 k, .slice (some ⟨w.heap.size, 0, none⟩) os.length os.length] (w.alloc (.cells ((os.map fun o => (.pointer (some ⟨pk, o, none⟩) : Value))).toArray 71))
      fun e w' => e = .returned (.tuple #[]) ∧ RdP W0 w' g pk a c xs na nn nc (os.foldl (rNum xs k) s) ∧ Turns (fun x => x = g ∨ x = pk) w w' := by
  obtain ⟨h1, h2, h3, h4⟩ := h
  have hgl := h1.lt
  have hne : pk ≠ g := blk_ne h3 h1 (by decide)
  have hpl := h3.lt
  have b1 : Below w.heap.size w (w.alloc (.cells ((os.map fun o => (.pointer (some ⟨pk, o, none⟩) : Value))).toArray 71)) := albO w _
  refine (numbersG_any (s := gmOf s na nn nc) (h1.mono b1) r0 (h4.trans (b1.mono h4.size)) hg h2 hl k hk (some ⟨w.heap.size, 0, none⟩) os.length pk 35 os hfew (ptrs_row os hfew) (fun _ b hb => by obtain ⟨off, e⟩ := hb; cases e; omega) hne hpk (h3.mono b1) (fun i hi => ?_)).mono ?_
  · have e1 : os.getD i 0 = os[i] := by simp [hi]
    rw [e1]
    exact pk_lt (ho _ (List.getElem_mem hi))
  · rintro e w' ⟨rfl, q1, q2, q3, _, q5⟩
    rw [gFold_pk xs k os s na nn nc ho] at q1 q2 q3
    have ht : Turns (fun x => x = g ∨ x = pk) w w' := (Turns.of_below b1).trans q5
    exact ⟨rfl, ⟨q1, q2, q3, h4.trans (ht.below h4.size (fun x hx => by rcases hx with e | e <;> rw [e] <;> assumption))⟩, ht⟩
end Go.Proofs.Ytanediaaidfcaaa
/- The coder's lists of fields: recalls, verbs' kinds. -/
namespace Go.Proofs.Ytanediaaidfcaaa
open Go.RowKit
set_option linter.unusedSimpArgs false
set_option linter.unusedVariables false

set_option maxHeartbeats 400000 in
theorem recallP_any {w : World} {g B pk : Nat} {m : WM} {P : PkM} {na : Option Addr} {nn nc : Nat} (h : CoP w g B m) (hBw : B ≤ w.heap.size) (hp : Blk w pk 35 (pkC P na nn nc)) (hP : smallP P) (hl : m.b.length ≤ 1000000) :
    Calls Try.prog 51 #[.pointer (some ⟨g, 0, none⟩), .pointer (some ⟨pk, 0, none⟩)] w fun e w' => e = .returned (.tuple #[]) ∧ CoP w' g B (numP 1 m (P.I 18)) ∧ Turns (fun x => x = g) w w' := by
  have HN := hid (numsP_any h hBw hp hP 1 (by decide) [18] (by decide) (by decide) hl)
  clear h hp
  go_enter Try.func51, Try.ntmps51
  go_wp2_with fail
  refine HN.out.mono ?_
  rintro e w1 ⟨rfl, h1, t1⟩
  have H1 := hid h1; have T1 := hid t1
  clear h1 t1
  go_wp2_with fail
  go_end0
  exact ⟨rfl, H1.out, T1.out⟩

set_option maxHeartbeats 400000 in
theorem recallG_any {W0 w : World} {g pk : Nat} {a : Option Addr} {c : Nat} {xs : List UInt8} {na : Option Addr} {nn nc : Nat} {s : RM} (h : RdP W0 w g pk a c xs na nn nc s) (r0 : RowB W0 a c xs) (hg : W0.heap.size ≤ g) (hpk : W0.heap.size ≤ pk) (hl : xs.length ≤ 1000000) :
    Calls Try.prog 51 #[.pointer (some ⟨g, 0, none⟩), .pointer (some ⟨pk, 0, none⟩)] w fun e w' => e = .returned (.tuple #[]) ∧ RdP W0 w' g pk a c xs na nn nc (rNum xs 1 s 18) ∧ Turns (fun x => x = g ∨ x = pk) w w' := by
  have HN := hid (numsG_any h r0 hg hpk hl 1 (by decide) [18] (by decide) (by decide))
  clear h r0
  go_enter Try.func51, Try.ntmps51
  go_wp2_with fail
  refine HN.out.mono ?_
  rintro e w1 ⟨rfl, h1, t1⟩
  have H1 := hid h1; have T1 := hid t1
  clear h1 t1
  go_wp2_with fail
  go_end0
  exact ⟨rfl, H1.out, T1.out⟩

/-- a check behind -/
def chkP (m : WM) (ok : Bool) : WM := ⟨m.b, m.no || !ok⟩
def chkR (s : RM) (ok : Bool) : RM := ⟨s.at_, s.no || !ok, s.P⟩
theorem CoP.chk {w : World} {g B : Nat} {m : WM} (h : CoP w g B m) (ok : Bool) : Calls Try.prog 32 #[.pointer (some ⟨g, 0, none⟩), .bool ok] w fun e w' => e = .returned (.tuple #[]) ∧ CoP w' g B (chkP m ok) ∧ Turns (fun x => x = g) w w' := by
  obtain ⟨a, c, hb, ho⟩ := h
  refine (check_any hb ok).mono ?_
  rintro e w' ⟨rfl, rfl⟩
  exact ⟨rfl, ⟨a, c, Blk.set hb 3 _, own_setW ho hb (by decide) 3 _⟩, turns_setG g 3 _⟩
theorem RdP.chk {W0 w : World} {g pk : Nat} {a : Option Addr} {c : Nat} {xs : List UInt8} {na : Option Addr} {nn nc : Nat} {s : RM} (h : RdP W0 w g pk a c xs na nn nc s) (hg : W0.heap.size ≤ g) (ok : Bool) : Calls Try.prog 32 #[.pointer (some ⟨g, 0, none⟩), .bool ok] w fun e w' => e = .returned (.tuple #[]) ∧ RdP W0 w' g pk a c xs na nn nc (chkR s ok) ∧ Turns (fun x => x = g) w w' := by
  obtain ⟨h1, h2, h3, h4⟩ := h
  refine (check_any h1 ok).mono ?_
  rintro e w' ⟨rfl, rfl⟩
  have t : Turns (fun x => x = g) w (w.setCell ⟨g, 3, none⟩ (.bool (s.no || !ok))) := turns_setG g 3 _
  refine ⟨rfl, ⟨Blk.set h1 3 _, ⟨h2.1, fun q => h2.2 (by simp only [chkR, Bool.or_eq_false_iff] at q; exact q.1)⟩, t.blk h3 (blk_ne h3 h1 (by decide)), h4.trans (t.below h4.size (fun x hx => by rw [hx]; exact hg))⟩, t⟩

set_option maxHeartbeats 400000 in
theorem verbP_any {w : World} {g B pk : Nat} {m : WM} {P : PkM} {na : Option Addr} {nn nc : Nat} (h : CoP w g B m) (hBw : B ≤ w.heap.size) (hp : Blk w pk 35 (pkC P na nn nc)) (hP : smallP P) (hl : m.b.length ≤ 1000000) :
    Calls Try.prog 58 #[.pointer (some ⟨g, 0, none⟩), .pointer (some ⟨pk, 0, none⟩)] w fun e w' => e = .returned (.tuple #[]) ∧ CoP w' g B (chkP (numP 1 m (P.I 4)) (decide (1 ≤ P.I 4) && decide (P.I 4 ≤ 4))) ∧ Turns (fun x => x = g) w w' := by
  have HN := hid (numsP_any h hBw hp hP 1 (by decide) [4] (by decide) (by decide) hl)
  have hne : pk ≠ g := by obtain ⟨_, _, hb, _⟩ := h; exact blk_ne hp hb (by decide)
  have HPk := hid hp
  obtain ⟨v, hv⟩ : ∃ v, v = P.I 4 := ⟨_, rfl⟩
  rw [← hv]
  obtain ⟨b1, hb1⟩ : ∃ b1, decide (1 ≤ v) = b1 := ⟨_, rfl⟩
  obtain ⟨b2, hb2⟩ : ∃ b2, decide (v ≤ 4) = b2 := ⟨_, rfl⟩
  rw [hb1, hb2]
  have HV := hid hv
  clear h hp hv
  cases b1 <;> cases b2
  all_goals
    go_enter Try.func58, Try.ntmps58
    go_wp2_with fail
    refine HN.out.mono ?_
    rintro e w1 ⟨rfl, h1, t1⟩
    have c4 := pk_cell (t1.blk HPk.out hne) (o := 4) rfl
    rw [← HV.out] at c4
    have h1' : CoP w1 g B (numP 1 m v) := by rw [HV.out]; exact h1
    have H1 := hid h1'; have T1 := hid t1
    clear h1 t1 h1'
    go_wp2_with fail
    refine (CoP.chk H1.out _).mono ?_
    rintro e w2 ⟨rfl, h2, t2⟩
    have H2 := hid h2; have T2 := hid t2
    clear h2 t2 c4
    go_wp2_with fail
    go_end0
    exact ⟨rfl, H2.out, T1.out.trans T2.out⟩

set_option maxHeartbeats 400000 in
theorem verbG_any {W0 w : World} {g pk : Nat} {a : Option Addr} {c : Nat} {xs : List UInt8} {na : Option Addr} {nn nc : Nat} {s : RM} (h : RdP W0 w g pk a c xs na nn nc s) (r0 : RowB W0 a c xs) (hg : W0.heap.size ≤ g) (hpk : W0.heap.size ≤ pk) (hl : xs.length ≤ 1000000) :
    Calls Try.prog 58 #[.pointer (some ⟨g, 0, none⟩), .pointer (some ⟨pk, 0, none⟩)] w fun e w' => e = .returned (.tuple #[]) ∧ RdP W0 w' g pk a c xs na nn nc (chkR (rNum xs 1 s 4) (decide (1 ≤ (rNum xs 1 s 4).P.I 4) && decide ((rNum xs 1 s 4).P.I 4 ≤ 4))) ∧ Turns (fun x => x = g ∨ x = pk) w w' := by
  have hN := numsG_any h r0 hg hpk hl 1 (by decide) [4] (by decide) (by decide)
  rw [show [4].foldl (rNum xs 1) s = rNum xs 1 s 4 from rfl] at hN
  generalize rNum xs 1 s 4 = s1 at *
  have HN := hid hN
  obtain ⟨v, hv⟩ : ∃ v, v = s1.P.I 4 := ⟨_, rfl⟩
  rw [← hv]
  obtain ⟨b1, hb1⟩ : ∃ b1, decide (1 ≤ v) = b1 := ⟨_, rfl⟩
  obtain ⟨b2, hb2⟩ : ∃ b2, decide (v ≤ 4) = b2 := ⟨_, rfl⟩
  rw [hb1, hb2]
  have HV := hid hv
  clear h r0 hN hv
  cases b1 <;> cases b2
  all_goals
    go_enter Try.func58, Try.ntmps58
    go_wp2_with fail
    refine HN.out.mono ?_
    rintro e w1 ⟨rfl, h1, t1⟩
    have c4 := pk_cell h1.2.2.1 (o := 4) rfl
    rw [← HV.out] at c4
    have H1 := hid h1; have T1 := hid t1
    clear h1 t1
    go_wp2_with fail
    refine (RdP.chk H1.out hg _).mono ?_
    rintro e w2 ⟨rfl, h2, t2⟩
    have H2 := hid h2; have T2 := hid t2
    clear h2 t2 c4
    go_wp2_with fail
    go_end0
    exact ⟨rfl, H2.out, T1.out.trans (T2.out.mono (fun _ q => .inl q))⟩
end Go.Proofs.Ytanediaaidfcaaa
/- The coder: texts of a packet; a verb that is asked. -/
namespace Go.Proofs.Ytanediaaidfcaaa
open Go.RowKit
set_option linter.unusedSimpArgs false
set_option linter.unusedVariables false

/-- the coder that puts, and the packet -/
def WrP (w : World) (g B pk : Nat) (P : PkM) (na : Option Addr) (nn nc : Nat) (m : WM) : Prop := CoP w g B m ∧ B ≤ w.heap.size ∧ Blk w pk 35 (pkC P na nn nc) ∧ pk < B ∧ m.b.length ≤ 100000
theorem WrP.ne {w : World} {g B pk : Nat} {P : PkM} {na : Option Addr} {nn nc : Nat} {m : WM} (h : WrP w g B pk P na nn nc m) : pk ≠ g := by obtain ⟨⟨_, _, hb, _⟩, _, hp, _⟩ := h; exact blk_ne hp hb (by decide)
theorem WrP.of {w w' : World} {g B pk : Nat} {P : PkM} {na : Option Addr} {nn nc : Nat} {m m' : WM} (h : WrP w g B pk P na nn nc m) (h' : CoP w' g B m') (t : Turns (fun x => x = g ∨ B ≤ x) w w') (hl : m'.b.length ≤ 100000) : WrP w' g B pk P na nn nc m' :=
  ⟨h', Nat.le_trans h.2.1 t.size, t.blk h.2.2.1 (fun q => q.elim h.ne (fun e => by have := h.2.2.2.1; omega)), h.2.2.2.1, hl⟩
theorem numP_len {k : Nat} (hk : k ≤ 8) (m : WM) (v : Int) : (numP k m v).b.length ≤ m.b.length + 8 := by
  unfold numP; split
  · omega
  · have := putF_len m.b v k; show (putF m.b v k).length ≤ _; omega
theorem textP_len {k most : Nat} (hk : k ≤ 8) (m : WM) (s : List UInt8) (hs : s.length ≤ 200) : (textP k most m s).b.length ≤ m.b.length + 208 := by
  have := numP_len hk m s.length
  unfold textP; split
  · show (numP k m s.length).b.length ≤ _; omega
  · show ((numP k m s.length).b ++ s).length ≤ _; rw [List.length_append]; omega
theorem chkP_len (m : WM) (ok : Bool) : (chkP m ok).b = m.b := rfl
def shortP (P : PkM) : Prop := ∀ o, o ≤ 12 → (P.S o).length ≤ 200
theorem WrP.text {w : World} {g B pk : Nat} {P : PkM} {na : Option Addr} {nn nc : Nat} {m : WM} (h : WrP w g B pk P na nn nc m) (hS : shortP P) (k most o : Nat) (hk : k ≤ 8) (hm : most ≤ 1000) (ho : isTxt o = true) (ho12 : o ≤ 12 := by decide) :
    Calls Try.prog 59 #[.pointer (some ⟨g, 0, none⟩), .int .i64 k, .int .i64 most, .pointer (some ⟨pk, o, none⟩)] w fun e w' => e = .returned (.tuple #[]) ∧ CoP w' g B (textP k most m (P.S o)) ∧ Turns (fun x => x = g ∨ B ≤ x) w w' := by
  have h1 := pkC_txt P na nn nc ho
  obtain ⟨h2, h3⟩ := List.getElem?_eq_some_iff.1 h1
  have hs := hS o ho12
  exact textP_any h.1 h.2.1 k most hk hm pk o (P.S o) (by omega) (by have := h.2.2.2.2; omega) h.ne (by rw [← h3]; exact h.2.2.1.cell h2) h.2.2.2.1
/-- reading a text of a packet -/
def rText (xs : List UInt8) (k most : Nat) (s : RM) (o : Nat) : RM := ⟨(textG xs k most s.at_ s.no (s.P.S o)).1, (textG xs k most s.at_ s.no (s.P.S o)).2.1, setS s.P o (textG xs k most s.at_ s.no (s.P.S o)).2.2⟩
theorem RdP.text {W0 w : World} {g pk : Nat} {a : Option Addr} {c : Nat} {xs : List UInt8} {na : Option Addr} {nn nc : Nat} {s : RM} (h : RdP W0 w g pk a c xs na nn nc s) (r0 : RowB W0 a c xs) (hg : W0.heap.size ≤ g) (hpk : W0.heap.size ≤ pk) (hl : xs.length ≤ 1000000) (k most o : Nat) (hk : k ≤ 8) (hm : most ≤ 1000) (ho : isTxt o = true) (hs : (s.P.S o).length ≤ 10000) :
    Calls Try.prog 59 #[.pointer (some ⟨g, 0, none⟩), .int .i64 k, .int .i64 most, .pointer (some ⟨pk, o, none⟩)] w fun e w' => e = .returned (.tuple #[]) ∧ RdP W0 w' g pk a c xs na nn nc (rText xs k most s o) ∧ Turns (fun x => x = g ∨ x = pk) w w' := by
  obtain ⟨h1, h2, h3, h4⟩ := h
  refine (textG_any h1 r0 h4 hg h2 hl k most hk hm pk o 35 (pkC s.P na nn nc) (blk_ne h3 h1 (by decide)) hpk h3 (s.P.S o) hs (pkC_txt _ _ _ _ ho)).mono ?_
  rintro e w' ⟨rfl, q1, q2, q3, q4⟩
  rw [pkC_setS _ _ _ _ ho] at q3
  exact ⟨rfl, ⟨q1, q2, q3, h4.trans (q4.below h4.size (fun x hx => by rcases hx with e | e <;> rw [e] <;> assumption))⟩, q4⟩
/-- what an asked verb puts -/
def okOp (v : Int) : Bool := decide (1 ≤ v) && decide (v ≤ 4)
def askP (m : WM) (P : PkM) : WM := [P.I 8, P.I 9].foldl (numP 8) (textP 2 128 (numP 2 (numP 4 (chkP (numP 1 m (P.I 4)) (okOp (P.I 4))) (P.I 5)) (P.I 6)) (P.S 7))

set_option maxHeartbeats 600000 in
theorem verbAskP_any {w : World} {g B pk : Nat} {P : PkM} {na : Option Addr} {nn nc : Nat} {m : WM} (h : WrP w g B pk P na nn nc m) (hP : smallP P) (hS : shortP P) (hm : m.b.length ≤ 1000) :
    Calls Try.prog 47 #[.pointer (some ⟨g, 0, none⟩), .pointer (some ⟨pk, 0, none⟩)] w fun e w' => e = .returned (.tuple #[]) ∧ CoP w' g B (askP m P) ∧ Turns (fun x => x = g ∨ B ≤ x) w w' := by
  unfold askP okOp
  have l1 : (chkP (numP 1 m (P.I 4)) (decide (1 ≤ P.I 4) && decide (P.I 4 ≤ 4))).b.length ≤ 1008 := by
    have := numP_len (k := 1) (by decide) m (P.I 4); rw [chkP_len]; omega
  have HV := hid (verbP_any h.1 h.2.1 h.2.2.1 hP (by omega))
  have H := hid h
  generalize chkP (numP 1 m (P.I 4)) (decide (1 ≤ P.I 4) && decide (P.I 4 ≤ 4)) = m1 at *
  obtain ⟨m2, hm2⟩ : ∃ m2, m2 = numP 4 m1 (P.I 5) := ⟨_, rfl⟩
  have l2 : m2.b.length ≤ 1016 := by have := numP_len (k := 4) (by decide) m1 (P.I 5); rw [hm2]; omega
  obtain ⟨m3, hm3⟩ : ∃ m3, m3 = numP 2 m2 (P.I 6) := ⟨_, rfl⟩
  have l3 : m3.b.length ≤ 1024 := by have := numP_len (k := 2) (by decide) m2 (P.I 6); rw [hm3]; omega
  obtain ⟨m4, hm4⟩ : ∃ m4, m4 = textP 2 128 m3 (P.S 7) := ⟨_, rfl⟩
  have l4 : m4.b.length ≤ 1232 := by have := textP_len (k := 2) (most := 128) (by decide) m3 (P.S 7) (hS 7 (by decide)); rw [hm4]; omega
  rw [← hm2, ← hm3, ← hm4]
  have HM2 := hid hm2; have HM3 := hid hm3; have HM4 := hid hm4
  clear h hm2 hm3 hm4
  go_enter Try.func47, Try.ntmps47
  go_wp2_with fail
  refine HV.out.mono ?_
  rintro e w1 ⟨rfl, h1, t1⟩
  have T1 := hid (t1.mono (Y := fun x => x = g ∨ B ≤ x) (fun _ q => .inl q)); have H1 := hid (H.out.of h1 (t1.mono (fun _ q => .inl q)) (by omega))
  clear h1 t1
  go_wp2_with fail
  refine (numsP_any H1.out.1 H1.out.2.1 H1.out.2.2.1 hP 4 (by decide) [5] (by decide) (by decide) (by omega)).mono ?_
  rintro e w2 ⟨rfl, h2, t2⟩
  have h2 : CoP w2 g B m2 := by rw [HM2.out]; exact h2
  have T2 := hid (T1.out.trans (t2.mono (fun _ q => .inl q))); have H2 := hid (H1.out.of h2 (t2.mono (fun _ q => .inl q)) (by omega))
  clear h2 t2
  go_wp2_with fail
  refine (numsP_any H2.out.1 H2.out.2.1 H2.out.2.2.1 hP 2 (by decide) [6] (by decide) (by decide) (by omega)).mono ?_
  rintro e w3 ⟨rfl, h3, t3⟩
  have h3 : CoP w3 g B m3 := by rw [HM3.out]; exact h3
  have T3 := hid (T2.out.trans (t3.mono (fun _ q => .inl q))); have H3 := hid (H2.out.of h3 (t3.mono (fun _ q => .inl q)) (by omega))
  clear h3 t3
  go_wp2_with fail
  refine (H3.out.text hS 2 128 7 (by decide) (by decide) rfl).mono ?_
  rintro e w4 ⟨rfl, h4, t4⟩
  rw [← HM4.out] at h4
  have T4 := hid (T3.out.trans t4); have H4 := hid (H3.out.of h4 t4 (by omega))
  clear h4 t4
  go_wp2_with fail
  have HZ := hid (fun (X : World) (b : Below w4.heap.size w4 X) => numsP_any (H4.out.of (by obtain ⟨a, c, q1, q2⟩ := H4.out.1; exact (⟨a, c, q1.mono b, q2.mono b⟩ : CoP X g B m4)) (Turns.of_below b) (by omega)).1 (Nat.le_trans H4.out.2.1 b.size) (H4.out.2.2.1.mono b) hP 8 (by decide) [8, 9] (by decide) (by decide) (by omega))
  go_region_with (go_at_call 31; refine (HZ.out _ (bel_drewN (Below.refl _ _) 1)).mono ?_; rintro e w5 ⟨rfl, h5, t5⟩; have H5 := hid h5; have T5 := hid t5; clear h5 t5)
  all_goals
    go_wp2_with fail
    go_end0
    exact ⟨rfl, H5.out, (T4.out.trans (Turns.of_below (bel_drewN (Below.refl _ _) 1))).trans (T5.out.mono (fun _ q => .inl q))⟩
end Go.Proofs.Ytanediaaidfcaaa
/- The coder: a verb that is asked, read; recalls and error numbers. -/
namespace Go.Proofs.Ytanediaaidfcaaa
open Go.RowKit
set_option linter.unusedSimpArgs false
set_option linter.unusedVariables false

theorem rNum_S (xs : List UInt8) (k : Nat) (s : RM) (o : Nat) : (rNum xs k s o).P.S = s.P.S := by unfold rNum; split <;> rfl
def rVerb (xs : List UInt8) (s : RM) : RM := chkR (rNum xs 1 s 4) (okOp ((rNum xs 1 s 4).P.I 4))
def rAsk (xs : List UInt8) (s : RM) : RM := [8, 9].foldl (rNum xs 8) (rText xs 2 128 (rNum xs 2 (rNum xs 4 (rVerb xs s) 5) 6) 7)
theorem RdP.drewN {W0 w : World} {g pk : Nat} {a : Option Addr} {c : Nat} {xs : List UInt8} {na : Option Addr} {nn nc : Nat} {s : RM} (h : RdP W0 w g pk a c xs na nn nc s) (n : Nat) : RdP W0 (w.drewN n) g pk a c xs na nn nc s := by
  have b : Below w.heap.size w (w.drewN n) := bel_drewN (Below.refl _ _) n
  obtain ⟨h1, h2, h3, h4⟩ := h
  exact ⟨Blk.mono h1 b, h2, h3.mono b, h4.trans (b.mono h4.size)⟩

set_option maxHeartbeats 600000 in
theorem verbAskG_any {W0 w : World} {g pk : Nat} {a : Option Addr} {c : Nat} {xs : List UInt8} {na : Option Addr} {nn nc : Nat} {s : RM} (h : RdP W0 w g pk a c xs na nn nc s) (r0 : RowB W0 a c xs) (hg : W0.heap.size ≤ g) (hpk : W0.heap.size ≤ pk) (hl : xs.length ≤ 1000000) (hs : (s.P.S 7).length ≤ 10000) :
    Calls Try.prog 47 #[.pointer (some ⟨g, 0, none⟩), .pointer (some ⟨pk, 0, none⟩)] w fun e w' => e = .returned (.tuple #[]) ∧ RdP W0 w' g pk a c xs na nn nc (rAsk xs s) ∧ Turns (fun x => x = g ∨ x = pk) w w' := by
  unfold rAsk
  have hV := verbG_any h r0 hg hpk hl
  have hs1 : ((rVerb xs s).P.S 7).length ≤ 10000 := by
    have : (rVerb xs s).P.S = s.P.S := rNum_S xs 1 s 4
    rw [this]; exact hs
  have HV := hid (show Calls Try.prog 58 #[.pointer (some ⟨g, 0, none⟩), .pointer (some ⟨pk, 0, none⟩)] w fun e w' => e = .returned (.tuple #[]) ∧ RdP W0 w' g pk a c xs na nn nc (rVerb xs s) ∧ Turns (fun x => x = g ∨ x = pk) w w' from hV)
  have R0 := hid r0
  clear hV h r0
  generalize rVerb xs s = s1 at *
  obtain ⟨s2, hs2⟩ : ∃ s2, s2 = rNum xs 4 s1 5 := ⟨_, rfl⟩
  obtain ⟨s3, hs3⟩ : ∃ s3, s3 = rNum xs 2 s2 6 := ⟨_, rfl⟩
  obtain ⟨s4, hs4⟩ : ∃ s4, s4 = rText xs 2 128 s3 7 := ⟨_, rfl⟩
  have hsz : (s3.P.S 7).length ≤ 10000 := by rw [hs3, rNum_S, hs2, rNum_S]; exact hs1
  rw [← hs2, ← hs3, ← hs4]
  have HS2 := hid hs2; have HS3 := hid hs3; have HS4 := hid hs4
  clear hs2 hs3 hs4 hs1
  go_enter Try.func47, Try.ntmps47
  go_wp2_with fail
  refine HV.out.mono ?_
  rintro e w1 ⟨rfl, h1, t1⟩
  have H1 := hid h1; have T1 := hid t1
  clear h1 t1
  go_wp2_with fail
  refine (numsG_any H1.out R0.out hg hpk hl 4 (by decide) [5] (by decide) (by decide)).mono ?_
  rintro e w2 ⟨rfl, h2, t2⟩
  have H2 := hid (show RdP W0 w2 g pk a c xs na nn nc s2 by rw [HS2.out]; exact h2); have T2 := hid (T1.out.trans t2)
  clear h2 t2
  go_wp2_with fail
  refine (numsG_any H2.out R0.out hg hpk hl 2 (by decide) [6] (by decide) (by decide)).mono ?_
  rintro e w3 ⟨rfl, h3, t3⟩
  have H3 := hid (show RdP W0 w3 g pk a c xs na nn nc s3 by rw [HS3.out]; exact h3); have T3 := hid (T2.out.trans t3)
  clear h3 t3
  go_wp2_with fail
  refine (H3.out.text R0.out hg hpk hl 2 128 7 (by decide) (by decide) rfl hsz).mono ?_
  rintro e w4 ⟨rfl, h4, t4⟩
  have H4 := hid (show RdP W0 w4 g pk a c xs na nn nc s4 by rw [HS4.out]; exact h4); have T4 := hid (T3.out.trans t4)
  clear h4 t4
  go_wp2_with fail
  go_region_with (go_at_call 31; refine (numsG_any (H4.out.drewN 1) R0.out hg hpk hl 8 (by decide) [8, 9] (by decide) (by decide)).mono ?_; rintro e w5 ⟨rfl, h5, t5⟩; have H5 := hid h5; have T5 := hid t5; clear h5 t5)
  all_goals
    go_wp2_with fail
    go_end0
    exact ⟨rfl, H5.out, (T4.out.trans (Turns.of_below (bel_drewN (Below.refl _ _) 1))).trans T5.out⟩
end Go.Proofs.Ytanediaaidfcaaa
/- The coder: an error number, put and read. -/
namespace Go.Proofs.Ytanediaaidfcaaa
open Go.RowKit
set_option linter.unusedSimpArgs false
set_option linter.unusedVariables false

theorem setI_self (P : PkM) (o : Nat) : setI P o (P.I o) = P := by
  have : (fun k => if k = o then P.I o else P.I k) = P.I := by
    funext k
    by_cases e : k = o
    · rw [if_pos e, e]
    · rw [if_neg e]
  unfold setI; rw [this]
/-- a number in a box, and the row of its pointer -/
theorem box_new (w : World) (v : Int) : ∃ w1, w1 = (w.alloc (Obj.cells #[Value.int IntKind.i64 v] 3)).alloc (Obj.cells #[Value.pointer (some { block := w.heap.size, off := 0 })] 71) ∧ Below w.heap.size w w1 ∧ w1.heap.size = w.heap.size + 2 ∧ Blk w1 w.heap.size 3 [.int .i64 v] ∧ Blk w1 (w.heap.size + 1) 71 [.pointer (some ⟨w.heap.size, 0, none⟩)] := by
  refine ⟨_, rfl, kept_alloc (albO w _) _, by simp, (blk_newO rfl _ _ : Blk (w.alloc (Obj.cells #[Value.int IntKind.i64 v] 3)) w.heap.size 3 [.int .i64 v]).mono (albO _ _), ?_⟩
  have : Blk ((w.alloc (Obj.cells #[Value.int IntKind.i64 v] 3)).alloc (Obj.cells #[Value.pointer (some { block := w.heap.size, off := 0 })] 71)) (w.alloc (Obj.cells #[Value.int IntKind.i64 v] 3)).heap.size 71 [.pointer (some ⟨w.heap.size, 0, none⟩)] := blk_newO rfl _ _
  simpa using this

set_option maxHeartbeats 400000 in
theorem errnoP_any {w : World} {g B pk : Nat} {P : PkM} {na : Option Addr} {nn nc : Nat} {m : WM} (h : WrP w g B pk P na nn nc m) (hP : smallP P) (hm : m.b.length ≤ 90000) :
    Calls Try.prog 60 #[.pointer (some ⟨g, 0, none⟩), .pointer (some ⟨pk, 19, none⟩)] w fun e w' => e = .returned (.tuple #[]) ∧ WrP w' g B pk P na nn nc (numP 1 m (P.I 19)) ∧ Turns (fun x => x = g ∨ x = pk ∨ B ≤ x) w w' := by
  have hne := h.ne
  have hgl : g < w.heap.size := by obtain ⟨⟨_, _, hb, _⟩, _⟩ := h; exact hb.lt
  have hpl : pk < w.heap.size := h.2.2.1.lt
  have hBw := h.2.1
  have c19 := pk_cell h.2.2.1 (o := 19) rfl
  have hv9 := hP 19
  unfold allI at hv9
  obtain ⟨v, hv⟩ : ∃ v, v = P.I 19 := ⟨_, rfl⟩
  rw [← hv] at c19 hv9 ⊢
  obtain ⟨w1, hw1, b1, s1, kn, ka⟩ := box_new w v
  have h1 : CoP w1 g B m := by
    obtain ⟨a, c, hb, ho⟩ := h.1
    exact ⟨a, c, hb.mono b1, ho.mono b1⟩
  have hN := numbersP_any h1 (by omega) 1 (by decide) (some ⟨w.heap.size + 1, 0, none⟩) 1 w.heap.size [0] [v] rfl (by decide) (by omega) (row_blkO ka 1 1 rfl (by omega))
    (fun _ b hb => by obtain ⟨off, e⟩ := hb; cases e; omega) (by omega) (by omega) (fun i hi => by
      obtain rfl : i = 0 := by simp at hi; omega
      exact ⟨kn.cell (i := 0) (by simp), hv9⟩)
  rw [show [v].foldl (numP 1) m = numP 1 m v from rfl] at hN
  have HN := hid hN; have HW1 := hid hw1; have B1 := hid b1; have KN := hid kn; have H := hid h; have HV := hid hv
  clear hN hw1 b1 kn ka h h1 hv hv9
  go_enter Try.func60, Try.ntmps60
  go_wp2_with fail
  rw [← HW1.out]
  refine HN.out.mono ?_
  rintro e w2 ⟨rfl, h2, t2⟩
  have n2 : w2.cell? ⟨w.heap.size, 0, none⟩ = some (.int .i64 v) := (t2.blk KN.out (by omega)).cell (i := 0) (by simp)
  have hp2 := t2.blk (Blk.mono H.out.2.2.1 B1.out) hne
  have p2 := pk_cell hp2 (o := 19) rfl
  have f2 := hp2.frozen 19
  have T2 := hid t2; have H2 := hid h2; have HP2 := hid hp2
  clear t2 h2 hp2
  go_wp2_with fail
  go_end0
  have t3 : Turns (fun x => x = pk) w2 (w2.setCell ⟨pk, 19, none⟩ (.int .i64 v)) := turns_setG pk 19 _
  have hp3 : Blk (w2.setCell ⟨pk, 19, none⟩ (.int .i64 v)) pk 35 (pkC P na nn nc) := by
    have := Blk.set HP2.out 19 (.int .i64 v)
    rw [pkC_setI _ _ _ _ rfl, HV.out, setI_self] at this
    rw [HV.out]; exact this
  have h3 : CoP (w2.setCell ⟨pk, 19, none⟩ (.int .i64 v)) g B (numP 1 m v) := by
    obtain ⟨a, c, hb, ho⟩ := H2.out
    exact ⟨a, c, t3.blk hb (fun q => hne q.symm), own_setW ho HP2.out (by decide) 19 _⟩
  have ht : Turns (fun x => x = g ∨ x = pk ∨ B ≤ x) w (w2.setCell ⟨pk, 19, none⟩ (.int .i64 v)) := ((Turns.of_below B1.out).trans (T2.out.mono (fun _ q => .inl q))).trans (t3.mono (fun _ q => .inr (.inl q)))
  refine ⟨rfl, ⟨h3, Nat.le_trans hBw ht.size, hp3, H.out.2.2.2.1, ?_⟩, ht⟩
  have := numP_len (k := 1) (by decide) m v
  omega

set_option maxHeartbeats 400000 in
theorem errnoG_any {W0 w : World} {g pk : Nat} {a : Option Addr} {c : Nat} {xs : List UInt8} {na : Option Addr} {nn nc : Nat} {s : RM} (h : RdP W0 w g pk a c xs na nn nc s) (r0 : RowB W0 a c xs) (hg : W0.heap.size ≤ g) (hpk : W0.heap.size ≤ pk) (hl : xs.length ≤ 1000000) :
    Calls Try.prog 60 #[.pointer (some ⟨g, 0, none⟩), .pointer (some ⟨pk, 19, none⟩)] w fun e w' => e = .returned (.tuple #[]) ∧ RdP W0 w' g pk a c xs na nn nc (rNum xs 1 s 19) ∧ Turns (fun x => x = g ∨ x = pk) w w' := by
  obtain ⟨h1, h2, h3, h4⟩ := h
  have hne : pk ≠ g := blk_ne h3 h1 (by decide)
  have hgl := h1.lt
  have hpl := h3.lt
  have hW0 := h4.size
  have c19 := pk_cell h3 (o := 19) rfl
  obtain ⟨v, hv⟩ : ∃ v, v = s.P.I 19 := ⟨_, rfl⟩
  rw [← hv] at c19
  obtain ⟨w1, hw1, b1, s1, kn, ka⟩ := box_new w v
  have hN := numbersG_any (w := w1) (s := ⟨s.at_, s.no, [.int .i64 v]⟩) (show CoG w1 g a c xs s.at_ s.no from Blk.mono h1 b1) r0 (h4.trans (b1.mono hW0)) hg h2 hl 1 (by decide) (some ⟨w.heap.size + 1, 0, none⟩) 1 w.heap.size 3 [0] (by decide) (row_blkO ka 1 1 rfl (by omega))
    (fun _ b hb => by obtain ⟨off, e⟩ := hb; cases e; omega) (by omega) hW0 kn (fun i hi => by
      obtain rfl : i = 0 := by simp at hi; omega
      exact Nat.one_pos)
  obtain ⟨nv, at1, no1, hS, hR⟩ : ∃ (nv : Int) (at1 : Nat) (no1 : Bool), [0].foldl (gStep xs 1) ⟨s.at_, s.no, [.int .i64 v]⟩ = ⟨at1, no1, [.int .i64 nv]⟩ ∧ rNum xs 1 s 19 = ⟨at1, no1, setI s.P 19 nv⟩ := by
    by_cases hno : s.no = true
    · refine ⟨v, s.at_, s.no, if_pos hno, ?_⟩
      rw [hv, setI_self]; exact if_pos hno
    · exact ⟨_, _, _, if_neg hno, if_neg hno⟩
  rw [hS] at hN
  rw [hR]
  have HN := hid hN; have HW1 := hid hw1; have B1 := hid b1; have H3 := hid h3; have H4 := hid h4
  clear hN hw1 b1 kn ka h1 h3 h4 hv hS hR
  go_enter Try.func60, Try.ntmps60
  go_wp2_with fail
  rw [← HW1.out]
  refine HN.out.mono ?_
  rintro e w2 ⟨rfl, q1, q2, q3, _, t2⟩
  have n2 := q3.cell (i := 0) (by simp)
  simp only [List.getElem_cons_zero] at n2
  have hp2 := t2.blk (Blk.mono H3.out B1.out) (fun q => q.elim hne (fun e => by omega))
  have p2 := pk_cell hp2 (o := 19) rfl
  have f2 := hp2.frozen 19
  have T2 := hid t2; have Q1 := hid q1; have Q2 := hid q2; have HP2 := hid hp2
  clear t2 q1 q2 q3 hp2
  go_wp2_with fail
  go_end0
  have t3 : Turns (fun x => x = pk) w2 (w2.setCell ⟨pk, 19, none⟩ (.int .i64 nv)) := turns_setG pk 19 _
  have hp3 : Blk (w2.setCell ⟨pk, 19, none⟩ (.int .i64 nv)) pk 35 (pkC (setI s.P 19 nv) na nn nc) := by
    have := Blk.set HP2.out 19 (.int .i64 nv)
    rw [pkC_setI _ _ _ _ rfl] at this
    exact this
  have t23 : Turns (fun x => x = g ∨ x = w.heap.size ∨ x = pk) w1 (w2.setCell ⟨pk, 19, none⟩ (.int .i64 nv)) := (T2.out.mono (Y := fun x => x = g ∨ x = w.heap.size ∨ x = pk) (fun _ q => q.elim .inl (fun e => .inr (.inl e)))).trans (t3.mono (fun _ q => .inr (.inr q)))
  have ht : Turns (fun x => x = g ∨ x = pk) w (w2.setCell ⟨pk, 19, none⟩ (.int .i64 nv)) := (Turns.of_below B1.out).trans' t23 (fun x hx q => by
    rcases q with e | e | e
    · exact .inl e
    · omega
    · exact .inr e)
  exact ⟨rfl, ⟨t3.blk Q1.out (fun q => hne q.symm), Q2.out, hp3, H4.out.trans (ht.below hW0 (fun x hx => by rcases hx with e | e <;> rw [e] <;> assumption))⟩, ht⟩
end Go.Proofs.Ytanediaaidfcaaa
