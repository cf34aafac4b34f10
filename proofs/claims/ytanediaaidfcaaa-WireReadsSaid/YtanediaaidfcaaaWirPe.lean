/- The document's Put. -/
import Derived.Test.YtanediaaidfcaaaWirIa
import Derived.Test.YtanediaaidfcaaaWirIb
import Derived.Test.YtanediaaidfcaaaWirIc
import Derived.Test.YtanediaaidfcaaaWirId
import Derived.Test.YtanediaaidfcaaaWirPc
namespace Go.Proofs.Ytanediaaidfcaaa
open Go.RowKit
set_option linter.unusedSimpArgs false
set_option linter.unusedVariables false

theorem wnum_no {m : WM} {v : Int} {k : Nat} {lo hi : Int} (h : m.no = true) : (wnum m v k lo hi).no = true := by unfold wnum; split <;> first | exact h | rfl
theorem AgP.wnum {m : WM} {o : Option (List UInt8)} (h : AgP m true o) (v : Int) (k : Nat) (lo hi : Int) : AgP (wnum m v k lo hi) true (o.bind fun b => (encN k lo hi v).map fun a => b ++ a) := by
  cases hm : m.no with
  | true =>
    rw [h.no (by simp [hm])]
    exact AgP.mkNo (by rw [wnum_no hm]; simp) rfl
  | false =>
    rw [h.yes hm rfl, Option.bind_some]
    unfold Go.Proofs.Ytanediaaidfcaaa.wnum encN
    by_cases hc : fitsB v k = true ∧ lo ≤ v ∧ v ≤ hi
    · rw [if_pos hc, if_pos hc]
      exact AgP.mkYes hm rfl rfl
    · rw [if_neg hc, if_neg hc]
      exact AgP.mkNo (by simp) rfl
theorem AgP.wtext {m : WM} {o : Option (List UInt8)} (h : AgP m true o) (s : List UInt8) (k most : Nat) (hk : widthB k = true) (hm : most < 256 ^ k) : AgP (wtext m s k most) true (o.bind fun b => (encT k most s).map fun a => b ++ a) := by
  cases hn : m.no with
  | true =>
    rw [h.no (by simp [hn])]
    refine AgP.mkNo (fun q => ?_) rfl
    have := wnum_no (v := (s.length : Int)) (k := k) (lo := 0) (hi := most) hn
    unfold Go.Proofs.Ytanediaaidfcaaa.wtext at q
    rw [show (⟨(Go.Proofs.Ytanediaaidfcaaa.wnum m (s.length : Int) k 0 most).b ++ s, (Go.Proofs.Ytanediaaidfcaaa.wnum m (s.length : Int) k 0 most).no⟩ : WM).no = true from this] at q
    exact absurd q.1 (by simp)
  | false =>
    rw [h.yes hn rfl, Option.bind_some]
    unfold Go.Proofs.Ytanediaaidfcaaa.wtext Go.Proofs.Ytanediaaidfcaaa.wnum encT
    by_cases hl : s.length ≤ most
    · have hf : fitsB (s.length : Int) k = true := fits_of hk (Nat.lt_of_le_of_lt hl hm)
      rw [if_pos hl]
      simp only
      rw [if_pos ⟨hf, by omega, by omega⟩]
      refine AgP.mkYes hn rfl ?_
      simp
    · rw [if_neg hl]
      simp only
      rw [if_neg (fun q => by omega)]
      exact AgP.mkNo (by simp) rfl
set_option maxRecDepth 100000 in
theorem AgP.wfold {m : WM} {o : Option (List UInt8)} (h : AgP m true o) (N : List (List UInt8)) : AgP (N.foldl (fun m s => Go.Proofs.Ytanediaaidfcaaa.wtext m s 1 12) m) true (N.foldl (fun (o : Option (List UInt8)) s => o.bind fun b => (encT 1 12 s).map fun a => b ++ a) o) := by
  induction N generalizing m o with
  | nil => exact h
  | cons s N ih =>
    have q0 := @AgP.wtext m o h
    have q := q0 s 1 12 (by decide) (by decide)
    rw [List.foldl_cons, List.foldl_cons]
    exact ih q
set_option maxRecDepth 100000 in
theorem AgP.stepW {m : WM} {o : Option (List UInt8)} {P : PkM} (h : AgP m true o) (f : Fld) (hf : okF f) : AgP (stepW P m f) true (accF P o f) := by
  cases f with
  | num w o' lo hi => exact h.wnum _ _ _ _
  | text w most o' => exact h.wtext _ _ _ hf.1 hf.2.1
  | names =>
    have h0' := @AgP.wnum m o h
    have h0 := h0' (P.N.length : Int) 1 0 16
    have h1 := AgP.wfold h0 P.N
    cases ho : o with
    | none =>
      rw [ho] at h1
      have e : (none : Option (List UInt8)).bind (fun b => (encN 1 0 16 (P.N.length : Int)).map fun a => b ++ a) = none := rfl
      rw [e, accN_none] at h1
      exact h1
    | some b =>
      rw [ho] at h1
      have e2 : accF P (some b) .names = (encF P .names).map fun a => b ++ a := rfl
      rw [e2]
      rw [Option.bind_some] at h1
      unfold encF
      by_cases hl : P.N.length ≤ 16
      · have hf : fitsB (P.N.length : Int) 1 = true := fits_of (w := 1) rfl (by omega)
        have e3 : encN 1 0 16 (P.N.length : Int) = some (le 1 P.N.length) := by unfold encN; rw [if_pos ⟨hf, by omega, by omega⟩]; simp
        rw [e3, Option.map_some, accN_some] at h1
        rw [if_pos hl]
        cases he : encNs P.N with
        | none => rw [he] at h1; exact h1
        | some t =>
          rw [he] at h1
          have e4 : (some (le 1 P.N.length ++ t)).map (fun a => b ++ a) = some (b ++ le 1 P.N.length ++ t) := by rw [Option.map_some, List.append_assoc]
          rw [Option.map_some, e4]
          exact h1
      · have e3 : encN 1 0 16 (P.N.length : Int) = none := by unfold encN; rw [if_neg (fun q => by omega)]
        rw [e3, Option.map_none, accN_none] at h1
        rw [if_neg hl]; exact h1
theorem AgP.foldW {m : WM} {o : Option (List UInt8)} {P : PkM} (h : AgP m true o) (fs : List Fld) (hf : ∀ f ∈ fs, okF f) : AgP (fs.foldl (Go.Proofs.Ytanediaaidfcaaa.stepW P) m) true (fs.foldl (accF P) o) := by
  induction fs generalizing m o with
  | nil => exact h
  | cons f fs ih => exact ih (h.stepW f (hf f (List.mem_cons_self ..))) (fun g hg => hf g (List.mem_cons_of_mem _ hg))
theorem okAll (k : Int) : ∀ f ∈ fHead ++ fRest k, okF f := fun f hf => (List.mem_append.1 hf).elim (fHead_ok f) (fRest_ok k f)
theorem inner_link (P : PkM) (fs : List Fld) (hf : ∀ f ∈ fs, okF f) : ((fs.foldl (stepW P) ⟨[], false⟩).no = false → encL P fs = some (fs.foldl (stepW P) ⟨[], false⟩).b) ∧ ((fs.foldl (stepW P) ⟨[], false⟩).no = true → encL P fs = none) := by
  have h0 : AgP ⟨[], false⟩ true (some []) := AgP.mkYes rfl rfl rfl
  have h := h0.foldW (P := P) fs hf
  rw [acc_some] at h
  have e : (encL P fs).map (fun a => ([] : List UInt8) ++ a) = encL P fs := by cases encL P fs <;> simp
  rw [e] at h
  exact ⟨fun q => h.yes q rfl, fun q => h.no (by rw [q]; simp)⟩
/-- may a packet be? its bytes without the sum -/
def inW (P : PkM) : Option (List UInt8) := match encP P with
  | some e => if eqPk P (backP P) = true then some e else none
  | none => none
theorem inW_of (P : PkM) (fs : List Fld) (hfs : fs = fHead ++ fRest (P.I 0)) (hok : ∀ f ∈ fs, okF f) : (inW P).isSome = (!(fs.foldl (stepW P) ⟨[], false⟩).no && eqPk P (setL P P0z fs)) ∧ ∀ e, inW P = some e → (fs.foldl (stepW P) ⟨[], false⟩).b = e := by
  obtain ⟨l1, l2⟩ := inner_link P fs hok
  have e1 : encP P = encL P fs := by rw [hfs]; rfl
  have e2 : backP P = setL P P0z fs := by rw [hfs]; rfl
  unfold inW
  rw [e1, e2]
  cases hn : (fs.foldl (stepW P) ⟨[], false⟩).no with
  | true => rw [l2 hn]; exact ⟨rfl, fun e h => by cases h⟩
  | false =>
    rw [l1 hn]
    simp only
    cases hq : eqPk P (setL P P0z fs) with
    | true => simp
    | false => simp
theorem inW_none (P : PkM) (hk : ¬ (1 ≤ P.I 0 ∧ P.I 0 ≤ 5)) : inW P = none := by
  have : encP P = none := by
    unfold encP
    rw [encL_append]
    have : encL P fHead = none := by
      unfold fHead encL
      have : encF P (.num 1 0 1 5) = none := by
        show encN 1 1 5 (P.I 0) = none
        unfold encN; rw [if_neg (fun q => hk q.2)]
      rw [this]; rfl
    rw [this]; rfl
  unfold inW; rw [this]
theorem innerRef_any (P : PkM) (hP : smallP P) (hS : longP P) (hN : ∀ s ∈ P.N, s.length ≤ 500) (hn9 : P.N.length ≤ 300) (a : Option Addr) (c : Nat) (w : World) (ha : Row w 1 a P.N.length c (P.N.map strV)) :
    Calls Try.prog 23 #[.agg (pkC P a P.N.length c).toArray] w fun e w' => ∃ ba bc xs, e = .returned (.tuple #[.slice ba xs.length bc, .bool (inW P).isSome]) ∧ OwnB w' w.heap.size ba bc xs ∧ (∀ e, inW P = some e → xs = e) ∧ Below w.heap.size w w' := by
  by_cases hk : 1 ≤ P.I 0 ∧ P.I 0 ≤ 5
  · rcases (by omega : P.I 0 = 1 ∨ P.I 0 = 2 ∨ P.I 0 = 3 ∨ P.I 0 = 4 ∨ P.I 0 = 5) with e | e | e | e | e
    · obtain ⟨h1, h2⟩ := inW_of P (fHead ++ fRest 1) (by rw [e]) (okAll 1)
      refine (inner_1 P hP hS a c w ha e).mono ?_
      rintro e w' ⟨ba, bc, rfl, ho, b⟩
      exact ⟨ba, bc, _, by rw [h1], ho, h2, b⟩
    · obtain ⟨h1, h2⟩ := inW_of P (fHead ++ fRest 2) (by rw [e]) (okAll 2)
      refine (inner_2 P hP hS a c w ha e).mono ?_
      rintro e w' ⟨ba, bc, rfl, ho, b⟩
      exact ⟨ba, bc, _, by rw [h1], ho, h2, b⟩
    · obtain ⟨h1, h2⟩ := inW_of P (fHead ++ fRest 3) (by rw [e]) (okAll 3)
      refine (inner_3 P hP hS a c w ha e).mono ?_
      rintro e w' ⟨ba, bc, rfl, ho, b⟩
      exact ⟨ba, bc, _, by rw [h1], ho, h2, b⟩
    · obtain ⟨h1, h2⟩ := inW_of P (fHead ++ fRest 4) (by rw [e]) (okAll 4)
      refine (inner_4 P hP hS hN hn9 a c w ha e).mono ?_
      rintro e w' ⟨ba, bc, rfl, ho, b⟩
      exact ⟨ba, bc, _, by rw [h1], ho, h2, b⟩
    · obtain ⟨h1, h2⟩ := inW_of P (fHead ++ fRest 5) (by rw [e]) (okAll 5)
      refine (inner_5 P hP hS a c w ha e).mono ?_
      rintro e w' ⟨ba, bc, rfl, ho, b⟩
      exact ⟨ba, bc, _, by rw [h1], ho, h2, b⟩
  · have hn := inW_none P hk
    have hno : (fHead.foldl (stepW P) ⟨[], false⟩).no = true := by
      cases h : (fHead.foldl (stepW P) ⟨[], false⟩).no with
      | true => rfl
      | false =>
        have := (inner_link P fHead fHead_ok).1 h
        exfalso
        have h2 : encL P fHead = none := by
          unfold fHead encL
          have : encF P (.num 1 0 1 5) = none := by
            show encN 1 1 5 (P.I 0) = none
            unfold encN; rw [if_neg (fun q => hk q.2)]
          rw [this]; rfl
        rw [h2] at this; cases this
    refine (inner_none P hP hS a c w ha hk).mono ?_
    rintro e w' ⟨ba, bc, rfl, ho, b⟩
    exact ⟨ba, bc, _, by rw [hn, hno]; rfl, ho, (fun e h => by rw [hn] at h; cases h), b⟩
/-! bounds -/
def fBd : Fld → Nat
  | .num _ _ _ _ => 8
  | .text _ most _ => 8 + most
  | .names => 1 + 16 * 21
theorem encNs_len {l : List (List UInt8)} {e : List UInt8} (h : encNs l = some e) : e.length ≤ l.length * 21 := by
  induction l generalizing e with
  | nil => cases h; simp
  | cons s l ih =>
    unfold encNs at h
    cases h1 : encT 1 12 s with
    | none => rw [h1] at h; cases h
    | some a =>
      cases h2 : encNs l with
      | none => rw [h1, h2] at h; cases h
      | some b =>
        rw [h1, h2] at h
        simp only [Option.bind_some, Option.map_some, Option.some.injEq] at h
        subst h
        have := ih h2
        unfold encT at h1
        split at h1
        · cases h1; simp [le_length]; omega
        · cases h1
theorem encF_len {P : PkM} {f : Fld} {e : List UInt8} (hf : okF f) (h : encF P f = some e) : e.length ≤ fBd f := by
  cases f with
  | num w o lo hi =>
    have h' : encN w lo hi (P.I o) = some e := h
    have hw := widthB_le (show widthB w = true from hf)
    unfold encN at h'
    split at h'
    · cases h'; rw [le_length]; show w ≤ 8; omega
    · cases h'
  | text w m o =>
    have h' : encT w m (P.S o) = some e := h
    have hw := widthB_le (show widthB w = true from hf.1)
    unfold encT at h'
    split at h'
    · cases h'; rw [List.length_append, le_length]; show _ ≤ 8 + m; omega
    · cases h'
  | names =>
    have h' : (if P.N.length ≤ 16 then (encNs P.N).map fun b => le 1 P.N.length ++ b else none) = some e := h
    split at h'
    · cases h1 : encNs P.N with
      | none => rw [h1] at h'; cases h'
      | some b =>
        rw [h1, Option.map_some] at h'
        cases h'
        have := encNs_len h1
        rw [List.length_append, le_length]
        show 1 + b.length ≤ 1 + 16 * 21
        have : P.N.length * 21 ≤ 16 * 21 := Nat.mul_le_mul_right _ (by assumption)
        omega
    · cases h'
theorem encL_len {P : PkM} {fs : List Fld} {e : List UInt8} (hf : ∀ f ∈ fs, okF f) (h : encL P fs = some e) : e.length ≤ (fs.map fBd).foldr (· + ·) 0 := by
  induction fs generalizing e with
  | nil => cases h; simp
  | cons f fs ih =>
    unfold encL at h
    cases h1 : encF P f with
    | none => rw [h1] at h; cases h
    | some a =>
      cases h2 : encL P fs with
      | none => rw [h1, h2] at h; cases h
      | some b =>
        rw [h1, h2] at h
        simp only [Option.bind_some, Option.map_some, Option.some.injEq] at h
        subst h
        have q1 := encF_len (hf f (List.mem_cons_self ..)) h1
        have q2 := ih (fun g hg => hf g (List.mem_cons_of_mem _ hg)) h2
        rw [List.length_append]
        show _ ≤ fBd f + _
        omega
theorem encP_len {P : PkM} {e : List UInt8} (h : encP P = some e) : e.length ≤ 1000 := by
  have := encL_len (okAll (P.I 0)) h
  refine Nat.le_trans this ?_
  unfold fRest
  repeat' split
  all_goals decide
theorem inW_enc {P : PkM} {e : List UInt8} (h : inW P = some e) : encP P = some e := by
  unfold inW at h
  split at h
  · next e' he =>
    split at h
    · cases h; exact he
    · cases h
  · cases h
theorem putW_in (P : PkM) : putW P = (inW P).map fun e => putF e (crcF e : Int) 4 := by
  unfold putW inW
  cases encP P with
  | none => rfl
  | some e => simp only; split <;> rfl

set_option maxHeartbeats 1000000 in
theorem sealed07_any (a : Option Addr) (c : Nat) (xs : List UInt8) (w : World) (ha : RowB w a c xs) (hl : xs.length ≤ 1000000) :
    Calls Try.prog 17 #[.slice a xs.length c] w (RetB w (putF xs (crcF xs : Int) 4)) := by
  have HS := hid (sumRef_any a c xs w ha)
  have hcl := crcF_lt xs
  have HP := hid (fun (z : Nat) (hz : z < 4294967296) => putRef_any a c xs (z : Int) 4 w ha (by omega) (by omega))
  generalize crcF xs = z at *
  have HPZ := hid (HP.out z hcl)
  clear ha HP
  go_enter Try.func17, Try.ntmps17
  go_wp2_with fail
  refine HS.out.mono ?_
  rintro e w1 ⟨rfl, rfl⟩
  go_wp2_with fail
  refine HPZ.out.mono ?_
  rintro e w2 ⟨a2, c2, rfl, o2, b2⟩
  go_wp2_with fail
  go_ret
  exact ⟨a2, c2, rfl, o2, b2⟩

def InnerW (P : PkM) (a : Option Addr) (c : Nat) (g : Nat) (w : World) (o : Option (List UInt8)) : Prop :=
  ∀ W, Below g w W → Calls Try.prog 23 #[.agg (pkC P a P.N.length c).toArray] W fun e w' => ∃ ba bc xs, e = .returned (.tuple #[.slice ba xs.length bc, .bool o.isSome]) ∧ OwnB w' W.heap.size ba bc xs ∧ (∀ e, o = some e → xs = e) ∧ Below W.heap.size W w'
set_option maxRecDepth 100000 in
set_option maxHeartbeats 2000000 in
theorem putRef07_no {w : World} {P : PkM} {a : Option Addr} {c : Nat} (HI0 : InnerW P a c w.heap.size w none) :
    Calls Try.prog 11 #[.agg (pkC P a P.N.length c).toArray] w fun e w' => ∃ ba bc, e = .returned (.tuple #[.slice ba 0 bc, .int .i64 1]) ∧ OwnB w' w.heap.size ba bc [] ∧ Below w.heap.size w w' := by
  have HI := hid HI0
  clear HI0
  have t1 : True := trivial
  go_enter Try.func11, Try.ntmps11
  go_wp2_with (first
    | (have _t := t1; (with_reducible refine wpl_boxT rfl 35 _ rfl (pkC P a P.N.length c) rfl ?_); clear t1; intro w1 k1 b1 s1; have K1 := hid k1; have B1 := hid b1; clear k1 b1 s1)
    | (with_reducible refine wpl_loadPk rfl _ rfl w.heap.size rfl K1.out ?_))
  refine (HI.out w1 B1.out).mono ?_
  rintro e w2 ⟨ba, bc, xs, rfl, ho, hx, b2⟩
  have B2 := hid (kept_trans B1.out b2)
  clear ho hx b2
  simp only [Option.isSome_none]
  go_wp2_with fail
  go_ret2
  exact ⟨none, 0, rfl, Own.nil _ _ _ _, B2.out⟩
set_option maxRecDepth 100000 in
set_option maxHeartbeats 2000000 in
theorem putRef07_yes {w : World} {P : PkM} {a : Option Addr} {c : Nat} {e0 pb : List UInt8} (HI0 : InnerW P a c w.heap.size w (some e0))
    (HSE0 : ∀ (W : World) (ba : Option Addr) (bc : Nat), RowB W ba bc e0 → Calls Try.prog 17 #[.slice ba e0.length bc] W (RetB W pb)) :
    Calls Try.prog 11 #[.agg (pkC P a P.N.length c).toArray] w fun e w' => ∃ ba bc, e = .returned (.tuple #[.slice ba pb.length bc, .int .i64 0]) ∧ OwnB w' w.heap.size ba bc pb ∧ Below w.heap.size w w' := by
  have HI := hid HI0
  have HSE := hid HSE0
  clear HI0 HSE0
  have t1 : True := trivial
  go_enter Try.func11, Try.ntmps11
  go_wp2_with (first
    | (have _t := t1; (with_reducible refine wpl_boxT rfl 35 _ rfl (pkC P a P.N.length c) rfl ?_); clear t1; intro w1 k1 b1 s1; have K1 := hid k1; have B1 := hid b1; clear k1 b1 s1)
    | (with_reducible refine wpl_loadPk rfl _ rfl w.heap.size rfl K1.out ?_))
  refine (HI.out w1 B1.out).mono ?_
  rintro e w2 ⟨ba, bc, xs, rfl, ho, hx, b2⟩
  obtain rfl : xs = e0 := hx e0 rfl
  have B2 := hid (kept_trans B1.out b2); have O2 := hid ho
  clear ho hx b2
  simp only [Option.isSome_some]
  go_wp2_with fail
  refine (HSE.out w2 ba bc O2.out.row).mono ?_
  rintro e w3 ⟨a3, c3, rfl, o3, b3⟩
  have B3 := hid (kept_trans B2.out b3); have O3 := hid (o3.low B2.out.size)
  clear o3 b3
  go_wp2_with fail
  go_ret2
  exact ⟨a3, c3, rfl, O3.out, B3.out⟩
theorem putRef07_any {w : World} {P : PkM} {a : Option Addr} {c : Nat} (hP : smallP P) (hS : shortP P) (hN : ∀ s ∈ P.N, s.length ≤ 200) (hn9 : P.N.length ≤ 100) (ha : Row w 1 a P.N.length c (P.N.map strV)) :
    Calls Try.prog 11 #[.agg (pkC P a P.N.length c).toArray] w fun e w' => ∃ ba bc, e = .returned (.tuple #[.slice ba (putB P).length bc, .int .i64 (putE P)]) ∧ OwnB w' w.heap.size ba bc (putB P) ∧ Below w.heap.size w w' := by
  have HI : InnerW P a c w.heap.size w (inW P) := fun W b => innerRef_any P hP hS.long (fun s hs => Nat.le_trans (hN s hs) (by decide)) (Nat.le_trans hn9 (by decide)) a c W (ha.mono b)
  have hpw := putW_in P
  have hen := fun e (h : inW P = some e) => encP_len (inW_enc h)
  cases hi : inW P with
  | none =>
    rw [hi] at hpw HI
    have hb : putB P = [] := by unfold putB; rw [hpw]; rfl
    have he : putE P = 1 := by unfold putE; rw [hpw]; rfl
    rw [hb, he]
    exact putRef07_no HI
  | some e0 =>
    have hl1 : e0.length ≤ 1000000 := by have := hen e0 hi; omega
    rw [hi, Option.map_some] at hpw
    rw [hi] at HI
    have hb : putB P = putF e0 (crcF e0 : Int) 4 := (congrArg (fun o => Option.getD o []) hpw).trans (Option.getD_some ..)
    have he : putE P = 0 := by unfold putE; rw [hpw, Option.isSome_some, if_pos rfl]
    rw [hb, he]
    exact putRef07_yes HI fun W ba bc r => sealed07_any ba bc e0 W r hl1
end Go.Proofs.Ytanediaaidfcaaa
