/- The bytes of an entry: put. -/
import Derived.Test.YtejfkjfidhdfaaaDirK
import Derived.Test.YtejfkjfidhdfaaaNumD
import Derived.Test.YtejfkjfidhdfaaaNumC
import Derived.Test.YtejfkjfidhdfaaaLibZ
import Derived.Test.YtejfkjfidhdfaaaBytesA
namespace Go.Proofs.Ytejfkjfidhdfaaa
open Go.RowKit Go.Shelf
set_option linter.unusedSimpArgs false
set_option linter.unusedVariables false

/-- the bytes of an entry -/
def entB (n : ByteArray) (i : Int) : List UInt8 := [UInt8.ofNat i.toNat, UInt8.ofNat n.size] ++ n.data.toList ++ List.replicate (14 - n.size) 0
theorem entB_len (n : ByteArray) (i : Int) (h : n.size ≤ 14) : (entB n i).length = 16 := by
  have : n.data.toList.length = n.size := by simp
  simp only [entB, List.length_append, List.length_cons, List.length_nil, List.length_replicate, this]; omega
theorem mayE_bd {n : ByteArray} {i : Int} (h : mayE n i = true) : 0 ≤ i ∧ i ≤ 32 ∧ n.size ≤ 12 := by
  rcases mayE_cases n i with ⟨⟨rfl, rfl⟩, _⟩ | ⟨_, ⟨_, hk⟩ | ⟨hm, ⟨_, hk⟩ | ⟨g, _⟩ | ⟨_, hk⟩⟩⟩
  · exact ⟨by omega, by omega, by decide⟩
  · rw [h] at hk; cases hk
  · rw [h] at hk; cases hk
  · refine ⟨by omega, by omega, ?_⟩
    unfold mayN at hm
    simp only [Bool.and_eq_true, decide_eq_true_eq] at hm
    exact hm.1.1.1.2
  · rw [h] at hk; cases hk
theorem str_len12 (n : ByteArray) : n.data.toList.length = n.size := by simp
theorem put1_a (i : Int) (h : 0 ≤ i ∧ i ≤ 255) : putF [] i 1 = [UInt8.ofNat i.toNat] := by
  unfold putF fitsB
  rw [if_pos rfl, if_pos (by simp; omega)]; rfl
theorem put1_b (x : UInt8) (i : Int) (h : 0 ≤ i ∧ i ≤ 255) : putF [x] i 1 = [x, UInt8.ofNat i.toNat] := by
  unfold putF fitsB
  rw [if_pos rfl, if_pos (by simp; omega)]; rfl
theorem rep_byteV (k : Nat) : List.replicate k (Value.int .u8 0) = (List.replicate k (0 : UInt8)).map byteV := by
  rw [List.map_replicate]; rfl

set_option maxHeartbeats 1000000 in
theorem dirPut_any (n : ByteArray) (i : Int) (hi : 0 ≤ i ∧ i ≤ 255) (hn : n.size ≤ 14) (w : World) : Calls Try.prog 37 #[.agg #[.string n, .int .i64 i]] w (RetB w (entB n i)) := by
  have B0 := hid (albO w (.cells #[.string n, .int .i64 i] 24))
  have K0 := hid (blk_newO (W := w) rfl 24 [.string n, .int .i64 i])
  have P1 := put_any none 0 [] i 1 (w.alloc (.cells #[.string n, .int .i64 i] 24)) (Row.nil _ _) (by simp) (by omega)
  rw [put1_a i hi] at P1
  have HX : Hid ([UInt8.ofNat i.toNat, UInt8.ofNat n.size] ++ n.data.toList ++ List.replicate (14 - n.size) 0 = entB n i) := rfl
  have P2 := fun (a : Option Addr) (c : Nat) (w1 : World) (h : RowB w1 a c [UInt8.ofNat i.toNat]) => put_any a c [UInt8.ofNat i.toNat] (n.size : Int) 1 w1 h (by simp) (by omega)
  rw [put1_b _ (n.size : Int) ⟨by omega, by omega⟩, show ((n.size : Int)).toNat = n.size by omega] at P2
  generalize UInt8.ofNat i.toNat = x at *
  generalize UInt8.ofNat n.size = y at *
  have P1 := hid P1; have P2 := hid P2
  go_enter Try.func37, Try.ntmps37
  go_wp2_with (go_at_call 45; fail)
  refine (P1.out).mono ?_
  rintro e w1 ⟨a1, c1, rfl, o1, b1⟩
  have K1 := hid (K0.out.mono b1); have B1 := hid (kept_trans B0.out b1); have O1 := hid o1
  clear o1 b1
  have c10 := K1.out.cell (i := 0) (by simp); have c11 := K1.out.cell (i := 1) (by simp)
  simp only [List.getElem_cons_zero, List.getElem_cons_succ] at c10 c11
  go_wp2_with (go_at_call 45; fail)
  refine (P2.out _ _ _ O1.out.row).mono ?_
  rintro e w2 ⟨a2, c2, rfl, o2, b2⟩
  clear c10 c11
  have K2 := hid (K1.out.mono b2); have B2 := hid (kept_trans B1.out b2)
  have hs1 : w.heap.size ≤ w1.heap.size := B1.out.size
  have O2 := hid (show Own w2 w1.heap.size 5 1 a2 2 c2 ([x, y].map byteV) from o2)
  clear o2 b2
  have c20 := K2.out.cell (i := 0) (by simp); have c21 := K2.out.cell (i := 1) (by simp)
  simp only [List.getElem_cons_zero, List.getElem_cons_succ] at c20 c21
  have hlen := str_len12 n
  have HLEN := hid hlen
  have h2s : w1.heap.size ≤ w2.heap.size := by
    rcases O2.out.row.at (by omega) with ⟨b, off, e, hlt, _⟩
    have := O2.out
    obtain ⟨g, rfl⟩ := own_someO this (by omega)
    obtain ⟨_, _, _, hB, _⟩ := own_splice this
    cases e; omega
  have t1 : True := trivial
  clear hlen
  go_wp2_with (first
    | (at_builtin; have _t := t1; (refine wpl_append_str rfl (.tmp 12) (.tmp 14) rfl Try.underlying45 Try.underlying9 (by kernel_rfl) w1.heap.size rfl rfl O2.out (by omega) h2s ?_); clear t1; intro a3 c3 w3 o3 g3 b3; have O3 := hid o3; have B3 := hid (B2.out.trans (b3.mono hs1)); have h3s : w1.heap.size ≤ w3.heap.size := Nat.le_trans h2s b3.size; clear o3 g3 b3)
    | (at_builtin; (refine wpl_append_zeros rfl (.tmp 16) (.tmp 19) rfl Try.underlying45 Try.underlying3 (z := .int .u8 0) (bytes := 1) (by kernel_rfl) rfl rfl w1.heap.size (k := 14 - n.size) rfl rfl (by omega) O3.out (by omega) (by omega) h3s ?_); intro a4 c4 w4 o4 g4 b4; have O4 := hid o4; have B4 := hid (B3.out.trans (b4.mono hs1)); clear o4 g4 b4))
  have hl16 : 2 + n.size + (14 - n.size) = (entB n i).length := by rw [entB_len n i hn]; omega
  have o4 := O4.out
  rw [rep_byteV, ← List.map_append, ← List.map_append, HX.out, hl16] at o4
  have O5 := hid o4
  have HL := hid hl16
  clear o4 hl16 O4
  go_ret
  exact ⟨a4, c4, by rw [HL.out]; rfl, O5.out.low hs1, B4.out⟩

/-- the bytes of entries, if all may be -/
def blkO (es : List EntT) : Option (List UInt8) := if es.all (fun e => mayE e.nm e.ino) then some (es.flatMap fun e => entB e.nm e.ino) else none
def RetO (w : World) (o : Option (List UInt8)) (e : Ending) (w' : World) : Prop :=
  ∃ a c, e = .returned (.tuple #[.slice a (o.getD []).length c, .int .i64 (if o.isSome then 0 else 1)]) ∧ OwnB w' w.heap.size a c (o.getD []) ∧ Below w.heap.size w w'
theorem RetO_none {w w' : World} {o : Option (List UInt8)} {e : Ending} (ho : o = none) (he : e = .returned (.tuple #[.slice none 0 0, .int .i64 1])) (hb : Below w.heap.size w w') : RetO w o e w' := by
  subst ho; exact ⟨none, 0, he, Own.nil _ _ _ _, hb⟩
theorem RetO_some {w w' : World} {o : Option (List UInt8)} {e : Ending} {bs : List UInt8} {a : Option Addr} {c : Nat} (ho : o = some bs) (he : e = .returned (.tuple #[.slice a bs.length c, .int .i64 0])) (h : OwnB w' w.heap.size a c bs) (hb : Below w.heap.size w w') : RetO w o e w' := by
  subst ho; exact ⟨a, c, he, h, hb⟩
def blockF (t : List EntT) (k : Int) : Option (List UInt8) := if 0 ≤ k ∧ k < 4 then blkO ((t.drop (4 * k.toNat)).take 4) else none

theorem blkO_bad {es : List EntT} {j : Nat} (h : j < es.length) (hm : mayE es[j].nm es[j].ino = false) : blkO es = none := by
  unfold blkO
  rw [if_neg]
  intro ha
  have := List.all_eq_true.1 ha es[j] (List.getElem_mem h)
  rw [hm] at this; cases this
theorem all_snocE {es : List EntT} {j : Nat} (h : j < es.length) (ha : (es.take j).all (fun e => mayE e.nm e.ino) = true) (hm : mayE es[j].nm es[j].ino = true) : (es.take (j + 1)).all (fun e => mayE e.nm e.ino) = true := by
  rw [List.take_succ_eq_append_getElem h, List.all_append, ha]; simp [hm]
theorem flat_snocE {es : List EntT} {j : Nat} (h : j < es.length) : ((es.take (j + 1)).flatMap fun e => entB e.nm e.ino) = ((es.take j).flatMap fun e => entB e.nm e.ino) ++ entB es[j].nm es[j].ino := by
  rw [List.take_succ_eq_append_getElem h, List.flatMap_append]
  simp only [List.flatMap_cons, List.flatMap_nil, List.append_nil]
theorem flat_lenE : ∀ es : List EntT, es.all (fun e => mayE e.nm e.ino) = true → (es.flatMap fun e => entB e.nm e.ino).length = 16 * es.length
  | [], _ => rfl
  | e :: r, h => by
    simp only [List.all_cons, Bool.and_eq_true] at h
    have := mayE_bd h.1
    rw [List.flatMap_cons, List.length_append, entB_len _ _ (by omega), flat_lenE r h.2, List.length_cons]; omega

theorem isBlock_any (k : Int) (w : World) : Calls Try.prog 36 #[.int .i64 k] w fun e w' => e = .returned (.bool (decide (0 ≤ k ∧ k < 4))) ∧ w = w' := by
  by_cases h0 : 0 ≤ k
  · by_cases h1 : k < 4
    · rw [decide_eq_true ⟨h0, h1⟩]
      have d0 : decide (0 ≤ k) = true := decide_eq_true h0
      have d1 : decide (k < 4) = true := decide_eq_true h1
      go_enter Try.func36, Try.ntmps36
      go_wp2
      go_ret
      exact ⟨rfl, rfl⟩
    · rw [decide_eq_false (fun h => h1 h.2)]
      have d0 : decide (0 ≤ k) = true := decide_eq_true h0
      have d1 : decide (k < 4) = false := decide_eq_false h1
      go_enter Try.func36, Try.ntmps36
      go_wp2
      go_ret
      exact ⟨rfl, rfl⟩
  · rw [decide_eq_false (fun h => h0 h.1)]
    have d0 : decide (0 ≤ k) = false := decide_eq_false h0
    go_enter Try.func36, Try.ntmps36
    go_wp2
    go_ret
    exact ⟨rfl, rfl⟩

theorem slice_tab (g q : Nat) (hq : q < 4) (w : World) : (Instr.sliceAt 26 (.pointer (some ⟨g, 0, none⟩)) (some (.int .i64 ((q : Int) * 4))) (some (.int .i64 (((q : Int) + 1) * 4))) none).run Try.prog w = .ok (.slice (some ⟨g, 8 * q, none⟩) 4 (16 - 4 * q)) w := by
  rcases (by omega : q = 0 ∨ q = 1 ∨ q = 2 ∨ q = 3) with rfl | rfl | rfl | rfl <;> kernel_rfl

set_option maxHeartbeats 1000000 in
set_option maxRecDepth 100000 in
theorem tblock_any (t : List EntT) (ht : t.length = 16) (k : Int) (w : World) : Calls Try.prog 26 #[.agg (tabC t).toArray, .int .i64 k] w (RetO w (blockF t k)) := by
  have HT := hid ht
  have K0 := hid (blk_newO (W := w) rfl 26 (tabC t))
  have B0 := hid (albO w (.cells (tabC t).toArray 26))
  have SZ := hid (show (w.alloc (.cells (tabC t).toArray 26)).heap.size = w.heap.size + 1 by simp)
  clear ht
  by_cases hk : 0 ≤ k ∧ k < 4
  · obtain ⟨q, rfl⟩ : ∃ q : Nat, k = q := ⟨k.toNat, by omega⟩
    have hq : q < 4 := by omega
    have HR : Hid (blockF t (q : Int) = blkO ((t.drop (4 * q)).take 4)) := if_pos hk
    have HIB := fun w1 => isBlock_any (q : Int) w1
    rw [decide_eq_true hk] at HIB
    have HIB := hid HIB
    have q4 : (q : Int) < 4 := by omega
    clear hk
    obtain ⟨es, hes⟩ : ∃ es, es = (t.drop (4 * q)).take 4 := ⟨_, rfl⟩
    rw [← hes] at HR
    have hel : es.length = 4 := by rw [hes, List.length_take, List.length_drop, HT.out]; omega
    have hget : ∀ j (h : j < es.length), ∃ h' : 4 * q + j < t.length, es[j] = t[4 * q + j] := fun j h => ⟨by rw [HT.out]; omega, by subst hes; simp⟩
    have HG := hid hget; have HEL := hid hel
    clear hes hget hel
    have hsl := fun w1 => slice_tab w.heap.size q hq w1
    go_enter Try.func26, Try.ntmps26
    go_wp2_with (go_at_call 36; refine (HIB.out _).mono ?_; rintro e w1 ⟨rfl, rfl⟩)
    go_loopw [6, 19] (fun b i wr => ∃ (j : Nat) (a1 : Option Addr) (c1 m : Nat), j ≤ 4 ∧ i = .int .i64 j ∧ b = .slice a1 m c1 ∧ m = 16 * j ∧ (es.take j).all (fun e => mayE e.nm e.ino) = true ∧ Own wr (w.heap.size + 1) 5 1 a1 m c1 (((es.take j).flatMap fun e => entB e.nm e.ino).map byteV) ∧ Blk wr w.heap.size 26 (tabC t) ∧ Below w.heap.size w wr ∧ w.heap.size + 1 ≤ wr.heap.size) (fun _ i _ => 4 - (intOf i).toNat)
    case atStart => exact ⟨0, none, 0, 0, by omega, rfl, rfl, rfl, rfl, Own.nil _ _ _ _, K0.out, B0.out, by rw [SZ.out]; exact Nat.le_refl _⟩
    case round =>
      obtain ⟨j, a1, c1, m, hj, rfl, rfl, hm, hall, ho, hb0, hbl, hsz⟩ := hrel
      clear K0 B0 SZ hsl
      have HO := hid ho; have HB0 := hid hb0; have HBL := hid hbl; have HALL := hid hall; have HM := hid hm
      have hm64 : m ≤ 64 := by omega
      clear ho hb0 hbl hall hm
      by_cases hj4 : j < 4
      · have ij : (j : Int) < 4 := by omega
        have dj : decide ((j : Int) < 4) = true := decide_eq_true ij
        have hje : j < es.length := by rw [HEL.out]; exact hj4
        obtain ⟨ht4, hte⟩ := HG.out j hje
        have ck := tabC_get t (4 * q + j) ht4
        obtain ⟨hq0, hv0⟩ := List.getElem?_eq_some_iff.1 ck.1
        obtain ⟨hq1, hv1⟩ := List.getElem?_eq_some_iff.1 ck.2
        have c0 : wr.cell? ⟨w.heap.size, 8 * q + j * 2, none⟩ = some (.string es[j].nm) := by rw [hte, show 8 * q + j * 2 = 2 * (4 * q + j) by omega, HB0.out.cell (i := 2 * (4 * q + j)) hq0, hv0]
        have c1' : wr.cell? ⟨w.heap.size, 8 * q + j * 2 + 1, none⟩ = some (.int .i64 es[j].ino) := by rw [hte, show 8 * q + j * 2 + 1 = 2 * (4 * q + j) + 1 by omega, HB0.out.cell (i := 2 * (4 * q + j) + 1) hq1, hv1]
        have hbad := fun hm => blkO_bad hje hm
        have hgood := fun hm => all_snocE hje HALL.out hm
        have hfl := flat_snocE hje
        have hHM := fun w1 => dirMay_any es[j].nm es[j].ino w1
        have HBAD := hid hbad; have HGOOD := hid hgood; have HFL := hid hfl; have HHM := hid hHM
        clear hbad hgood hfl hHM hte ck hq0 hq1 hv0 hv1
        generalize es[j].nm = nm at *
        generalize es[j].ino = ino at *
        have KE := hid (blk_newO (W := wr) rfl 24 [.string nm, .int .i64 ino])
        cases hmm : mayE nm ino with
        | false =>
          rw [hmm] at HHM
          have HN := hid (HBAD.out hmm)
          clear hmm
          go_wp2_with (go_at_call 20; refine (HHM.out _).mono ?_; rintro e w3 ⟨rfl, b3⟩; have B3 := hid (kept_trans (HBL.out.alloc HBL.out.size _) b3); clear b3)
          go_ret2
          exact RetO_none (by rw [HR.out, HN.out]) rfl B3.out
        | true =>
          rw [hmm] at HHM
          have hbd := mayE_bd hmm
          have HG2 := hid (HGOOD.out hmm)
          have HPU := hid (fun w1 => dirPut_any nm ino ⟨hbd.1, by omega⟩ (by omega) w1)
          have hel := entB_len nm ino (by omega)
          have HE16 := hid hel
          clear hmm hbd hel
          generalize entB nm ino = B16 at *
          go_wp2_with (first
            | (go_at_call 20; refine (HHM.out _).mono ?_; rintro e w3 ⟨rfl, b3⟩; have B3 := hid (kept_trans (HBL.out.alloc HBL.out.size _) b3); have KE3 := hid (KE.out.mono b3); have HO3 := hid ((HO.out.alloc _).mono b3); have HB3 := hid ((HB0.out.mono (albO _ _)).mono b3); have z3 : wr.heap.size + 1 ≤ w3.heap.size := by (have := b3.size; simpa using this)
               clear b3
               have e30 := KE3.out.cell (i := 0) (by simp); have e31 := KE3.out.cell (i := 1) (by simp)
               simp only [List.getElem_cons_zero, List.getElem_cons_succ] at e30 e31)
            | (go_at_call 37; refine (HPU.out _).mono ?_; rintro e w4 ⟨a4, c4, rfl, o4, b4⟩; have B4 := hid (kept_trans B3.out b4); have HO4 := hid (HO3.out.mono b4); have HB4 := hid (HB3.out.mono b4); have O4 := hid o4; have z4 : wr.heap.size + 1 ≤ w4.heap.size := Nat.le_trans z3 b4.size
               clear b4 o4; rw [HE16.out])
            | (at_builtin; have r4 : Row w4 1 a4 16 c4 (B16.map byteV) := by (have := O4.out.row; rw [HE16.out] at this; exact this)
               (refine wpl_append rfl (.tmp 26) (.tmp 28) rfl E8 (w.heap.size + 1) rfl rfl HO4.out r4 (byteV_one B16) (by omega) (by omega) (by omega) ?_)
               intro a5 c5 w5 o5 g5 b5; have O5 := hid o5; have B5 := hid (B4.out.trans (b5.mono (by omega))); have HB5 := hid (HB4.out.below b5 (by omega)); have z5 : w.heap.size + 1 ≤ w5.heap.size := by (have := b5.size; omega)
               clear o5 g5 b5 r4))
          go_roundw
          case rel => exact ⟨j + 1, a5, c5, m + 16, by omega, by go_num, rfl, by have := HM.out; omega, HG2.out, by rw [HFL.out, List.map_append]; exact O5.out, HB5.out, B5.out, z5⟩
          case measure => simp [intOf]; omega
      · obtain rfl : j = 4 := by omega
        have dj : decide (((4 : Nat) : Int) < 4) = false := by decide
        rw [List.take_of_length_le (by rw [HEL.out]; omega)] at HO HALL
        have hsome : blkO es = some (es.flatMap fun e => entB e.nm e.ino) := if_pos HALL.out
        have hlen := flat_lenE es HALL.out
        rw [HEL.out, ← HM.out] at hlen
        have HS := hid hsome; have HLN := hid hlen
        clear hsome hlen
        generalize (es.flatMap fun e => entB e.nm e.ino) = bs at *
        go_wp2_with fail
        go_ret2
        exact RetO_some (by rw [HR.out, HS.out]) (by rw [HLN.out]; rfl) (by unfold OwnB; rw [HLN.out]; exact HO.out.low (by omega)) HBL.out
  · have HR : Hid (blockF t k = none) := if_neg hk
    have HIB := fun w1 => isBlock_any k w1
    rw [decide_eq_false hk] at HIB
    have HIB := hid HIB
    clear hk
    go_enter Try.func26, Try.ntmps26
    go_wp2_with (go_at_call 36; refine (HIB.out _).mono ?_; rintro e w1 ⟨rfl, rfl⟩)
    go_ret2
    exact RetO_none HR.out rfl B0.out
end Go.Proofs.Ytejfkjfidhdfaaa
