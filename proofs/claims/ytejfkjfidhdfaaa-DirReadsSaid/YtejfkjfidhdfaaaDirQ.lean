/- A directory's table: Read. -/
import Derived.Test.YtejfkjfidhdfaaaDirP
namespace Go.Proofs.Ytejfkjfidhdfaaa
open Go.RowKit Go.Shelf
set_option linter.unusedSimpArgs false
set_option linter.unusedVariables false

def chunk (bs : List UInt8) (i : Nat) : List UInt8 := (bs.drop (16 * i)).take 16
theorem chunk_len {bs : List UInt8} (h : 64 ≤ bs.length) {i : Nat} (hi : i < 4) : (chunk bs i).length = 16 := by
  unfold chunk; rw [List.length_take, List.length_drop]; omega
/-- the entries of the first chunks -/
def rdF (bs : List UInt8) : Nat → Option (List EntT)
  | 0 => some []
  | j + 1 => match rdF bs j, decR (chunk bs j) with
    | some l, some e => some (l ++ [e])
    | _, _ => none
theorem rdF_none {bs : List UInt8} {j : Nat} (h : rdF bs j = none) : rdF bs (j + 1) = none := by simp [rdF, h]
theorem rdF_bad {bs : List UInt8} {j : Nat} (hj : j < 4) (h : decR (chunk bs j) = none) : rdF bs 4 = none := by
  have h1 : rdF bs (j + 1) = none := by simp only [rdF, h]; cases rdF bs j <;> rfl
  rcases (by omega : j = 0 ∨ j = 1 ∨ j = 2 ∨ j = 3) with rfl | rfl | rfl | rfl
  · exact rdF_none (rdF_none (rdF_none h1))
  · exact rdF_none (rdF_none h1)
  · exact rdF_none h1
  · exact h1
theorem rdF_ok {bs : List UInt8} {j : Nat} {l : List EntT} {e : EntT} (h : rdF bs j = some l) (hd : decR (chunk bs j) = some e) : rdF bs (j + 1) = some (l ++ [e]) := by simp [rdF, h, hd]
theorem rdF_len {bs : List UInt8} : ∀ (j : Nat) (l : List EntT), rdF bs j = some l → l.length = j
  | 0, l, h => by cases h; rfl
  | j + 1, l, h => by
    unfold rdF at h
    cases h1 : rdF bs j with
    | none => rw [h1] at h; cases h
    | some l1 =>
      cases h2 : decR (chunk bs j) with
      | none => rw [h1, h2] at h; cases h
      | some e =>
        rw [h1, h2] at h
        cases h
        rw [List.length_append, rdF_len j l1 h1]; rfl
/-- a table with some entries laid from a place on -/
def setN (t : List EntT) (q : Nat) (es : List EntT) : List EntT := splice t (4 * q) es
theorem setN_nil (t : List EntT) (q : Nat) : setN t q [] = t := by simp [setN, splice]
theorem setN_len {t : List EntT} (ht : t.length = 16) {q : Nat} {es : List EntT} (h : 4 * q + es.length ≤ 16) : (setN t q es).length = 16 := by
  unfold setN; rw [length_splice t (4 * q) es (by omega), ht]
theorem setN_snoc {t : List EntT} (ht : t.length = 16) {q : Nat} {es : List EntT} (h : 4 * q + es.length < 16) (e : EntT) : (setN t q es).set (4 * q + es.length) e = setN t q (es ++ [e]) :=
  splice_set t (4 * q) es e (by omega)
def tabOf (t : List EntT) (q : Nat) : Option (List EntT) → List EntT × Int
  | some es => (setN t q es, 0)
  | none => (t, 2)
/-- what Read tells -/
def readT (t : List EntT) (k : Int) (bs : List UInt8) : List EntT × Int :=
  if 0 ≤ k ∧ k < 4 then (if bs.length < 64 then (t, 3) else tabOf t k.toNat (rdF bs 4)) else (t, 1)
def ReadP (w : World) (p : List EntT × Int) (e : Ending) (w' : World) : Prop := e = .returned (.tuple #[.agg (tabC p.1).toArray, .int .i64 p.2]) ∧ Below w.heap.size w w'
theorem results_tab {fn : Func} {c u : Tmp} (h : fn.results = #[.cell c 26, .tmp u]) {tmps : Array Value} {w : World} {g : Nat} {e : TypeId} {t : List EntT} (ht : t.length = 16) (hc : tmps.getD c undef = .pointer (some ⟨g, 0, none⟩)) (hb : Blk w g e (tabC t)) :
    (results fn tmps).run Try.prog w = .ok (.tuple #[.agg (tabC t).toArray, tmps.getD u undef]) w :=
  results_cell2 h hc hb Try.underlying26 rfl (by rw [infoTab, tabC_len, ht])

theorem slice_b (b off n c j : Nat) (hj : j < 4) (hc : 64 ≤ c) (w : World) : (Instr.sliceAt 45 (.slice (some ⟨b, off, none⟩) n c) (some (.int .i64 ((j : Int) * 16))) (some (.int .i64 (((j : Int) + 1) * 16))) none).run Try.prog w = .ok (.slice (some ⟨b, off + 16 * j, none⟩) 16 (c - 16 * j)) w := by
  have u := Try.underlying45
  have s8 : (sizeOf 5).run Try.prog w = .ok 1 w := by kernel_rfl
  have he : Try.prog.elem 45 = 5 := by kernel_rfl
  have hu : Try.prog.underlying 45 = some (.slice (Try.prog.elem 45)) := by rw [he]; exact u
  rw [run_sliceAt_slice w _ _ _ _ _ hu, run_slice_lh w _ _ _ _ hu _ _ _ _ (by omega) (by omega) (by omega), he, s8]
  show Result.ok (sliced _ _ _ _ _) w = _
  unfold sliced
  rw [show ((j : Int) * 16).toNat = 16 * j by omega, show (((j : Int) + 1) * 16).toNat = 16 * j + 16 by omega, if_neg (by omega)]
  simp only [Option.map_some, Addr.add_mid, Nat.mul_one]
  rw [show 16 * j + 16 - 16 * j = 16 by omega]

set_option maxHeartbeats 2000000 in
set_option maxRecDepth 100000 in
theorem tread_any (t : List EntT) (ht : t.length = 16) (k : Int) (a : Option Addr) (c : Nat) (bs : List UInt8) (w : World) (hr : RowB w a c bs) :
    Calls Try.prog 29 #[.agg (tabC t).toArray, .int .i64 k, .slice a bs.length c] w (ReadP w (readT t k bs)) := by
  obtain ⟨z, hz⟩ : ∃ z, z = zeroT := ⟨_, rfl⟩
  have HZE := hid hz
  have HZ := hid (show z.length = 16 by rw [hz]; exact zero_len)
  have HL := hid (tab_len HZ.out)
  have HT := hid ht
  have hb9 := rowB_len hr
  have HROW := hid hr
  have K0 := hid (blk_newO (W := w) rfl 26 (tabC t))
  have B0 := hid (albO w (.cells (tabC t).toArray 26))
  have S0 := hid (show (w.alloc (.cells (tabC t).toArray 26)).heap.size = w.heap.size + 1 by simp)
  clear ht hz hr
  by_cases hk : 0 ≤ k ∧ k < 4
  · obtain ⟨q, rfl⟩ : ∃ q : Nat, k = q := ⟨k.toNat, by omega⟩
    have hq : q < 4 := by omega
    have hir : readT t (q : Int) bs = (if bs.length < 64 then (t, 3) else tabOf t q (rdF bs 4)) := by unfold readT; rw [if_pos hk]; rfl
    have HIB := fun w1 => isBlock_any (q : Int) w1
    rw [decide_eq_true hk] at HIB
    have HIB := hid HIB
    clear hk
    by_cases hlen : bs.length < 64
    · rw [if_pos hlen] at hir
      have HIR := hid hir
      have d1 : decide ((bs.length : Int) < 64) = true := decide_eq_true (by omega)
      clear hir
      rw [HIR.out]
      go_enter Try.func29, Try.ntmps29
      go_wp2_with (first
        | ((with_reducible refine wpl_allocT (z := z) HZE.out rfl rfl ?_); intro w1 k1 b1 s1; rw [S0.out] at k1 s1; have K1 := hid k1; have B1 := hid (B0.out.trans (b1.mono B0.out.size)); have T1 := hid (K0.out.mono b1); have S1 := hid s1; clear k1 b1 s1)
        | (go_at_call 36; refine (HIB.out _).mono ?_; rintro e w2 ⟨rfl, rfl⟩)
        | (with_reducible refine wpl_loadT rfl _ rfl w.heap.size rfl t HT.out T1.out ?_)
        | ((try rw [S0.out]); (with_reducible refine wpl_storeT rfl _ _ rfl (w.heap.size + 1) rfl t HT.out rfl K1.out HL.out ?_); intro w3 k3 g3; have K3 := hid k3; have G3 := hid g3; clear k3 g3))
      refine bodyPost_ret (results_tab rfl HT.out rfl K3.out) rfl ⟨rfl, below_grown0 B1.out G3.out (by omega) B1.out.size⟩
    · rw [if_neg hlen] at hir
      have d1 : decide ((bs.length : Int) < 64) = false := decide_eq_false (by omega)
      have hbp : 0 < bs.length := by omega
      obtain ⟨b, off, rfl, hblt, _⟩ := HROW.out.at hbp
      have hc64 : 64 ≤ c := by have := HROW.out.2.1; omega
      have h64 : 64 ≤ bs.length := by omega
      have HSL := hid (fun n j hj w1 => slice_b b off n c j hj hc64 w1)
      have q4 : (q : Int) < 4 := by omega
      have HIR := hid hir
      clear hir hlen hbp
      go_enter Try.func29, Try.ntmps29
      go_wp2_with (first
        | (have _t := T3; (with_reducible refine wpl_allocT (z := z) HZE.out rfl rfl ?_); intro w4 k4 b4 s4; have K4 := hid k4; have B4 := hid (kept_trans B1.out b4); have T4 := hid (T1.out.mono b4); have R4 := hid (K1.out.mono b4); have S4 := hid s4; clear k4 b4 s4)
        | ((with_reducible refine wpl_allocT (z := z) HZE.out rfl rfl ?_); intro w1 k1 b1 s1; rw [S0.out] at k1 s1; have K1 := hid k1; have B1 := hid (B0.out.trans (b1.mono B0.out.size)); have T1 := hid (K0.out.mono b1); have S1 := hid s1; clear k1 b1 s1)
        | (go_at_call 36; refine (HIB.out _).mono ?_; rintro e w2 ⟨rfl, rfl⟩; have T3 : True := trivial)
        | (with_reducible refine wpl_loadT rfl _ rfl w.heap.size rfl t HT.out T1.out ?_)
        | ((with_reducible refine wpl_storeT rfl _ _ rfl w1.heap.size rfl t HT.out rfl K4.out HL.out ?_); intro w5 k5 g5; have K5 := hid k5; have G5 := hid g5; clear k5 g5))
      have hs1 : w1.heap.size = w.heap.size + 2 := by rw [S1.out]
      have T5 := hid (T4.out.grownS G5.out (by omega)); have R5 := hid (R4.out.grownS G5.out (by omega)); have B5 := hid (below_grown0 B4.out G5.out (by omega) B4.out.size)
      have K5' := K5.out
      rw [hs1] at K5' ⊢
      rw [← setN_nil t q] at K5'
      have hs5 : w.heap.size + 3 ≤ w5.heap.size := by have h1 := G5.out.size; have h2 := S4.out; omega
      clear T4 R4 B4 K4 S4 G5 K5 T1 K1 B1 S1 hs1
      go_loopw [21] (fun i wr => ∃ (j : Nat) (l : List EntT), j ≤ 4 ∧ i = .int .i64 j ∧ rdF bs j = some l ∧ Blk wr w.heap.size 26 (tabC t) ∧ Blk wr (w.heap.size + 1) 26 (tabC z) ∧ Blk wr (w.heap.size + 2) 26 (tabC (setN t q l)) ∧ Below w.heap.size w wr ∧ w.heap.size + 3 ≤ wr.heap.size) (fun i _ => 4 - (intOf i).toNat)
      case atStart => exact ⟨0, [], by omega, rfl, rfl, T5.out, R5.out, K5', B5.out, hs5⟩
      case round =>
        obtain ⟨j, l, hj, rfl, hrd, ht0, hr0, hk0, hb0, hsz⟩ := hrel
        clear T5 R5 K5' B5 hs5
        have HRD := hid hrd; have T6 := hid ht0; have R6 := hid hr0; have K6 := hid hk0; have B6 := hid hb0
        have hll := rdF_len j l hrd
        clear hrd ht0 hr0 hk0 hb0
        by_cases hj4 : j < 4
        · have ij : (j : Int) < 4 := by omega
          have dj : decide ((j : Int) < 4) = true := decide_eq_true ij
          have hsl := fun n w1 => HSL.out n j hj4 w1
          have hrow := rowB_sub (HROW.out.mono B6.out) (16 * j) 16 (by omega)
          have hch := chunk_len h64 hj4
          have HRC := fun w1 (hb : Below wr.heap.size wr w1) => dread_any b (off + 16 * j) (c - 16 * j) (chunk bs j) hch w1 (hrow.mono hb)
          have HRC := hid HRC
          have hls := setN_len HT.out (q := q) (es := l) (by omega)
          have HLS := hid hls; have HLL := hid hll
          have hkt : 4 * q + j < (setN t q l).length := by rw [hls]; omega
          have HKT := hid hkt
          clear hrow hch hls hll hkt
          go_wp2_with (go_at_call 38; fail)
          refine (HRC.out _ (Below.refl _ _)).mono ?_
          rintro e w7 ⟨nm, ino, ok, rfl, hyes, hno, b7⟩
          have HY := hid hyes; have HN := hid hno
          have T7 := hid (T6.out.mono b7); have R7 := hid (R6.out.mono b7); have K7 := hid (K6.out.mono b7); have B7 := hid (kept_trans B6.out b7)
          have z7 : w.heap.size + 3 ≤ w7.heap.size := Nat.le_trans hsz b7.size
          have KE := hid (blk_newO (W := w7) rfl 24 [.string nm, .int .i64 ino])
          clear b7 hyes hno HRC hsl
          cases ok with
          | false =>
            have hbad := rdF_bad hj4 (HN.out rfl)
            have HBAD := hid hbad
            clear hbad
            have T8 := hid (T7.out.mono (albO _ (.cells #[.string nm, .int .i64 ino] 24))); have R8 := hid (R7.out.mono (albO _ (.cells #[.string nm, .int .i64 ino] 24)))
            go_wp2_with (first
              | (with_reducible refine wpl_loadT rfl _ rfl w.heap.size rfl t HT.out T8.out ?_)
              | ((with_reducible refine wpl_storeT rfl _ _ rfl (w.heap.size + 1) rfl t HT.out rfl R8.out HL.out ?_); intro w9 k9 g9; have K9 := hid k9; have G9 := hid g9; clear k9 g9))
            refine bodyPost_ret (results_tab rfl HT.out rfl K9.out) rfl ⟨by rw [HIR.out, HBAD.out]; rfl, below_grown0 (B7.out.alloc B7.out.size _) G9.out (by omega) (by simp; omega)⟩
          | true =>
            have hok := rdF_ok HRD.out (HY.out rfl)
            have hsn := setN_snoc HT.out (q := q) (es := l) (by have := HLL.out; omega) ⟨nm, ino⟩
            rw [HLL.out] at hsn
            have HOK := hid hok; have HSN := hid hsn
            clear hok hsn
            have K8 : Hid (Blk (w7.alloc (.cells #[.string nm, .int .i64 ino] 24)) (w.heap.size + 2) 26 (tabC (setN t q l))) := hid (K7.out.mono (albO _ _))
            have e1 : IntKind.i64.wrap ((q : Int) * 4 + j) = q * 4 + j := IntWalk.i64_in _ (by omega)
            have e3 : ((q : Int) * 4 + j) < 16 := by omega
            have e4 : ((q : Int) * 4 + j).toNat = 4 * q + j := by omega
            go_wp2_with (first
              | ((with_reducible refine wpl_storeEn rfl _ _ rfl (w.heap.size + 2) (4 * q + j) rfl nm ino rfl K8.out HKT.out ?_); intro w9 k9 g9; rw [HSN.out] at k9; have K9 := hid k9; have G9 := hid g9; clear k9 g9))
            go_roundw
            case rel => exact ⟨j + 1, l ++ [⟨nm, ino⟩], by omega, by go_num, HOK.out, (T7.out.mono (albO _ (.cells #[.string nm, .int .i64 ino] 24))).grownS G9.out (by omega), (R7.out.mono (albO _ (.cells #[.string nm, .int .i64 ino] 24))).grownS G9.out (by omega), K9.out, below_grown0 (B7.out.alloc B7.out.size (.cells #[.string nm, .int .i64 ino] 24)) G9.out (by omega) (by simp; omega), by have := G9.out.size; simp at this; omega⟩
            case measure => simp [intOf]; omega
        · obtain rfl : j = 4 := by omega
          have dj : decide (((4 : Nat) : Int) < 4) = false := by decide
          have hls := setN_len HT.out (q := q) (es := l) (by omega)
          have HLS := hid hls
          clear hls hll
          go_wp2_with (first
            | (with_reducible refine wpl_loadT rfl _ rfl (w.heap.size + 2) rfl (setN t q l) HLS.out K6.out ?_)
            | ((with_reducible refine wpl_storeT rfl _ _ rfl (w.heap.size + 1) rfl (setN t q l) HLS.out rfl R6.out HL.out ?_); intro w9 k9 g9; have K9 := hid k9; have G9 := hid g9; clear k9 g9))
          refine bodyPost_ret (results_tab rfl HLS.out rfl K9.out) rfl ⟨by rw [HIR.out, HRD.out]; rfl, below_grown0 B6.out G9.out (by omega) B6.out.size⟩
  · have hir : readT t k bs = (t, 1) := if_neg hk
    have HIB := fun w1 => isBlock_any k w1
    rw [decide_eq_false hk] at HIB
    have HIB := hid HIB
    have HIR := hid hir
    clear hk hir
    rw [HIR.out]
    go_enter Try.func29, Try.ntmps29
    go_wp2_with (first
      | ((with_reducible refine wpl_allocT (z := z) HZE.out rfl rfl ?_); intro w1 k1 b1 s1; rw [S0.out] at k1 s1; have K1 := hid k1; have B1 := hid (B0.out.trans (b1.mono B0.out.size)); have T1 := hid (K0.out.mono b1); have S1 := hid s1; clear k1 b1 s1)
      | (go_at_call 36; refine (HIB.out _).mono ?_; rintro e w2 ⟨rfl, rfl⟩)
      | (with_reducible refine wpl_loadT rfl _ rfl w.heap.size rfl t HT.out T1.out ?_)
      | ((try rw [S0.out]); (with_reducible refine wpl_storeT rfl _ _ rfl (w.heap.size + 1) rfl t HT.out rfl K1.out HL.out ?_); intro w3 k3 g3; have K3 := hid k3; have G3 := hid g3; clear k3 g3))
    refine bodyPost_ret (results_tab rfl HT.out rfl K3.out) rfl ⟨rfl, below_grown0 B1.out G3.out (by omega) B1.out.size⟩
end Go.Proofs.Ytejfkjfidhdfaaa
