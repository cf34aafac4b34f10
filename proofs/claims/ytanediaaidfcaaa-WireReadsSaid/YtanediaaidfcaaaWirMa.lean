/- Merged: WirB WirC WirD WirE WirF WirG WirH. -/
import Derived.Test.YtanediaaidfcaaaWirA
import Derived.Test.YtanediaaidfcaaaPmA
import Derived.Test.YtanediaaidfcaaaNumD
import Derived.Test.YtanediaaidfcaaaLibZ
import Derived.Test.YtanediaaidfcaaaBytesA
/- Packets in memory; the document's words that put. -/
namespace Go.Proofs.Ytanediaaidfcaaa
open Go.RowKit
set_option linter.unusedSimpArgs false
set_option linter.unusedVariables false

def strV (l : List UInt8) : Value := .string ⟨l.toArray⟩
theorem strV_size (l : List UInt8) : (⟨l.toArray⟩ : ByteArray).size = l.length := by simp [ByteArray.size]
/-- a packet's cells -/
def pkC (P : PkM) (a : Option Addr) (n c : Nat) : List Value :=
  [.int .i64 (P.I 0), .int .i64 (P.I 1), .int .i64 (P.I 2), .int .i64 (P.I 3), .int .i64 (P.I 4), .int .i64 (P.I 5), .int .i64 (P.I 6), strV (P.S 7), .int .i64 (P.I 8), .int .i64 (P.I 9), .int .i64 (P.I 10), strV (P.S 11), strV (P.S 12),
   .int .i64 (P.I 13), .int .i64 (P.I 14), .int .i64 (P.I 15), .int .i64 (P.I 16), strV (P.S 17), .int .i64 (P.I 18), .int .i64 (P.I 19), .int .i64 (P.I 20), .int .i64 (P.I 21), strV (P.S 22), .slice a n c, .int .i64 (P.I 24), .int .i64 (P.I 25), .int .i64 (P.I 26),
   .int .i64 (P.I 27), .int .i64 (P.I 28), .int .i64 (P.I 29), .int .i64 (P.I 30), .int .i64 (P.I 31), .int .i64 (P.I 32), .int .i64 (P.I 33), .int .i64 (P.I 34), .int .i64 (P.I 35), .int .i64 (P.I 36), .int .i64 (P.I 37), .int .i64 (P.I 38), .int .i64 (P.I 39), .int .i64 (P.I 40), .int .i64 (P.I 41), .int .i64 (P.I 42)]
theorem pkC_len (P : PkM) (a : Option Addr) (n c : Nat) : (pkC P a n c).length = 43 := rfl
def isTxt (o : Nat) : Bool := o == 7 || o == 11 || o == 12 || o == 17 || o == 22
def isNum (o : Nat) : Bool := decide (o < 43) && !isTxt o && o != 23
theorem lt43 {p : Nat → Prop} (h : ∀ k : Fin 43, p k.1) {o : Nat} (ho : o < 43) : p o := h ⟨o, ho⟩
theorem pkC_num (P : PkM) (a : Option Addr) (n c : Nat) {o : Nat} (h : isNum o = true) : (pkC P a n c)[o]? = some (.int .i64 (P.I o)) := by
  have ho : o < 43 := by simp [isNum] at h; omega
  rcases (by omega : o = 0 ∨ o = 1 ∨ o = 2 ∨ o = 3 ∨ o = 4 ∨ o = 5 ∨ o = 6 ∨ o = 7 ∨ o = 8 ∨ o = 9 ∨ o = 10 ∨ o = 11 ∨ o = 12 ∨ o = 13 ∨ o = 14 ∨ o = 15 ∨ o = 16 ∨ o = 17 ∨ o = 18 ∨ o = 19 ∨ o = 20 ∨ o = 21 ∨ o = 22 ∨ o = 23 ∨ o = 24 ∨ o = 25 ∨ o = 26 ∨ o = 27 ∨ o = 28 ∨ o = 29 ∨ o = 30 ∨ o = 31 ∨ o = 32 ∨ o = 33 ∨ o = 34 ∨ o = 35 ∨ o = 36 ∨ o = 37 ∨ o = 38 ∨ o = 39 ∨ o = 40 ∨ o = 41 ∨ o = 42) with e | e | e | e | e | e | e | e | e | e | e | e | e | e | e | e | e | e | e | e | e | e | e | e | e | e | e | e | e | e | e | e | e | e | e | e | e | e | e | e | e | e | e <;> subst e <;> first | rfl | (exact absurd h (by decide))
theorem pkC_txt (P : PkM) (a : Option Addr) (n c : Nat) {o : Nat} (h : isTxt o = true) : (pkC P a n c)[o]? = some (strV (P.S o)) := by
  simp [isTxt] at h
  rcases h with (((e | e) | e) | e) | e <;> subst e <;> rfl
theorem pkC_setS (P : PkM) (a : Option Addr) (n c : Nat) {o : Nat} (h : isTxt o = true) (s : List UInt8) : (pkC P a n c).set o (strV s) = pkC (setS P o s) a n c := by
  simp [isTxt] at h
  rcases h with (((e | e) | e) | e) | e <;> subst e <;> simp [pkC, setS]
theorem pkC_setI (P : PkM) (a : Option Addr) (n c : Nat) {o : Nat} (h : isNum o = true) (v : Int) : (pkC P a n c).set o (.int .i64 v) = pkC (setI P o v) a n c := by
  have ho : o < 43 := by simp [isNum] at h; omega
  rcases (by omega : o = 0 ∨ o = 1 ∨ o = 2 ∨ o = 3 ∨ o = 4 ∨ o = 5 ∨ o = 6 ∨ o = 7 ∨ o = 8 ∨ o = 9 ∨ o = 10 ∨ o = 11 ∨ o = 12 ∨ o = 13 ∨ o = 14 ∨ o = 15 ∨ o = 16 ∨ o = 17 ∨ o = 18 ∨ o = 19 ∨ o = 20 ∨ o = 21 ∨ o = 22 ∨ o = 23 ∨ o = 24 ∨ o = 25 ∨ o = 26 ∨ o = 27 ∨ o = 28 ∨ o = 29 ∨ o = 30 ∨ o = 31 ∨ o = 32 ∨ o = 33 ∨ o = 34 ∨ o = 35 ∨ o = 36 ∨ o = 37 ∨ o = 38 ∨ o = 39 ∨ o = 40 ∨ o = 41 ∨ o = 42) with e | e | e | e | e | e | e | e | e | e | e | e | e | e | e | e | e | e | e | e | e | e | e | e | e | e | e | e | e | e | e | e | e | e | e | e | e | e | e | e | e | e | e <;> subst e <;> first | (exact absurd h (by decide)) | (simp [pkC, setI])

theorem own_ne_blkW {w : World} {B g h c : Nat} {e t : TypeId} {sz n : Nat} {cs L : List Value} (ho : Own w B e sz (some ⟨g, 0, none⟩) n c cs) (hb : Blk w h t L) (hne : e ≠ t) : g ≠ h := by
  obtain ⟨M, hm, _⟩ := Own.blk ho
  exact blk_ne hm hb hne

/-- the document's bytes that are put, and whether all fitted -/
structure WM where
  b : List UInt8
  no : Bool
def wnum (m : WM) (n : Int) (k : Nat) (lo hi : Int) : WM := if fitsB n k = true ∧ lo ≤ n ∧ n ≤ hi then ⟨m.b ++ le k n.toNat, m.no⟩ else ⟨m.b, true⟩
def wtext (m : WM) (s : List UInt8) (k most : Nat) : WM := let m' := wnum m s.length k 0 most; ⟨m'.b ++ s, m'.no⟩
def WIn (w : World) (g B : Nat) (m : WM) : Prop := ∃ a c, Blk w g 83 [.slice a m.b.length c, .bool m.no] ∧ OwnB w B a c m.b
end Go.Proofs.Ytanediaaidfcaaa
/- The document's words that put: a number, a text. -/
namespace Go.Proofs.Ytanediaaidfcaaa
open Go.RowKit
set_option linter.unusedSimpArgs false
set_option linter.unusedVariables false

theorem own_setW {w : World} {B g : Nat} {e t : TypeId} {sz : Nat} {a : Option Addr} {n c : Nat} {cs L : List Value} (h : Own w B e sz a n c cs) (hb : Blk w g t L) (hne : e ≠ t) (i : Nat) (v : Value) : Own (w.setCell ⟨g, i, none⟩ v) B e sz a n c cs := by
  have t1 : Turns (fun k => k = g) w (w.setCell ⟨g, i, none⟩ v) := (Turns.refl (fun k => k = g) w).setCell (p := ⟨g, i, none⟩) rfl v
  refine ⟨h.1, ?_⟩
  rcases h.2 with hn | ⟨b, cap, cur, hv, hB, hh, rest⟩
  · exact .inl hn
  · refine .inr ⟨b, cap, cur, hv, hB, (t1.block b (Array.getElem?_eq_some_iff.1 hh).1 (fun q => ?_)).trans hh, rest⟩
    subst q
    unfold Blk at hb
    rw [hb] at hh
    simp at hh
    exact hne hh.2.symm
theorem below_setW {B : Nat} {w w' : World} (h : Below B w w') {g : Nat} (hg : B ≤ g) (i : Nat) (v : Value) : Below B w (w'.setCell ⟨g, i, none⟩ v) :=
  ⟨h.os, h.tape, h.output, by simp [World.setCell]; exact h.size, fun k hk => (Below.heap_setCell _ _ _ _ (by rintro rfl; omega)).trans (h.block k hk)⟩

set_option maxHeartbeats 400000 in
theorem wnum_any {w : World} {g B : Nat} {m : WM} (h : WIn w g B m) (hB : B ≤ g) (hl : m.b.length ≤ 1000000) (n lo hi : Int) (k : Nat) (hn9 : n ≤ 9223372036854775807) :
    Calls Try.prog 40 #[.pointer (some ⟨g, 0, none⟩), .int .i64 n, .int .i64 k, .int .i64 lo, .int .i64 hi] w fun e w' => e = .returned (.tuple #[]) ∧ WIn w' g B (wnum m n k lo hi) ∧ Below B w w' := by
  obtain ⟨a, c, hb, ho⟩ := h
  have c0 := hb.cell (i := 0) (by simp)
  have c1 := hb.cell (i := 1) (by simp)
  have f0 := hb.frozen 0
  have f1 := hb.frozen 1
  simp only [List.getElem_cons_zero, List.getElem_cons_succ] at c0 c1
  have hgl := hb.lt
  by_cases hok : fitsB n k = true ∧ lo ≤ n ∧ n ≤ hi
  · have hE : wnum m n k lo hi = ⟨m.b ++ le k n.toNat, m.no⟩ := by unfold wnum; rw [if_pos hok]
    have hF : putF m.b n k = m.b ++ le k n.toNat := by unfold putF; rw [if_pos hok.1]; rfl
    obtain ⟨ys, hys⟩ : ∃ ys, ys = m.b ++ le k n.toNat := ⟨_, rfl⟩
    rw [← hys] at hE hF
    rw [hE]
    obtain ⟨hf, h1, h2⟩ := hok
    have d1 : decide (n < lo) = false := decide_eq_false (by omega)
    have d2 : decide (hi < n) = false := decide_eq_false (by omega)
    have HP := hid (putRef_any a c m.b n k w ho.row (by omega) hn9)
    rw [hF] at HP
    have HO := hid ho; have HB := hid hb; have HFi := hid (fitsRef_any n k w)
    rw [hf] at HFi
    clear hE hF ho hb h1 h2 hf hys
    go_enter Try.func40, Try.ntmps40
    go_wp2_with fail
    refine HFi.out.mono ?_
    rintro e w1 ⟨rfl, rfl⟩
    go_wp2_with fail
    refine HP.out.mono ?_
    rintro e w2 ⟨a2, c2, rfl, o2, b2⟩
    have hb2 := HB.out.mono b2
    have x0 := hb2.cell (i := 0) (by simp)
    have g0 := hb2.frozen 0
    simp only [List.getElem_cons_zero] at x0
    have O2 := hid o2; have B2 := hid b2; have HB2 := hid hb2
    have hBw : B ≤ w.heap.size := by omega
    clear o2 b2 hb2
    go_wp2_with fail
    go_end0
    refine ⟨rfl, ⟨a2, c2, ?_, ?_⟩, below_setW (B2.out.mono hBw) hB 0 _⟩
    · exact Blk.set HB2.out 0 (.slice a2 ys.length c2)
    · exact Own.low (own_setW O2.out HB2.out (by decide) 0 _) hBw
  · have hE : wnum m n k lo hi = ⟨m.b, true⟩ := by unfold wnum; rw [if_neg hok]
    rw [hE]
    have hfin : WIn (w.setCell ⟨g, 1, none⟩ (.bool true)) g B ⟨m.b, true⟩ := ⟨a, c, Blk.set hb 1 (.bool true), own_setW ho hb (by decide) 1 _⟩
    have hbel : Below B w (w.setCell ⟨g, 1, none⟩ (.bool true)) := below_setW (Below.refl _ _) hB 1 _
    have hFi := fitsRef_any n k w
    have HFin := hid hfin; have HBel := hid hbel
    clear hE hfin hbel hb ho
    rcases (by
      by_cases hf : fitsB n k = true
      · by_cases h1 : n < lo
        · exact .inr (.inl ⟨hf, decide_eq_true h1⟩)
        · exact .inr (.inr ⟨hf, decide_eq_false h1, decide_eq_true (by
            by_cases h2 : n ≤ hi
            · exact absurd ⟨hf, by omega, h2⟩ hok
            · omega)⟩)
      · exact .inl (by simpa using hf) : fitsB n k = false ∨ (fitsB n k = true ∧ decide (n < lo) = true) ∨ (fitsB n k = true ∧ decide (n < lo) = false ∧ decide (hi < n) = true)) with hf | ⟨hf, d1⟩ | ⟨hf, d1, d2⟩
    all_goals
      rw [hf] at hFi
      have HFi := hid hFi
      clear hFi hok hf
      go_enter Try.func40, Try.ntmps40
      go_wp2_with fail
      refine HFi.out.mono ?_
      rintro e w1 ⟨rfl, rfl⟩
      go_wp2_with fail
      refine bodyPost_ret (results_none rfl _ _ _) rfl ?_
      exact ⟨rfl, HFin.out, HBel.out⟩

theorem blk_keepsW {w w' : World} {B g : Nat} {e t : TypeId} {sz : Nat} {a : Option Addr} {n c : Nat} {cs L : List Value} (ho : Own w B e sz a n c cs) (hb : Blk w g t L) (G : w.grownBy w' (Value.slice a n c).ownBlock) (hne : e ≠ t) : Blk w' g t L := by
  refine (G.block g hb.lt (fun q => ?_)).trans hb
  rcases ho.2 with ⟨hv, _⟩ | ⟨b, cap, cur, hv, hB, hh, rest⟩
  · rw [hv] at q; cases q
  · rw [hv] at q
    have : g = b := by simpa [Value.ownBlock] using q
    subst this
    unfold Blk at hb
    rw [hb] at hh
    simp at hh
    exact hne hh.2.symm

set_option maxHeartbeats 400000 in
theorem wtext_any {w : World} {g B : Nat} {m : WM} (h : WIn w g B m) (hB : B ≤ g) (hl : m.b.length ≤ 900000) (s : List UInt8) (hs : s.length ≤ 10000) (k most : Nat) (hk : k ≤ 8) :
    Calls Try.prog 41 #[.pointer (some ⟨g, 0, none⟩), strV s, .int .i64 k, .int .i64 most] w fun e w' => e = .returned (.tuple #[]) ∧ WIn w' g B (wtext m s k most) ∧ Below B w w' := by
  have t1 : True := trivial
  have HN := hid (wnum_any h hB (by omega) s.length 0 most k (by omega))
  have hlen : (wnum m s.length k 0 most).b.length ≤ 1000000 := by
    unfold wnum; split
    · simp [le_length]; omega
    · show m.b.length ≤ _; omega
  obtain ⟨m', hm'⟩ : ∃ m', m' = wnum m s.length k 0 most := ⟨_, rfl⟩
  have hE : wtext m s k most = ⟨m'.b ++ s, m'.no⟩ := by rw [hm']; rfl
  rw [hE]
  rw [← hm'] at HN hlen
  have hsz := strV_size s
  clear hE hm' h
  unfold strV
  obtain ⟨st, hst⟩ : ∃ st : ByteArray, st = ⟨s.toArray⟩ := ⟨_, rfl⟩
  have hsl : st.data.toList = s := by rw [hst]
  rw [← hst] at hsz ⊢
  have hss : ¬ (9223372036854775807 < st.size) := by omega
  rw [← hsz] at HN
  have HSL := hid hsl; have HSZ := hid hsz
  clear hst hsl hsz
  go_enter Try.func41, Try.ntmps41
  go_wp2_with fail
  refine HN.out.mono ?_
  rintro e w1 ⟨rfl, ⟨a, c, hb, ho⟩, b1⟩
  have c0 := hb.cell (i := 0) (by simp)
  simp only [List.getElem_cons_zero] at c0
  have HB1 := hid hb; have HO1 := hid ho; have B1 := hid b1
  have hBw : B ≤ w1.heap.size := by have := hb.lt; omega
  clear hb ho b1
  have hst : st.size ≤ 10000 := by rw [HSZ.out]; exact hs
  go_wp2_with (first
    | (at_builtin; have _t := t1; refine wpl_append_str rfl (.tmp 18) (.tmp 19) rfl Try.underlying37 Try.underlying9 info8 B rfl rfl HO1.out (by omega) hBw ?_; clear t1; intro a2 c2 w2 o2 g2 b2; have O2 := hid o2; have B2 := hid b2; have hb2 := blk_keepsW HO1.out HB1.out g2 (by decide); have x0 := hb2.cell (i := 0) (by simp); have f0 := hb2.frozen 0; simp only [List.getElem_cons_zero] at x0; have HB2 := hid hb2; clear o2 g2 b2 hb2))
  go_end0
  have o3 := O2.out
  rw [HSL.out, ← List.map_append] at o3
  have o4 : OwnB w2 B a2 c2 (m'.b ++ s) := by
    have : m'.b.length + st.size = (m'.b ++ s).length := by rw [HSZ.out]; simp
    rw [this] at o3; exact o3
  have hn : m'.b.length + st.size = (m'.b ++ s).length := by rw [HSZ.out]; simp
  refine ⟨rfl, ⟨a2, c2, ?_, own_setW o4 HB2.out (by decide) 0 _⟩, below_setW (B1.out.trans B2.out) hB 0 _⟩
  show Blk _ g _ [.slice a2 (m'.b ++ s).length c2, .bool m'.no]
  rw [← hn]
  exact Blk.set HB2.out 0 (.slice a2 (m'.b.length + st.size) c2)
end Go.Proofs.Ytanediaaidfcaaa
/- The document's words that read: a number. -/
namespace Go.Proofs.Ytanediaaidfcaaa
open Go.RowKit
set_option linter.unusedSimpArgs false
set_option linter.unusedVariables false

/-- the document's reader: bytes of an older world, a place, has something failed? -/
def RIn (w : World) (g : Nat) (a : Option Addr) (c : Nat) (xs : List UInt8) (at_ : Nat) (no : Bool) : Prop := Blk w g 64 [.slice a xs.length c, .int .i64 (at_ : Int), .bool no]
def rnum (xs : List UInt8) (at_ : Nat) (no : Bool) (k : Nat) : Nat × Nat × Bool := match getF xs at_ k with
  | some v => (v, at_ + k, no)
  | none => (0, at_, true)

set_option maxHeartbeats 400000 in
theorem rnum_any {W0 w : World} {g : Nat} {a : Option Addr} {c : Nat} {xs : List UInt8} {at_ : Nat} {no : Bool} (h : RIn w g a c xs at_ no) (r0 : RowB W0 a c xs) (b0 : Below W0.heap.size W0 w) (hg : W0.heap.size ≤ g) (hat : at_ ≤ xs.length) (hl : xs.length ≤ 1000000) (k : Nat) (hk : k ≤ 8) :
    Calls Try.prog 25 #[.pointer (some ⟨g, 0, none⟩), .int .i64 k] w fun e w' => e = .returned (.int .i64 ((rnum xs at_ no k).1 : Int)) ∧ RIn w' g a c xs (rnum xs at_ no k).2.1 (rnum xs at_ no k).2.2 ∧ (rnum xs at_ no k).2.1 ≤ xs.length ∧ Turns (fun x => x = g) w w' := by
  unfold RIn at h
  have c0 := h.cell (i := 0) (by simp)
  have c1 := h.cell (i := 1) (by simp)
  have c2 := h.cell (i := 2) (by simp)
  have f0 := h.frozen 0
  have f1 := h.frozen 1
  have f2 := h.frozen 2
  simp only [List.getElem_cons_zero, List.getElem_cons_succ] at c0 c1 c2
  have hgl := h.lt
  have hG := fun X (b : Below w.heap.size w X) => getRef_any a c xs at_ k X ((r0.mono b0).mono b) (by omega) (by omega)
  have d0 : Below w.heap.size w w.drew := (Below.refl _ w).drew
  cases hv : getF xs at_ k with
  | none =>
    have e1 : rnum xs at_ no k = (0, at_, true) := by unfold rnum; rw [hv]
    rw [e1]
    rw [hv] at hG
    have HG := hid hG
    have H := hid h
    clear hG hv e1 h
    unfold getV at HG
    go_enter Try.func25, Try.ntmps25
    go_wp2_with fail
    go_region_with (go_at_call 44; refine (HG.out _ (bel_drewN (Below.refl _ _) 1)).mono ?_; rintro e w1 ⟨rfl, rfl⟩)
    all_goals
      go_wp2_with fail
      go_ret
      have hb := H.out.mono (bel_drewN (Below.refl w.heap.size w) 1)
      exact ⟨rfl, Blk.set hb 2 (.bool true), hat, ((Turns.refl (fun x => x = g) w).drewN 1).setCell (p := ⟨g, 2, none⟩) rfl _⟩
  | some v =>
    have e1 : rnum xs at_ no k = (v, at_ + k, no) := by unfold rnum; rw [hv]
    have hb9 : at_ + k ≤ xs.length ∧ v ≤ 9223372036854775807 := by
      unfold getF at hv
      split at hv
      · next h1 =>
        split at hv
        · next h2 => cases hv; exact ⟨by omega, h2⟩
        · cases hv
      · cases hv
    rw [e1]
    rw [hv] at hG
    have HG := hid hG
    have H := hid h
    obtain ⟨hb8, hv9⟩ := hb9
    clear hG hv e1 h
    unfold getV at HG
    go_enter Try.func25, Try.ntmps25
    go_wp2_with fail
    go_region_with (go_at_call 44; refine (HG.out _ (bel_drewN (Below.refl _ _) 1)).mono ?_; rintro e w1 ⟨rfl, rfl⟩)
    all_goals
      go_wp2_with fail
      go_ret
      have hb := H.out.mono (bel_drewN (Below.refl w.heap.size w) 1)
      have e9 : ((at_ : Int) + (k : Int)) = ((at_ + k : Nat) : Int) := by omega
      refine ⟨rfl, ?_, hb8, ((Turns.refl (fun x => x = g) w).drewN 1).setCell (p := ⟨g, 1, none⟩) rfl _⟩
      have := Blk.set hb 1 (.int .i64 ((at_ : Int) + (k : Int)))
      unfold RIn
      rw [← e9]
      exact this
end Go.Proofs.Ytanediaaidfcaaa
/- The document's words that read: a text. -/
namespace Go.Proofs.Ytanediaaidfcaaa
open Go.RowKit
set_option linter.unusedSimpArgs false
set_option linter.unusedVariables false

def rtext (xs : List UInt8) (at_ : Nat) (no : Bool) (k : Nat) : List UInt8 × Nat × Bool :=
  if (rnum xs at_ no k).2.2 = true ∨ xs.length < (rnum xs at_ no k).2.1 + (rnum xs at_ no k).1 then ([], (rnum xs at_ no k).2.1, true) else ((xs.drop (rnum xs at_ no k).2.1).take (rnum xs at_ no k).1, (rnum xs at_ no k).2.1 + (rnum xs at_ no k).1, false)
theorem rnum_bd (xs : List UInt8) (at_ : Nat) (no : Bool) (k : Nat) : (rnum xs at_ no k).1 ≤ 9223372036854775807 := by
  unfold rnum
  cases hv : getF xs at_ k with
  | none => simp
  | some v =>
    unfold getF at hv
    split at hv
    · split at hv
      · next h2 => cases hv; exact h2
      · cases hv
    · cases hv

theorem rnum_pos {xs : List UInt8} {at_ : Nat} {no : Bool} {k : Nat} (h : (rnum xs at_ no k).2.2 = false) : 0 < xs.length := by
  unfold rnum at h
  cases hv : getF xs at_ k with
  | none => rw [hv] at h; cases h
  | some v =>
    unfold getF at hv
    split at hv
    · next h1 => have := widthB_le h1.1; omega
    · cases hv
/-- a part of a row, wherever its address lies -/
theorem row_part {w : World} {b off c : Nat} {xs : List UInt8} (h : RowB w (some ⟨b, off, none⟩) c xs) (lo n : Nat) (hn : lo + n ≤ xs.length) {dp : Option Addr} (hd : (if c = lo then (some ⟨b, off, none⟩ : Option Addr) else some ⟨b, off + lo, none⟩) = dp) :
    RowB w dp (c - lo) ((xs.drop lo).take n) ∧ ((xs.drop lo).take n).length = n := by
  have hl : ((xs.drop lo).take n).length = n := by simp; omega
  refine ⟨?_, hl⟩
  by_cases h4 : c = lo
  · have h2 := h.2.1
    have h3 := h.2.2.1
    obtain rfl : n = 0 := by omega
    rw [if_pos h4] at hd
    refine ⟨by simp, by rw [hl]; exact Nat.zero_le _, by omega, (fun q => by rw [q] at hd; cases hd), fun q => absurd q (by rw [hl]; omega)⟩
  · rw [if_neg h4] at hd
    rw [← hd]
    exact rowB_sub h lo n hn

set_option maxHeartbeats 400000 in
theorem rtext_any {W0 w : World} {g : Nat} {a : Option Addr} {c : Nat} {xs : List UInt8} {at_ : Nat} {no : Bool} (h : RIn w g a c xs at_ no) (r0 : RowB W0 a c xs) (b0 : Below W0.heap.size W0 w) (hg : W0.heap.size ≤ g) (hat : at_ ≤ xs.length) (hl : xs.length ≤ 1000000) (k : Nat) (hk : k ≤ 8) :
    Calls Try.prog 26 #[.pointer (some ⟨g, 0, none⟩), .int .i64 k] w fun e w' => e = .returned (strV (rtext xs at_ no k).1) ∧ RIn w' g a c xs (rtext xs at_ no k).2.1 (rtext xs at_ no k).2.2 ∧ (rtext xs at_ no k).2.1 ≤ xs.length ∧ Turns (fun x => x = g) w w' := by
  have hN := rnum_any h r0 b0 hg hat hl k hk
  have hbd := rnum_bd xs at_ no k
  have hps := fun q => rnum_pos (xs := xs) (at_ := at_) (no := no) (k := k) q
  unfold rtext
  obtain ⟨v, at1, no1, hE⟩ : ∃ v at1 no1, rnum xs at_ no k = (v, at1, no1) := ⟨_, _, _, rfl⟩
  rw [hE] at hN hbd hps ⊢
  have hlw := h.lt
  clear h hE
  simp only at hN hbd hps ⊢
  have HN := hid hN
  clear hN
  by_cases hbad : no1 = true ∨ xs.length < at1 + v
  · rw [if_pos hbad]
    rcases (by
      rcases hbad with h | h
      · exact .inl h
      · cases no1
        · exact .inr ⟨rfl, h⟩
        · exact .inl rfl : no1 = true ∨ (no1 = false ∧ xs.length < at1 + v)) with rfl | ⟨rfl, hlt⟩
    all_goals
      clear hbad
      go_enter Try.func26, Try.ntmps26
      go_wp2_with fail
      refine HN.out.mono ?_
      rintro e w1 ⟨rfl, h1, hat1, tn1⟩
      have b1 : Below W0.heap.size w w1 := tn1.below b0.size (fun k hk => by subst hk; exact hg)
      have TN1 := hid tn1
      clear tn1
      unfold RIn at h1
      have c0 := h1.cell (i := 0) (by simp)
      have c1 := h1.cell (i := 1) (by simp)
      have c2 := h1.cell (i := 2) (by simp)
      have f2 := h1.frozen 2
      simp only [List.getElem_cons_zero, List.getElem_cons_succ] at c0 c1 c2
      have H1 := hid h1; have B1 := hid b1
      clear h1 b1
      have d1 : IntKind.i64.wrap ((xs.length : Int) - (at1 : Int)) = (xs.length : Int) - (at1 : Int) := IntWalk.i64_in _ (by omega)
      try have d2 : decide ((xs.length : Int) - (at1 : Int) < (v : Int)) = true := decide_eq_true (by omega)
      go_wp2_with fail
      go_region
      all_goals
        go_wp2_with fail
        go_ret
        exact ⟨rfl, Blk.set (H1.out.mono (bel_drewN (Below.refl _ _) 1)) 2 (.bool true), hat1, (TN1.out.drewN 1).setCell (p := ⟨g, 2, none⟩) rfl _⟩
  · rw [if_neg hbad]
    obtain rfl : no1 = false := by
      cases no1
      · rfl
      · exact absurd (Or.inl rfl) hbad
    have hle : at1 + v ≤ xs.length := by omega
    clear hbad
    obtain ⟨ys, hys⟩ : ∃ ys, ys = (xs.drop at1).take v := ⟨_, rfl⟩
    rw [← hys]
    have HYS := hid hys
    clear hys
    go_enter Try.func26, Try.ntmps26
    go_wp2_with fail
    refine HN.out.mono ?_
    rintro e w1 ⟨rfl, h1, hat1, tn1⟩
    have b1 : Below W0.heap.size w w1 := tn1.below b0.size (fun k hk => by subst hk; exact hg)
    have TN1 := hid tn1
    clear tn1
    unfold RIn at h1
    have c0 := h1.cell (i := 0) (by simp)
    have c1 := h1.cell (i := 1) (by simp)
    have c2 := h1.cell (i := 2) (by simp)
    have f1 := h1.frozen 1
    simp only [List.getElem_cons_zero, List.getElem_cons_succ] at c0 c1 c2
    have H1 := hid h1; have B1 := hid b1
    clear h1 b1
    have d1 : IntKind.i64.wrap ((xs.length : Int) - (at1 : Int)) = (xs.length : Int) - (at1 : Int) := IntWalk.i64_in _ (by omega)
    have d2 : decide ((xs.length : Int) - (at1 : Int) < (v : Int)) = false := decide_eq_false (by omega)
    have hpos := hps trivial
    obtain ⟨b, off, rfl, hbw, _⟩ := r0.bytes hpos
    have hc1 := r0.2.1
    have hc2 := r0.2.2.1
    unfold maxLen at hc2
    clear hps
    have b01 : Below W0.heap.size W0 w1 := b0.trans B1.out
    obtain ⟨dp, hdp⟩ : ∃ dp, (if c = at1 then (some ⟨b, off, none⟩ : Option Addr) else some ⟨b, off + at1, none⟩) = dp := ⟨_, rfl⟩
    have e1 : IntKind.i64.wrap ((at1 : Int) + (v : Int)) = (at1 : Int) + (v : Int) := IntWalk.i64_in _ (by omega)
    have H6 := hid (Blk.set H1.out 1 (.int .i64 ((at1 : Int) + (v : Int))))
    have B6 : Below W0.heap.size w (w1.setCell ⟨g, 1, none⟩ (.int .i64 ((at1 : Int) + (v : Int)))) := below_setW B1.out hg 1 _
    have B06 : Below W0.heap.size W0 (w1.setCell ⟨g, 1, none⟩ (.int .i64 ((at1 : Int) + (v : Int)))) := below_setW b01 hg 1 _
    have R6 := row_part (r0.mono B06) at1 v (by omega) hdp
    have hcv := run_str (R6.1.mono ((Below.refl _ _).drew).drew)
    rw [R6.2, ← HYS.out] at hcv
    clear R6
    have TN6 := hid (TN1.out.setCell (p := ⟨g, 1, none⟩) rfl (.int .i64 ((at1 : Int) + (v : Int))))
    have HB6 := hid B6; have HB06 := hid B06
    clear B6 B06 b01
    go_wp2_with fail
    go_region
    all_goals
      go_wp2_with fail
    have y0 := H6.out.cell (i := 0) (by simp)
    have y1 := H6.out.cell (i := 1) (by simp)
    simp only [List.getElem_cons_zero, List.getElem_cons_succ, List.set_cons_zero, List.set_cons_succ] at y0 y1
    generalize w1.setCell ⟨g, 1, none⟩ (.int .i64 ((at1 : Int) + (v : Int))) = w6 at *
    have i0 : 0 ≤ (at1 : Int) + (v : Int) := by omega
    have i1 : (at1 : Int) ≤ (at1 : Int) + (v : Int) := by omega
    have i2 : ((at1 : Int) + (v : Int)).toNat = at1 + v := by omega
    have i3 : (at1 : Int) + (v : Int) ≤ (c : Int) := by omega
    have i4 : at1 + v - at1 = v := by omega
    go_region
    all_goals
      go_wp2_with fail
      go_ret
      refine ⟨rfl, ?_, hle, (TN6.out.drew).drew⟩
      unfold RIn
      rw [Int.natCast_add]
      exact H6.out.mono ((Below.refl _ _).drew).drew
end Go.Proofs.Ytanediaaidfcaaa
/- The coder: a check; numbers that are put. -/
namespace Go.Proofs.Ytanediaaidfcaaa
open Go.RowKit
set_option linter.unusedSimpArgs false
set_option linter.unusedVariables false

theorem check_any {w : World} {g : Nat} {x0 x1 x2 : Value} {wr : Bool} (h : Blk w g 52 [x0, x1, x2, .bool wr]) (ok : Bool) :
    Calls Try.prog 32 #[.pointer (some ⟨g, 0, none⟩), .bool ok] w fun e w' => e = .returned (.tuple #[]) ∧ w' = w.setCell ⟨g, 3, none⟩ (.bool (wr || !ok)) := by
  have c3 := h.cell (i := 3) (by simp)
  have f3 := h.frozen 3
  simp only [List.getElem_cons_zero, List.getElem_cons_succ] at c3
  cases wr <;> cases ok
  all_goals
    go_enter Try.func32, Try.ntmps32
    go_wp2_with fail
    go_end0
    exact ⟨rfl, rfl⟩

def numP (k : Nat) (m : WM) (v : Int) : WM := if m.no = true then m else ⟨putF m.b v k, !fitsB v k⟩
theorem numP_stop (k : Nat) (vs : List Int) (m : WM) (h : m.no = true) : vs.foldl (numP k) m = m := by
  induction vs with
  | nil => rfl
  | cons v vs ih => show vs.foldl (numP k) (numP k m v) = m; rw [show numP k m v = m from if_pos h]; exact ih
theorem putF_len (b : List UInt8) (v : Int) (k : Nat) : (putF b v k).length ≤ b.length + k := by
  unfold putF; split
  · simp [le_length]
  · omega
/-- the coder that puts -/
def CoP (w : World) (g B : Nat) (m : WM) : Prop := ∃ a c, Blk w g 52 [.bool true, .slice a m.b.length c, .int .i64 0, .bool m.no] ∧ OwnB w B a c m.b
theorem foldP_len (k : Nat) (vs : List Int) (m : WM) : (vs.foldl (numP k) m).b.length ≤ m.b.length + k * vs.length := by
  induction vs generalizing m with
  | nil => simp
  | cons v vs ih =>
    have h1 := ih (numP k m v)
    have h2 : (numP k m v).b.length ≤ m.b.length + k := by
      unfold numP; split
      · omega
      · exact putF_len _ _ _
    simp only [List.foldl_cons, List.length_cons, Nat.mul_add, Nat.mul_one] at *
    omega
theorem turns_setG {w : World} (g i : Nat) (v : Value) : Turns (fun k => k = g) w (w.setCell ⟨g, i, none⟩ v) := (Turns.refl (fun k => k = g) w).setCell (p := ⟨g, i, none⟩) rfl v

set_option maxHeartbeats 1000000 in
theorem numbersP_any {w : World} {g B : Nat} {m : WM} (h : CoP w g B m) (hBw : B ≤ w.heap.size) (k : Nat) (hk : k ≤ 8) (fa : Option Addr) (fc f : Nat) (os : List Nat) (vs : List Int) (hov : os.length = vs.length) (hfew : os.length ≤ 10) (hl : m.b.length ≤ 1000000) (hr : Row w 1 fa os.length fc (os.map fun o => .pointer (some ⟨f, o, none⟩)))
    (hfa : 0 < os.length → ∀ b, (∃ off, fa = some ⟨b, off, none⟩) → b ≠ g) (hf : f ≠ g) (hfl : f < w.heap.size) (hv : ∀ i, i < os.length → w.cell? ⟨f, os.getD i 0, none⟩ = some (.int .i64 (vs.getD i 0)) ∧ vs.getD i 0 ≤ 9223372036854775807) :
    Calls Try.prog 31 #[.pointer (some ⟨g, 0, none⟩), .int .i64 k, .slice fa os.length fc] w fun e w' => e = .returned (.tuple #[]) ∧ CoP w' g B (vs.foldl (numP k) m) ∧ Turns (fun x => x = g) w w' := by
  have HR := hid hr; have HFA := hid hfa; have HV := hid hv; have H := hid h; have HOV := hid hov
  clear hr hfa hv h hov
  obtain ⟨n, hn⟩ : ∃ n, n = os.length := ⟨_, rfl⟩
  rw [← hn] at hfew ⊢
  have HN := hid hn
  clear hn
  go_enter Try.func31, Try.ntmps31
  go_wp2_with fail
  go_loopw [11] (fun i wr => ∃ j : Nat, j ≤ n ∧ i = .int .i64 j ∧ CoP wr g B ((vs.take j).foldl (numP k) m) ∧ Turns (fun x => x = g) w wr) (fun i _ => n - (intOf i).toNat)
  case atStart => exact ⟨0, Nat.zero_le _, rfl, H.out, Turns.refl _ _⟩
  case round =>
    obtain ⟨j, hj, rfl, hm, ht⟩ := hrel
    by_cases hlt : j < n
    · have d0 : decide ((j : Int) < (n : Int)) = true := decide_eq_true (by omega)
      have hjo : j < os.length := by have := HN.out; omega
      have hjv : j < vs.length := by have := HOV.out; omega
      have hlen := foldP_len k (vs.take j) m
      have hlen2 : ((vs.take j).foldl (numP k) m).b.length ≤ 1000080 := by
        have : (vs.take j).length ≤ 10 := by rw [List.length_take]; omega
        have h8 : k * (vs.take j).length ≤ 80 := Nat.mul_le_mul hk this
        omega
      have hstep : (vs.take (j + 1)).foldl (numP k) m = numP k ((vs.take j).foldl (numP k) m) (vs.getD j 0) := by
        rw [List.take_add_one, List.foldl_append]
        simp [hjv]
      have hstop := numP_stop k (vs.drop j) ((vs.take j).foldl (numP k) m)
      have hall : vs.foldl (numP k) m = (vs.drop j).foldl (numP k) ((vs.take j).foldl (numP k) m) := by
        rw [← List.foldl_append, List.take_append_drop]
      obtain ⟨ra, roff, rfl, hrl, hrc⟩ := HR.out.at (by omega)
      have hrg := HFA.out (by omega) ra ⟨roff, rfl⟩
      have p0 : wr.cell? ⟨ra, roff + j, none⟩ = some (.pointer (some ⟨f, os.getD j 0, none⟩)) := (World.cell?_of_block (ht.block ra hrl hrg)).trans (hrc j _ (by simp [hjo]))
      have p1 : wr.cell? ⟨f, os.getD j 0, none⟩ = some (.int .i64 (vs.getD j 0)) := (World.cell?_of_block (ht.block f hfl hf)).trans (HV.out j hjo).1
      have hv9 := (HV.out j hjo).2
      generalize vs.getD j 0 = v at *
      generalize os.getD j 0 = o at *
      generalize (vs.take j).foldl (numP k) m = m1 at *
      have HST := hid hstep; have HSTOP := hid hstop; have HT := hid ht; have HALL := hid hall
      clear hstep hall hlen hstop ht hrc hjo hjv
      obtain ⟨a, c, hb, ho⟩ := hm
      have c0 := hb.cell (i := 0) (by simp)
      have c1 := hb.cell (i := 1) (by simp)
      have c3 := hb.cell (i := 3) (by simp)
      simp only [List.getElem_cons_zero, List.getElem_cons_succ] at c0 c1 c3
      by_cases hno : m1.no = true
      · have HM := hid (show CoP wr g B m1 from ⟨a, c, hb, ho⟩)
        have HNO := hid hno
        rw [hno] at c3
        clear hb ho hno
        go_wp2_with fail
        (try simp only [Exit.inBlock, Exit.then])
        refine bodyPost_ret (results_none rfl _ _ _) rfl ?_
        refine ⟨rfl, ?_, HT.out⟩
        rw [HALL.out, HSTOP.out HNO.out]; exact HM.out
      · have hno' : m1.no = false := by simpa using hno
        rw [hno'] at c3 hb
        have hE : numP k m1 v = ⟨putF m1.b v k, !fitsB v k⟩ := if_neg hno
        clear hno
        have hck := check_any hb (fitsB v k)
        rw [Bool.false_or] at hck
        have HCK := hid hck; have HB := hid hb; have HO := hid ho; have HE := hid hE
        have HF := hid (fits_any v k wr)
        clear hck hb ho hE hno'
        go_wp2_with fail
        refine HF.out.mono ?_
        rintro e w1 ⟨rfl, rfl⟩
        go_wp2_with fail
        refine HCK.out.mono ?_
        rintro e w1 ⟨rfl, hw1⟩
        have hb1 : Blk w1 g 52 [.bool true, .slice a m1.b.length c, .int .i64 0, .bool (!fitsB v k)] := by rw [hw1]; exact Blk.set HB.out 3 _
        have t1 : Turns (fun x => x = g) wr w1 := by rw [hw1]; exact turns_setG g 3 _
        have o1 : OwnB w1 B a c m1.b := by rw [hw1]; exact own_setW HO.out HB.out (by decide) 3 _
        have y1 := hb1.cell (i := 1) (by simp)
        simp only [List.getElem_cons_zero, List.getElem_cons_succ] at y1
        have y2 : w1.cell? ⟨f, o, none⟩ = some (.int .i64 v) := (World.cell?_of_block (t1.block f (Nat.lt_of_lt_of_le hfl HT.out.size) hf)).trans p1
        have HP := hid (fun X (b : Below w1.heap.size w1 X) => put_any a c m1.b v k X (o1.row.mono b) (by omega) hv9)
        have HB1 := hid hb1; have T1 := hid (HT.out.trans t1)
        have hBs : B ≤ w1.heap.size := by have := HT.out.size; have := t1.size; omega
        clear hw1 hb1 t1 o1 c0 c1 c3 p0 p1
        go_wp2_with fail
        go_region_with (go_at_call 21; refine (HP.out _ (bel_drewN (Below.refl _ _) 1)).mono ?_; rintro e w2 ⟨a2, c2, rfl, o2, b2⟩; have O2 := hid o2; have B2 := hid (kept_trans (bel_drewN (Below.refl _ _) 1) b2); have HB2 := hid (HB1.out.mono (kept_trans (bel_drewN (Below.refl _ _) 1) b2)); have z1 := HB2.out.cell (i := 1) (by simp); have z2 := HB2.out.frozen 1; simp only [List.getElem_cons_zero, List.getElem_cons_succ] at z1; clear o2 b2)
        all_goals
          go_wp2_with fail
          go_roundw
          case rel =>
            refine ⟨j + 1, by omega, by go_num, ?_, T1.out.trans ((Turns.of_below B2.out).trans (turns_setG g 1 _))⟩
            rw [HST.out, HE.out]
            exact ⟨a2, c2, Blk.set HB2.out 1 (.slice a2 (putF m1.b v k).length c2), Own.low (own_setW O2.out HB2.out (by decide) 1 _) hBs⟩
          case measure => simp [intOf]; omega
    · have hje : j = n := by omega
      have d0 : decide ((j : Int) < (n : Int)) = false := decide_eq_false (by omega)
      have HM := hid hm; have HT := hid ht
      clear hm ht
      go_wp2_with fail
      go_end0
      refine ⟨rfl, ?_, HT.out⟩
      have := HM.out
      rw [List.take_of_length_le (by have := HN.out; have := HOV.out; omega)] at this
      exact this
end Go.Proofs.Ytanediaaidfcaaa
/- The coder: numbers that are read. -/
namespace Go.Proofs.Ytanediaaidfcaaa
open Go.RowKit
set_option linter.unusedSimpArgs false
set_option linter.unusedVariables false

/-- a place, has something failed, a block's cells -/
structure GM where
  at_ : Nat
  no : Bool
  L : List Value
def gStep (xs : List UInt8) (k : Nat) (s : GM) (o : Nat) : GM := if s.no = true then s else ⟨s.at_ + k, !(getF xs s.at_ k).isSome, s.L.set o (.int .i64 (((getF xs s.at_ k).getD 0 : Nat) : Int))⟩
theorem gStep_stop (xs : List UInt8) (k : Nat) (os : List Nat) (s : GM) (h : s.no = true) : os.foldl (gStep xs k) s = s := by
  induction os with
  | nil => rfl
  | cons v vs ih => show vs.foldl (gStep xs k) (gStep xs k s v) = s; rw [show gStep xs k s v = s from if_pos h]; exact ih
def CoG (w : World) (g : Nat) (a : Option Addr) (c : Nat) (xs : List UInt8) (at_ : Nat) (no : Bool) : Prop := Blk w g 52 [.bool false, .slice a xs.length c, .int .i64 (at_ : Int), .bool no]
/-- a place that may be -/
def atOk (xs : List UInt8) (at_ : Nat) (no : Bool) : Prop := at_ ≤ xs.length + 8 ∧ (no = false → at_ ≤ xs.length)
theorem gStep_at {xs : List UInt8} {k : Nat} {s : GM} {o : Nat} (hk : k ≤ 8) (h : atOk xs s.at_ s.no) : atOk xs (gStep xs k s o).at_ (gStep xs k s o).no := by
  unfold gStep
  by_cases hn : s.no = true
  · rw [if_pos hn]; exact h
  · rw [if_neg hn]
    have h2 := h.2 (by simpa using hn)
    refine ⟨by show s.at_ + k ≤ _; omega, fun q => ?_⟩
    show s.at_ + k ≤ _
    cases hv : getF xs s.at_ k with
    | none => simp [hv] at q
    | some v =>
      unfold getF at hv
      split at hv
      · next h1 => omega
      · cases hv
theorem gStep_len (xs : List UInt8) (k : Nat) (s : GM) (o : Nat) : (gStep xs k s o).L.length = s.L.length := by
  unfold gStep; split
  · rfl
  · simp
theorem gStep_bd {xs : List UInt8} {at_ k : Nat} : (((getF xs at_ k).getD 0 : Nat) : Int) ≤ 9223372036854775807 := by
  cases hv : getF xs at_ k with
  | none => simp
  | some v =>
    unfold getF at hv
    split at hv
    · split at hv
      · next h2 =>
        cases hv
        rw [Option.getD_some]
        exact Int.ofNat_le.2 h2
      · cases hv
    · cases hv

set_option maxHeartbeats 1000000 in
theorem numbersG_any {W0 w : World} {g : Nat} {a : Option Addr} {c : Nat} {xs : List UInt8} {s : GM} (h : CoG w g a c xs s.at_ s.no) (r0 : RowB W0 a c xs) (b0 : Below W0.heap.size W0 w) (hg : W0.heap.size ≤ g) (hat : atOk xs s.at_ s.no) (hl : xs.length ≤ 1000000) (k : Nat) (hk : k ≤ 8)
    (fa : Option Addr) (fc f : Nat) (Tf : TypeId) (os : List Nat) (hfew : os.length ≤ 10) (hr : Row w 1 fa os.length fc (os.map fun o => .pointer (some ⟨f, o, none⟩)))
    (hfa : 0 < os.length → ∀ b, (∃ off, fa = some ⟨b, off, none⟩) → b ≠ g ∧ b ≠ f) (hfg : f ≠ g) (hf0 : W0.heap.size ≤ f) (hf : Blk w f Tf s.L) (ho : ∀ i, i < os.length → os.getD i 0 < s.L.length) :
    Calls Try.prog 31 #[.pointer (some ⟨g, 0, none⟩), .int .i64 k, .slice fa os.length fc] w fun e w' => e = .returned (.tuple #[]) ∧ CoG w' g a c xs (os.foldl (gStep xs k) s).at_ (os.foldl (gStep xs k) s).no ∧ atOk xs (os.foldl (gStep xs k) s).at_ (os.foldl (gStep xs k) s).no ∧ Blk w' f Tf (os.foldl (gStep xs k) s).L ∧ (os.foldl (gStep xs k) s).L.length = s.L.length ∧ Turns (fun x => x = g ∨ x = f) w w' := by
  have HR := hid hr; have HFA := hid hfa; have HO := hid ho; have H := hid h; have HF := hid hf; have R0 := hid r0; have B0 := hid b0; have HAT := hid hat
  have hgl : g < w.heap.size := h.lt
  clear hr hfa ho h hf r0 b0 hat
  obtain ⟨n, hn⟩ : ∃ n, n = os.length := ⟨_, rfl⟩
  rw [← hn] at hfew ⊢
  have HN := hid hn
  clear hn
  go_enter Try.func31, Try.ntmps31
  go_wp2_with fail
  go_loopw [11] (fun i wr => ∃ (j : Nat) (t : GM), j ≤ n ∧ i = .int .i64 j ∧ t = (os.take j).foldl (gStep xs k) s ∧ CoG wr g a c xs t.at_ t.no ∧ atOk xs t.at_ t.no ∧ Blk wr f Tf t.L ∧ t.L.length = s.L.length ∧ Turns (fun x => x = g ∨ x = f) w wr) (fun i _ => n - (intOf i).toNat)
  case atStart => exact ⟨0, s, Nat.zero_le _, rfl, rfl, H.out, HAT.out, HF.out, rfl, Turns.refl _ _⟩
  case round =>
    obtain ⟨j, t, hj, rfl, hts, hm, hta, hbf, htl, ht⟩ := hrel
    by_cases hlt : j < n
    · have d0 : decide ((j : Int) < (n : Int)) = true := decide_eq_true (by omega)
      have hjo : j < os.length := by have := HN.out; omega
      have hstep : (os.take (j + 1)).foldl (gStep xs k) s = gStep xs k t (os.getD j 0) := by
        rw [List.take_add_one, List.foldl_append, hts]
        simp [hjo]
      have hall : os.foldl (gStep xs k) s = (os.drop j).foldl (gStep xs k) t := by
        rw [hts, ← List.foldl_append, List.take_append_drop]
      have hstop := gStep_stop xs k (os.drop j) t
      have hsa := gStep_at (o := os.getD j 0) hk hta
      have hsl := gStep_len xs k t (os.getD j 0)
      obtain ⟨ra, roff, rfl, hrl, hrc⟩ := HR.out.at (by omega)
      obtain ⟨hrg, hrf⟩ := HFA.out (by omega) ra ⟨roff, rfl⟩
      have p0 : wr.cell? ⟨ra, roff + j, none⟩ = some (.pointer (some ⟨f, os.getD j 0, none⟩)) := (World.cell?_of_block (ht.block ra hrl (fun q => q.elim hrg hrf))).trans (hrc j _ (by simp [hjo]))
      have hoj := HO.out j hjo
      generalize os.getD j 0 = o at *
      have HST := hid hstep; have HSTOP := hid hstop; have HT := hid ht; have HALL := hid hall; have HSA := hid hsa; have HSL := hid hsl; have HTA := hid hta; have HTL := hid htl
      clear hstep hall hstop ht hrc hjo hts hsa hsl hta htl
      unfold CoG at hm
      have c0 := hm.cell (i := 0) (by simp)
      have c1 := hm.cell (i := 1) (by simp)
      have c2 := hm.cell (i := 2) (by simp)
      have c3 := hm.cell (i := 3) (by simp)
      simp only [List.getElem_cons_zero, List.getElem_cons_succ] at c0 c1 c2 c3
      by_cases hno : t.no = true
      · have HM := hid (show CoG wr g a c xs t.at_ t.no from hm)
        have HNO := hid hno; have HBF := hid hbf
        rw [hno] at c3
        clear hm hno hbf
        go_wp2_with fail
        (try simp only [Exit.inBlock, Exit.then])
        refine bodyPost_ret (results_none rfl _ _ _) rfl ?_
        rw [HALL.out, HSTOP.out HNO.out]
        exact ⟨rfl, HM.out, HTA.out, HBF.out, HTL.out, HT.out⟩
      · have hno' : t.no = false := by simpa using hno
        rw [hno'] at c3 hm
        have hE : gStep xs k t o = ⟨t.at_ + k, !(getF xs t.at_ k).isSome, t.L.set o (.int .i64 (((getF xs t.at_ k).getD 0 : Nat) : Int))⟩ := if_neg hno
        have hat2 := HTA.out.2 hno'
        clear hno
        have hr9 : Below W0.heap.size W0 wr := B0.out.trans (HT.out.below (Nat.le_trans (Nat.le_refl _) B0.out.size) (fun x hx => by rcases hx with e | e <;> rw [e] <;> assumption))
        have hG := fun X (b : Below wr.heap.size wr X) => get_any a c xs t.at_ k X ((R0.out.mono hr9).mono b) (by omega)
        unfold getV at hG
        have hv9 := gStep_bd (xs := xs) (at_ := t.at_) (k := k)
        generalize (getF xs t.at_ k).isSome = ok at *
        generalize (getF xs t.at_ k).getD 0 = v at *
        obtain ⟨old, p1⟩ := Blk.someCell hbf (i := o) (by have := HTL.out; omega)
        have p2 := Blk.frozen hbf o
        have HG := hid hG; have HB := hid hm; have HE := hid hE; have HBF := hid hbf
        generalize t.at_ = q at *
        clear hG hm hE hno' hbf
        go_wp2_with fail
        go_region_with (go_at_call 24; refine (HG.out _ (bel_drewN (Below.refl _ _) 1)).mono ?_; rintro e w2 ⟨rfl, rfl⟩)
        all_goals
          go_wp2_with fail
          have hwd : Below wr.heap.size wr (wr.drewN 1) := bel_drewN (Below.refl _ _) 1
          have tf : Turns (fun x => x = f) (wr.drewN 1) ((wr.drewN 1).setCell ⟨f, o, none⟩ (.int .i64 (v : Int))) := turns_setG f o _
          have hb2 := tf.blk (HB.out.mono hwd) (fun q => hfg q.symm)
          have hf2 : Blk ((wr.drewN 1).setCell ⟨f, o, none⟩ (.int .i64 (v : Int))) f Tf (t.L.set o (.int .i64 (v : Int))) := Blk.set (HBF.out.mono hwd) o _
          refine (check_any hb2 ok).mono ?_
          rintro e w3 ⟨rfl, hw3⟩
          rw [Bool.false_or] at hw3
          have hb3 : Blk w3 g 52 [.bool false, .slice a xs.length c, .int .i64 (q : Int), .bool (!ok)] := by rw [hw3]; exact Blk.set hb2 3 _
          have t3 : Turns (fun x => x = g) ((wr.drewN 1).setCell ⟨f, o, none⟩ (.int .i64 (v : Int))) w3 := by rw [hw3]; exact turns_setG g 3 _
          have HF3 := hid (t3.blk hf2 hfg)
          have T3 := hid ((HT.out.trans ((Turns.of_below hwd).trans (tf.mono (fun _ q => .inr q)))).trans (t3.mono (fun _ q => .inl q)))
          have y2 := hb3.cell (i := 2) (by simp)
          have z2 := hb3.frozen 2
          simp only [List.getElem_cons_zero, List.getElem_cons_succ] at y2
          have HB3 := hid hb3
          clear hwd tf hb2 hf2 hw3 hb3 t3 c0 c1 c2 c3 p0 p1 p2
          go_wp2_with fail
          go_roundw
          case rel =>
            refine ⟨j + 1, gStep xs k t o, by omega, by go_num, HST.out.symm, ?_, HSA.out, ?_, HSL.out.trans HTL.out, T3.out.trans ((turns_setG g 2 _).mono (fun _ q => .inl q))⟩
            · rw [HE.out]
              show Blk _ g _ [.bool false, .slice a xs.length c, .int .i64 ((q + k : Nat) : Int), .bool (!ok)]
              rw [Int.natCast_add]
              exact Blk.set HB3.out 2 (.int .i64 ((q : Int) + (k : Int)))
            · rw [HE.out]
              exact (turns_setG g 2 _).blk HF3.out hfg
          case measure => simp [intOf]; omega
    · have hje : j = n := by omega
      have d0 : decide ((j : Int) < (n : Int)) = false := decide_eq_false (by omega)
      have HM := hid hm; have HT := hid ht; have HTS := hid hts; have HBF := hid hbf; have HTA := hid hta; have HTL := hid htl
      clear hm ht hts hbf hta htl
      go_wp2_with fail
      go_end0
      have e := HTS.out
      rw [List.take_of_length_le (by have := HN.out; omega)] at e
      rw [← e]
      exact ⟨rfl, HM.out, HTA.out, HBF.out, HTL.out, HT.out⟩
end Go.Proofs.Ytanediaaidfcaaa
/- The coder: a text that is put. -/
namespace Go.Proofs.Ytanediaaidfcaaa
open Go.RowKit
set_option linter.unusedSimpArgs false
set_option linter.unusedVariables false

theorem Turns.of_belowW {B : Nat} {X Y : World} (h : Below B X Y) : Turns (fun k => B ≤ k) X Y := ⟨h.os, h.tape, h.output, h.size, fun k _ hn => h.block k (by omega)⟩
def textP (k most : Nat) (m : WM) (s : List UInt8) : WM := if (numP k m s.length).no = true ∨ most < s.length then ⟨(numP k m s.length).b, true⟩ else ⟨(numP k m s.length).b ++ s, false⟩

/-- 'append(s, text...)' as one step of a region that draws its order -/
theorem step_append_str {P : Program} {ops : Array Oper} {o : Oper} {act : Act} {w : World} {K : Act → World → Prop} {Q : Exit → Act → World → Prop} {E : Prop} (hgd : o.guard = none) (s x : Operand) {t u e : TypeId}
    (ho : o.op = .call { callee := .builtin .append, args := #[s, x], argTypes := #[t, u] }) (under : P.underlying t = some (.slice e)) (hu : P.underlying u = some .string) (hinfo : (P.info? e).map (fun i => (i.zero, i.size, i.bytes)) = some (some (.int .u8 0), 1, 1)) (B : Nat)
    {a1 : Option Addr} {n c : Nat} {st : ByteArray} {cs : List Value} (hs : act.eval s = .slice a1 n c) (hx : act.eval x = .string st)
    (hown : Own w B e 1 a1 n c cs) (hbytes : n + st.size ≤ 140737488355328) (hbase : B ≤ w.heap.size)
    (h : ∀ a' c' w', Own w' B e 1 a' (n + st.size) c' (cs ++ st.data.toList.map byteV) → w.grownBy w' (Value.slice a1 n c).ownBlock → Below B w w' → K (act.put o.dst (.slice a' (n + st.size) c')) w') :
    if Region.wanted o (yielded ops act.tmps) = true then Oper.wp P o act w K Q else E := by
  have hw : Region.wanted o (yielded ops act.tmps) = true := by simp [Region.wanted, hgd]
  rw [if_pos hw]
  obtain ⟨i, hi, hz, hsz, hby⟩ := info_parts hinfo
  have hlt : ∀ k, (Value.slice a1 n c).ownBlock = some k → B ≤ k := fun k hk => (World.ownsRow.lt hown k hk).1
  obtain ⟨v', w', hr, h2, h3, _⟩ := Lib.run_append_own_string (P := P) w B t u o.type e i under hu hi hz hsz hby (.slice a1 n c) n cs hown st (by unfold maxLen; omega) hbytes hbase
  obtain ⟨a', c', rfl, h5⟩ := ownsRow_own h2
  unfold Oper.wp
  simp [execOp, ho, resolve, invoke, builtin, hs, hx, hr, Result.andThen]
  exact h a' c' w' h5 h3 ((Below.refl B w).grown h3 hbase (fun k hk => hlt k hk))

set_option maxHeartbeats 400000 in
theorem textP_any {w : World} {g B : Nat} {m : WM} (h : CoP w g B m) (hBw : B ≤ w.heap.size) (k most : Nat) (hk : k ≤ 8) (hm9 : most ≤ 1000) (f o : Nat) (s : List UInt8) (hs : s.length ≤ 10000) (hl : m.b.length ≤ 900000) (hf : f ≠ g) (hc : w.cell? ⟨f, o, none⟩ = some (strV s)) (hfB : f < B) :
    Calls Try.prog 59 #[.pointer (some ⟨g, 0, none⟩), .int .i64 k, .int .i64 most, .pointer (some ⟨f, o, none⟩)] w fun e w' => e = .returned (.tuple #[]) ∧ CoP w' g B (textP k most m s) ∧ Turns (fun x => x = g ∨ B ≤ x) w w' := by
  have hsz := strV_size s
  unfold strV at hc
  have hgl : g < w.heap.size := by obtain ⟨_, _, hb, _⟩ := h; exact hb.lt
  obtain ⟨st, hst⟩ : ∃ st : ByteArray, st = ⟨s.toArray⟩ := ⟨_, rfl⟩
  have hsl : st.data.toList = s := by rw [hst]
  rw [← hst] at hsz hc
  have hs1 : st.size ≤ 10000 := by omega
  have H := hid h; have HSZ := hid hsz; have HSL := hid hsl
  clear h hst hsz hsl
  obtain ⟨w1, hw1⟩ : ∃ w1, w1 = (w.alloc (Obj.cells #[Value.int IntKind.i64 (st.size : Int)] 3)).alloc (Obj.cells #[Value.pointer (some { block := w.heap.size, off := 0 })] 71) := ⟨_, rfl⟩
  have b1 : Below w.heap.size w w1 := by rw [hw1]; exact kept_alloc (albO w _) _
  have s1 : w1.heap.size = w.heap.size + 2 := by rw [hw1]; simp
  have kn : Blk w1 w.heap.size 3 [.int .i64 (st.size : Int)] := by
    rw [hw1]; exact (blk_newO rfl _ _ : Blk (w.alloc (Obj.cells #[Value.int IntKind.i64 (st.size : Int)] 3)) w.heap.size 3 [.int .i64 (st.size : Int)]).mono (albO _ _)
  have ka : Blk w1 (w.heap.size + 1) 71 [.pointer (some ⟨w.heap.size, 0, none⟩)] := by
    rw [hw1]
    have : Blk ((w.alloc (Obj.cells #[Value.int IntKind.i64 (st.size : Int)] 3)).alloc (Obj.cells #[Value.pointer (some { block := w.heap.size, off := 0 })] 71)) (w.alloc (Obj.cells #[Value.int IntKind.i64 (st.size : Int)] 3)).heap.size 71 [.pointer (some ⟨w.heap.size, 0, none⟩)] := blk_newO rfl _ _
    simpa using this
  have c1 : w1.cell? ⟨f, o, none⟩ = some (.string st) := (World.cell?_of_block (b1.block f (by omega))).trans hc
  have h1 : CoP w1 g B m := by
    obtain ⟨a, c, hb, ho⟩ := H.out
    exact ⟨a, c, hb.mono b1, ho.mono b1⟩
  have HN := hid (numbersP_any h1 (by omega) k hk (some ⟨w.heap.size + 1, 0, none⟩) 1 w.heap.size [0] [(st.size : Int)] rfl (by decide) (by omega) (row_blkO ka 1 1 rfl (by omega))
    (fun _ b hb => by obtain ⟨off, e⟩ := hb; cases e; omega) (by omega) (by omega) (fun i hi => by
      obtain rfl : i = 0 := by simp at hi; omega
      exact ⟨kn.cell (i := 0) (by simp), by show (st.size : Int) ≤ _; omega⟩))
  have hm1l := foldP_len k [(st.size : Int)] m
  have hfold : [(st.size : Int)].foldl (numP k) m = numP k m st.size := rfl
  have hE : textP k most m s = if (numP k m st.size).no = true ∨ most < s.length then ⟨(numP k m st.size).b, true⟩ else ⟨(numP k m st.size).b ++ s, false⟩ := by unfold textP; rw [← HSZ.out]
  rw [hE]
  rw [hfold] at HN hm1l
  generalize numP k m st.size = m1 at *
  have hm1 : m1.b.length ≤ 1000000 := by simp at hm1l; omega
  have HW1 := hid hw1; have B1 := hid b1; have KN := hid kn; have C1 := hid c1
  have hBw1 : B ≤ w1.heap.size := by omega
  clear hm1l hfold hE hw1 b1 kn ka h1 c1
  by_cases hbad : m1.no = true ∨ most < s.length
  · rw [if_pos hbad]
    obtain ⟨okb, hok⟩ : ∃ okb, decide (st.size ≤ most) = okb := ⟨_, rfl⟩
    have hor : (m1.no || !okb) = true := by
      rcases hbad with h | h
      · rw [h]; rfl
      · rw [← hok, decide_eq_false (by have := HSZ.out; omega)]; simp
    have HOR := hid hor
    clear hbad hor
    go_enter Try.func59, Try.ntmps59
    go_wp2_with fail
    rw [← HW1.out]
    refine HN.out.mono ?_
    rintro e w2 ⟨rfl, ⟨a2, c2, hb2, ho2⟩, t2⟩
    have n2 : w2.cell? ⟨w.heap.size, 0, none⟩ = some (.int .i64 (st.size : Int)) := (t2.blk KN.out (by omega)).cell (i := 0) (by simp)
    have HB2 := hid hb2; have HO2 := hid ho2; have T2 := hid t2
    clear hb2 ho2 t2
    go_wp2_with fail
    refine (check_any HB2.out okb).mono ?_
    rintro e w3 ⟨rfl, hw3⟩
    rw [HOR.out] at hw3
    have hb3 : Blk w3 g 52 [.bool true, .slice a2 m1.b.length c2, .int .i64 0, .bool true] := by rw [hw3]; exact Blk.set HB2.out 3 _
    have t3 : Turns (fun x => x = g) w2 w3 := by rw [hw3]; exact turns_setG g 3 _
    have o3 : OwnB w3 B a2 c2 m1.b := by rw [hw3]; exact own_setW HO2.out HB2.out (by decide) 3 _
    have x3 := hb3.cell (i := 3) (by simp)
    simp only [List.getElem_cons_zero, List.getElem_cons_succ] at x3
    have T3 := hid (T2.out.trans t3); have HB3 := hid hb3; have O3 := hid o3
    clear hb3 t3 o3 hw3 n2
    go_wp2_with fail
    go_end0
    exact ⟨rfl, ⟨a2, c2, HB3.out, O3.out⟩, (Turns.of_below B1.out).trans (T3.out.mono (fun _ q => .inl q))⟩
  · rw [if_neg hbad]
    have hno : m1.no = false := by
      cases h : m1.no
      · rfl
      · exact absurd (Or.inl h) hbad
    have hle : decide (st.size ≤ most) = true := decide_eq_true (by have := HSZ.out; omega)
    clear hbad
    go_enter Try.func59, Try.ntmps59
    go_wp2_with fail
    rw [← HW1.out]
    refine HN.out.mono ?_
    rintro e w2 ⟨rfl, ⟨a2, c2, hb2, ho2⟩, t2⟩
    rw [hno] at hb2
    have n2 : w2.cell? ⟨w.heap.size, 0, none⟩ = some (.int .i64 (st.size : Int)) := (t2.blk KN.out (by omega)).cell (i := 0) (by simp)
    have f2 : w2.cell? ⟨f, o, none⟩ = some (.string st) := (World.cell?_of_block (t2.block f (by have := B1.out.size; omega) hf)).trans C1.out
    have HB2 := hid hb2; have HO2 := hid ho2; have T2 := hid t2
    have hs2 := t2.size
    clear hb2 ho2 t2
    go_wp2_with fail
    refine (check_any HB2.out true).mono ?_
    rintro e w3 ⟨rfl, hw3⟩
    have hb3 : Blk w3 g 52 [.bool true, .slice a2 m1.b.length c2, .int .i64 0, .bool false] := by rw [hw3]; exact Blk.set HB2.out 3 _
    have t3 : Turns (fun x => x = g) w2 w3 := by rw [hw3]; exact turns_setG g 3 _
    have o3 : OwnB w3 B a2 c2 m1.b := by rw [hw3]; exact own_setW HO2.out HB2.out (by decide) 3 _
    have x0 := hb3.cell (i := 0) (by simp)
    have x1 := hb3.cell (i := 1) (by simp)
    have x3 := hb3.cell (i := 3) (by simp)
    simp only [List.getElem_cons_zero, List.getElem_cons_succ] at x0 x1 x3
    have f3 : w3.cell? ⟨f, o, none⟩ = some (.string st) := (World.cell?_of_block (t3.block f (by omega) hf)).trans f2
    have T3 := hid (T2.out.trans t3); have HB3 := hid hb3
    have o3' := Own.mono o3 (bel_drewN (Below.refl w3.heap.size w3) 1)
    have O3 := hid o3'
    have hB3 : B ≤ (w3.drewN 1).heap.size := by have := t3.size; show B ≤ w3.heap.size; omega
    clear hb3 t3 o3 o3' hw3 n2 f2
    have tt : True := trivial
    go_wp2_with fail
    go_region_law (refine step_append_str (st := st) rfl (.tmp 62) (.tmp 65) rfl Try.underlying37 Try.underlying9 info8 B (by simp [Act.eval, Act.put]) (by simp [Act.eval, Act.put]) O3.out (by omega) hB3 ?_; intro a4 c4 w4 o4 g4 b4; have hb4 := blk_keepsW O3.out (HB3.out.mono (bel_drewN (Below.refl w3.heap.size w3) 1)) g4 (by decide); have z1 := hb4.cell (i := 1) (by simp); have z2 := hb4.frozen 1; simp only [List.getElem_cons_zero, List.getElem_cons_succ] at z1; have HB4 := hid hb4; have O4 := hid o4; have B4 := hid b4; clear o4 g4 b4 hb4)
    all_goals
      go_wp2_with fail
      go_end0
      have hn : m1.b.length + st.size = (m1.b ++ s).length := by rw [HSZ.out]; simp
      have o5 := O4.out
      rw [HSL.out, ← List.map_append] at o5
      have o6 : OwnB w4 B a4 c4 (m1.b ++ s) := by rw [hn] at o5; exact o5
      refine ⟨rfl, ⟨a4, c4, ?_, own_setW o6 HB4.out (by decide) 1 _⟩, ?_⟩
      · show Blk _ g _ [.bool true, .slice a4 (m1.b ++ s).length c4, .int .i64 0, .bool false]
        rw [← hn]
        exact Blk.set HB4.out 1 (.slice a4 (m1.b.length + st.size) c4)
      · exact ((((Turns.of_below B1.out).trans (T3.out.mono (fun _ q => .inl q))).trans (Turns.of_below (bel_drewN (Below.refl _ _) 1))).trans ((Turns.of_belowW B4.out).mono (fun _ q => .inr q))).trans ((turns_setG g 1 _).mono (fun _ q => .inl q))
end Go.Proofs.Ytanediaaidfcaaa
