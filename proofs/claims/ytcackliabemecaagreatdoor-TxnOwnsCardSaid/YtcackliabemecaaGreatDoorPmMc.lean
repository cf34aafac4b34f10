/- Merged: PmJ PmK PmL. -/
import Derived.Test.YtcackliabemecaaGreatDoorPmI
import Derived.Shelf.Abstract
/- Bytes stored into a memory. -/
namespace Go.Proofs.YtcackliabemecaaGreatDoor
open Go.RowKit Go.Shelf
set_option linter.unusedSimpArgs false
set_option linter.unusedVariables false
set_option maxRecDepth 100000
attribute [local go_sem] Oper.semAt_some

/-! ### cells struck off a set, one after the other -/
def setL (b : Bool) (A : List Bool) (pre : List Nat) : List Bool := pre.foldl (fun A k => A.set k b) A
theorem setL_snoc (b : Bool) (A : List Bool) (pre : List Nat) (x : Nat) : setL b A (pre ++ [x]) = (setL b A pre).set x b := by simp [setL, List.foldl_append]
theorem setL_len (b : Bool) : ∀ (pre : List Nat) (A : List Bool), (setL b A pre).length = A.length
  | [], _ => rfl
  | x :: r, A => by
    show (setL b (A.set x b) r).length = _
    rw [setL_len b r, List.length_set]
theorem setL_get (b : Bool) : ∀ (pre : List Nat) (A : List Bool) (k : Nat), k < A.length → (setL b A pre).getD k false = if k ∈ pre then b else A.getD k false
  | [], A, k, _ => by simp [setL]
  | x :: r, A, k, hk => by
    show (setL b (A.set x b) r).getD k false = _
    rw [setL_get b r _ k (by simpa using hk)]
    by_cases h : k ∈ r
    · simp [h]
    · rw [if_neg h]
      by_cases e : k = x
      · subst e; simp [hk]
      · rw [if_neg (by simp [e, h])]
        simp only [List.getD_eq_getElem?_getD, List.getElem?_set]
        rw [if_neg (fun q => e q.symm)]

theorem Turns.of_belowB {B : Nat} {X Y : World} (h : Below B X Y) : Turns (fun k => B ≤ k) X Y := ⟨h.os, h.tape, h.output, h.size, fun k _ hn => h.block k (by omega)⟩
theorem MemP.up {B : Nat} {X Y : World} {g v d p : Nat} {M : MemM} (h : MemP X g v d p M) (b : Below B X Y) (hg : g < B) (hv : v < B) (hd : d < B) (hp : p < B) : MemP Y g v d p M := h.turns (Turns.of_belowB b) (by omega) (by omega) (by omega) (by omega)
theorem Turns.up {Z : Nat → Prop} {B : Nat} {w X Y : World} (h : Turns Z w X) (b : Below B X Y) (hB : w.heap.size ≤ B) : Turns Z w Y := h.trans' (Turns.of_belowB b) (fun k hk q => by omega)

theorem MemP.setA {W W5 : World} {g v d p : Nat} {V D : List UInt8} {A A' : List Bool} (h : MemP W g v d p ⟨V, D, A⟩) (q : PendP W5 p A') (hl : A'.length = A.length) (t : Turns (fun k => k = p) W W5) : MemP W5 g v d p ⟨V, D, A'⟩ := by
  obtain ⟨_, h1, h2, h3, h4, h5, h6, h7, h8, h9⟩ := mem_apart h
  obtain ⟨⟨l1, l2, l3, l4, l5⟩, hne, hg, hv, hd, hp⟩ := h
  exact ⟨⟨l1, by show A'.length * 8 = V.length; rw [hl]; exact l2, l3, l4, l5⟩, hne, t.blk hg (fun e => h3 e.symm), t.blk hv (fun e => h4 e.symm), t.blk hd (fun e => h5 e.symm), q⟩
theorem info8M : (Tryz.prog.info? 5).map (·.size) = some 1 := by kernel_rfl
/-- what Store does -/
def StoreP (g v d p : Nat) (M : MemM) (at_ : Int) (b : List UInt8) (w : World) (e : Ending) (w' : World) : Prop :=
  if inM M at_ b.length = true then e = .returned (.int .i64 0) ∧ MemP w' g v d p (storeM M at_.toNat b) ∧ Turns (fun k => k = v ∨ k = p) w w' else e = .returned (.int .i64 1) ∧ Below w.heap.size w w'

set_option maxHeartbeats 4000000 in
set_option maxRecDepth 100000 in
theorem store_any {w : World} {g v d p : Nat} {M : MemM} (h : MemP w g v d p M) (at_ : Int) (ha : -9223372036854775808 ≤ at_ ∧ at_ ≤ 9223372036854775807) (a : Option Addr) (c : Nat) (b : List UInt8) (hr : RowB w a c b) :
    Calls Tryz.prog 25 #[.pointer (some ⟨g, 0, none⟩), .int .i64 at_, .slice a b.length c] w (StoreP g v d p M at_ b w) := by
  have hbl := rowB_len hr
  have hd : Fence.wide.depth = none := rfl
  obtain ⟨w1, hw1⟩ : ∃ w1, w1 = w.alloc (.cells #[.pointer (some ⟨g, 0, none⟩)] 34) := ⟨_, rfl⟩
  have b1 : Below w.heap.size w w1 := by rw [hw1]; exact albO w _
  have k1 : Blk w1 w.heap.size 34 [.pointer (some ⟨g, 0, none⟩)] := by rw [hw1]; exact blk_newO rfl _ _
  have s1 : w1.heap.size = w.heap.size + 1 := by rw [hw1]; simp
  have m1 := h.mono b1
  have c1 : w1.cell? ⟨w.heap.size, 0, none⟩ = some (.pointer (some ⟨g, 0, none⟩)) := k1.cell (i := 0) (by simp)
  obtain ⟨d0, d1, d2⟩ := m1.cells
  have HW := within_any m1 at_ b.length ha (by omega)
  by_cases hi : inM M at_ b.length = true
  · have hE : StoreP g v d p M at_ b w = fun e w' => e = .returned (.int .i64 0) ∧ MemP w' g v d p (storeM M at_.toNat b) ∧ Turns (fun k => k = v ∨ k = p) w w' := by
      funext e w'; unfold StoreP; rw [if_pos hi]
    rw [hE]
    rw [hi] at HW
    clear hE
    obtain ⟨a0, n0, rfl, hn0, hl⟩ := inM_true hi
    obtain rfl : b.length = n0 := by omega
    rw [show ((a0 : Int)).toNat = a0 from rfl]
    obtain ⟨av, ag1, ag2, ap1, ap2, ap3, gl, vl, dl, pl⟩ := mem_apart h
    obtain ⟨hok, _, q3, q4, q5, q6⟩ := m1
    have hVl : M.V.length ≤ 1048576 := hok.2.2.2.2
    have hAl : M.A.length * 8 = M.V.length := hok.2.1
    have rb := hr.mono b1
    obtain ⟨dp, hdp⟩ : ∃ dp, (if M.V.length = a0 then (some ⟨v, 0, none⟩ : Option Addr) else some ⟨v, a0, none⟩) = dp := ⟨_, rfl⟩
    have hdp2 : 0 < min b.length (M.V.length - a0) → dp = some ⟨v, a0, none⟩ := fun q => by rw [← hdp, if_neg (by omega)]
    have hmin : min b.length (M.V.length - a0) = b.length := by omega
    have hfit : a0 + min b.length (M.V.length - a0) ≤ (M.V.map byteV).length := by rw [hmin, List.length_map]; exact hl
    have f5 : ((a0 : Int) ≤ (M.V.length : Int)) = True := eq_true (by omega)
    have f6 : (a0 ≤ M.V.length) = True := eq_true (by omega)
    have hcp : ∀ w3, Blk w3 v 5 (splice (M.V.map byteV) a0 ((b.map byteV).take (min b.length (M.V.length - a0)))) → w1.grownBy w3 (some v) → MemP w3 g v d p ⟨splice M.V a0 b, M.D, M.A⟩ ∧ Turns (fun k => k = v) w w3 ∧ Blk w3 w.heap.size 34 [.pointer (some ⟨g, 0, none⟩)] := by
      intro w3 hb hg
      have t : Turns (fun k => k = v) w1 w3 := Turns.of_grown hg rfl
      rw [hmin, List.take_of_length_le (by simp), ← map_splice] at hb
      have hsl : (splice M.V a0 b).length = M.V.length := length_splice _ _ _ hl
      refine ⟨⟨?_, av, ?_, hb, t.blk q5 av.symm, t.pend q6 ap2⟩, (Turns.of_below b1).trans t, t.blk k1 (by omega)⟩
      · obtain ⟨l1, l2, l3, l4, l5⟩ := hok
        exact ⟨l1.trans hsl.symm, l2.trans hsl.symm, by rw [hsl]; exact l3, by rw [hsl]; exact l4, by rw [hsl]; exact l5⟩
      · have := t.blk q3 ag1
        rw [← hsl] at this; exact this
    have HCP := hid hcp; have HW := hid HW; have HF := hid hfit; have HD2 := hid hdp2; have Q4 := hid q4; have RB := hid rb
    have ht := fun X => touched_any a0 b.length 8 X
    simp only [show ((8 : Nat) : Int) = 8 from rfl] at ht
    have HT := hid ht; have HW1 := hid hw1
    clear hcp hfit hdp2 q3 q4 q5 q6 rb hi hr k1 ht hw1
    refine (callsIn_wide (n := 5)).1 ?_
    refine callsIn_of_wp_marks Tryz.func25 rfl trivial ?_ rfl
    simp only [Tryz.ntmps25, List.size_toArray, List.length_cons, List.length_nil, Nat.reduceAdd, Nat.reduceSub, Array.replicate_succ, Array.replicate_zero, List.push_toArray, List.append_toArray, List.nil_append, List.cons_append]
    gi_wp2_with (first
      | ((try refine ⟨trivial, ?_⟩); gi_at_call 30; rw [← HW1.out]; refine (callsIn_wide.2 HW.out).mono ?_; rintro e w2 ⟨rfl, rfl⟩)
      | ((with_reducible refine wpi_copyG rfl _ _ rfl Tryz.underlying26 info8M rfl rfl HD2.out Q4.out RB.out (byteV_one b) HF.out ?_); intro w3 k3 g3; have C3 := hid (HCP.out w3 k3 g3); clear k3 g3)
      | ((try refine ⟨trivial, ?_⟩); gi_at_call 44; refine (callsIn_wide.2 (HT.out _)).mono ?_; rintro e w4 ⟨rfl, k4, b4, s4⟩; have K4 := hid k4; have B4 := hid b4; have S4 := hid s4; clear k4 b4 s4))
    obtain ⟨m3, t3, x3⟩ := C3.out
    have l3 := t3.size
    have l4 := B4.out.size
    have hI : StabC w4.heap.size (fun (pre : List Nat) W => Blk W w.heap.size 34 [.pointer (some ⟨g, 0, none⟩)] ∧ MemP W g v d p ⟨splice M.V a0 b, M.D, setL false M.A pre⟩ ∧ CapT (w3.heap.size + 1) w3.heap.size (w3.heap.size + 1 + 1) a0 b.length 8 W ∧ Turns (fun k => k = v ∨ k = p) w W) := by
      rintro pre X Y ⟨i1, i2, i3, i4⟩ bb
      have h4 := S4.out
      exact ⟨(bb.block _ (by omega)).trans i1, i2.up bb (by omega) (by omega) (by omega) (by omega), ⟨(bb.block _ (by omega)).trans i3.1, (bb.block _ (by omega)).trans i3.2.1, (bb.block _ (by omega)).trans i3.2.2⟩, i4.up bb (by omega)⟩
    have hx4 := x3.mono B4.out
    have hm4 := m3.mono B4.out
    have ht4 : Turns (fun k => k = v ∨ k = p) w w4 := (t3.mono (fun _ q => .inl q)).trans (Turns.of_below B4.out)
    refine wpIn_rangeFunc_K1 rfl (by omega) (gf := 60) rfl trivial (enters_of Tryz.func60 (by kernel_rfl) rfl) (by simp) (val := fun x : Nat => .int .i64 (x : Int))
      (touched_seq (5 - 1) w4 a0 b.length 8 (.inl rfl) (by omega) (by omega) (w3.heap.size + 1) w3.heap.size (w3.heap.size + 1 + 1) _ (Nat.le_refl _)) (Below.refl _ _)
      _ (fun _ _ _ => False) hI (fun _ _ _ _ q _ => q) ⟨hx4, hm4, K4.out, ht4⟩ (fun _ _ q => q.2.2.1) ?body ?done ?stop
    case body =>
      rintro l pre x W _ _ ⟨i1, i2, i3, i4⟩ hlt _ hsp
      have hxm : x ∈ touchL a0 b.length 8 := hsp.subset (by simp)
      have hxi := (touchL_mem a0 b.length 8 x (.inl rfl)).1 hxm
      have hxl : x < M.A.length := by have := of_decide_eq_true hxi; omega
      have y0 : W.cell? ⟨w.heap.size, 0, none⟩ = some (.pointer (some ⟨g, 0, none⟩)) := i1.cell (i := 0) (by simp)
      obtain ⟨_, _, y2⟩ := i2.cells
      have I1 := hid i1; have I2 := hid i2; have I3 := hid i3; have I4 := hid i4
      clear i1 i2 i3 i4 hsp hxm hxi
      simp only [List.setIfInBounds_toArray, List.set_cons_succ, List.set_cons_zero]
      gi_wp2_with (first | (gi_at_delete; refine wpi_delP rfl _ _ rfl Tryz.underlying65 rfl rfl (by rw [setL_len]; exact hxl) (by omega) I2.out.2.2.2.2.2 ?_; intro w5 p5 g5; have P5 := hid p5; have G5 := hid g5; clear p5 g5))
      have t5 : Turns (fun k => k = p) W w5 := Turns.of_grown G5.out rfl
      refine ⟨KeepUp.of_grown G5.out (by omega), t5.blk I1.out (by omega), ?_, ⟨t5.blk I3.out.1 (by omega), t5.blk I3.out.2.1 (by omega), t5.blk I3.out.2.2 (by omega)⟩, I4.out.trans (t5.mono (fun _ q => .inr q))⟩
      rw [setL_snoc]
      exact I2.out.setA P5.out (by simp) t5
    case done =>
      rintro D xs W hD rfl ⟨i1, i2, i3, i4⟩ hk
      have hst : (⟨splice M.V a0 b, M.D, setL false M.A (touchL a0 b.length 8)⟩ : MemM) = storeM M a0 b := by
        unfold storeM
        rw [tabF_ext (L := setL false M.A (touchL a0 b.length 8)) (setL_len _ _ _) (fun k hk => ?_)]
        rw [setL_get _ _ _ _ hk]
        by_cases q : inT a0 b.length 8 k = true
        · rw [if_pos ((touchL_mem _ _ _ _ (.inl rfl)).2 q), q]; simp
        · rw [if_neg (fun z => q ((touchL_mem _ _ _ _ (.inl rfl)).1 z))]
          rw [show inT a0 b.length 8 k = false by simpa using q]; simp
      rw [hst] at i2
      have I2 := hid i2; have I4 := hid i4
      clear i1 i2 i3 i4 hst
      gi_wp2
      refine ⟨by simp, .inl ⟨_, _, rfl, run_takeDeferred hk, ?_⟩⟩
      have hb : ∀ o, Below w4.heap.size W (W.putObj D o) := fun o => below_putObjC (Below.refl _ _) o hD
      exact ⟨_, results_tmp rfl _ _ _, rfl, I2.out.up (hb _) (by omega) (by omega) (by omega) (by omega), I4.out.up (hb _) (by omega)⟩
    case stop =>
      rintro D c pre W _ _ h _
      exact h.elim
  · have hE : StoreP g v d p M at_ b w = fun e w' => e = .returned (.int .i64 1) ∧ Below w.heap.size w w' := by
      funext e w'; unfold StoreP; rw [if_neg hi]
    rw [hE]
    rw [show inM M at_ b.length = false by simpa using hi] at HW
    have HW := hid HW
    clear hE hi h m1 hr
    go_enter Tryz.func25, Tryz.ntmps25
    go_wp2_with (first | (rw [← hw1]; go_at_call 30; refine HW.out.mono ?_; rintro e w2 ⟨rfl, rfl⟩))
    go_ret
    exact ⟨rfl, by rw [← hw1]; exact b1⟩
end Go.Proofs.YtcackliabemecaaGreatDoor
/- A line evicted; lines flushed. -/
namespace Go.Proofs.YtcackliabemecaaGreatDoor
open Go.RowKit Go.Shelf
set_option linter.unusedSimpArgs false
set_option linter.unusedVariables false
set_option maxRecDepth 100000
attribute [local go_sem] Oper.semAt_some

theorem SeqK.inRound {α : Type} {F : Fence} {n : Nat} {P : Program} {g : Nat} {lb : Array Value} {encs : α → Array Value} {S Sp : List α → Prop} {N : Nat} {w0 : World} {Cs : World → Prop} (l : Nat) (h : SeqK F n P g lb encs S Sp N w0 Cs) : SeqK (F.inRound l) n P g lb encs S Sp N w0 Cs := h
theorem KeepUp.up {B Bi : Nat} {W0 X Y : World} (h : KeepUp B W0 X) (b : Below Bi X Y) (hB : W0.heap.size ≤ Bi) : KeepUp B W0 Y := ⟨Nat.le_trans h.1 b.size, fun k h1 h2 => (b.block k (by omega)).trans (h.2 k h1 h2)⟩
theorem CapT.up {Bn Ba Bs at_ m s B : Nat} {X Y : World} (h : CapT Bn Ba Bs at_ m s X) (b : Below B X Y) (h1 : Bn < B) (h2 : Ba < B) (h3 : Bs < B) : CapT Bn Ba Bs at_ m s Y := ⟨(b.block _ h1).trans h.1, (b.block _ h2).trans h.2.1, (b.block _ h3).trans h.2.2⟩
theorem CapT.turns {Bn Ba Bs at_ m s : Nat} {Z : Nat → Prop} {X Y : World} (h : CapT Bn Ba Bs at_ m s X) (t : Turns Z X Y) (h1 : ¬ Z Bn) (h2 : ¬ Z Ba) (h3 : ¬ Z Bs) : CapT Bn Ba Bs at_ m s Y := ⟨t.blk h.1 h1, t.blk h.2.1 h2, t.blk h.2.2 h3⟩
theorem mem_line (k line : Nat) : k ∈ touchL (64 * line) 64 8 ↔ k / 8 = line := by
  rw [touchL_mem _ _ _ _ (.inl rfl)]
  unfold inT
  rw [decide_eq_true_eq]
  omega

/-- what Evict does -/
def EvictP (g v d p : Nat) (M : MemM) (line : Int) (w : World) (e : Ending) (w' : World) : Prop :=
  if 0 ≤ line ∧ line < (M.V.length / 64 : Nat) then e = .returned (.int .i64 0) ∧ MemP w' g v d p (evictM M line.toNat) ∧ Turns (fun k => k = d ∨ k = p) w w' else e = .returned (.int .i64 1) ∧ Below w.heap.size w w'

attribute [local go_sem] Oper.semAt_some

/-- those that were on their way, and the dirty ones of some cells -/
def flT (M : MemM) (f : Nat → Bool) : List Bool := tabF M.A.length fun k => M.A.getD k false || (f k && dirtyB M.V M.D k)
theorem flT_len (M : MemM) (f : Nat → Bool) : (flT M f).length = M.A.length := tabF_len _ _
theorem flT_none (M : MemM) : flT M (fun _ => false) = M.A := by
  unfold flT
  rw [tabF_congr (g := fun k => M.A.getD k false) (fun k _ => by simp), tabF_self]
theorem flT_congr {M : MemM} {f f' : Nat → Bool} (h : ∀ k, k < M.A.length → f k = f' k) : flT M f = flT M f' := tabF_congr fun k hk => by rw [h k hk]
theorem flT_set (M : MemM) (f : Nat → Bool) (x : Nat) (hd : dirtyB M.V M.D x = true) : (flT M f).set x true = flT M fun k => f k || k == x := by
  unfold flT
  rw [tabF_set]
  refine tabF_congr fun k hk => ?_
  by_cases e : k = x
  · subst e; rw [if_pos rfl, hd]; simp
  · rw [if_neg e]; show _ = (_ || (f k || k == x) && _); rw [show (k == x) = false from by simpa using e, Bool.or_false]
theorem flT_not (M : MemM) (f : Nat → Bool) (x : Nat) (hd : dirtyB M.V M.D x = false) : flT M f = flT M fun k => f k || k == x := by
  unfold flT
  refine tabF_congr fun k hk => ?_
  by_cases e : k = x
  · subst e; rw [hd]; simp
  · show _ = (_ || (f k || k == x) && _); rw [show (k == x) = false from by simpa using e, Bool.or_false]
theorem flushM_flT (M : MemM) (at_ n : Nat) : flushM M at_ n = ⟨M.V, M.D, flT M fun k => decide (k / 8 ∈ touchL at_ n 64)⟩ := by
  unfold flushM flT
  rw [tabF_congr fun k hk => ?_]
  have : inT at_ n 64 (k / 8) = decide (k / 8 ∈ touchL at_ n 64) := by
    rw [Bool.eq_iff_iff, decide_eq_true_eq]; exact (touchL_mem _ _ _ _ (.inr rfl)).symm
  rw [this]

/-- what Flush does -/
def FlushP (g v d p : Nat) (M : MemM) (at_ n : Int) (w : World) (e : Ending) (w' : World) : Prop :=
  if inM M at_ n = true then e = .returned (.int .i64 0) ∧ MemP w' g v d p (flushM M at_.toNat n.toNat) ∧ Turns (fun k => k = p) w w' else e = .returned (.int .i64 1) ∧ Below w.heap.size w w'

set_option maxHeartbeats 4000000 in
set_option maxRecDepth 100000 in
theorem flush_any {w : World} {g v d p : Nat} {M : MemM} (h : MemP w g v d p M) (at_ n : Int) (ha : -9223372036854775808 ≤ at_ ∧ at_ ≤ 9223372036854775807) (hn : -9223372036854775808 ≤ n ∧ n ≤ 9223372036854775807) :
    Calls Tryz.prog 68 #[.pointer (some ⟨g, 0, none⟩), .int .i64 at_, .int .i64 n] w (FlushP g v d p M at_ n w) := by
  have hd : Fence.wide.depth = none := rfl
  obtain ⟨w1, hw1⟩ : ∃ w1, w1 = w.alloc (.cells #[.pointer (some ⟨g, 0, none⟩)] 34) := ⟨_, rfl⟩
  have b1 : Below w.heap.size w w1 := by rw [hw1]; exact albO w _
  have k1 : Blk w1 w.heap.size 34 [.pointer (some ⟨g, 0, none⟩)] := by rw [hw1]; exact blk_newO rfl _ _
  have s1 : w1.heap.size = w.heap.size + 1 := by rw [hw1]; simp
  have m1 := h.mono b1
  have c1 : w1.cell? ⟨w.heap.size, 0, none⟩ = some (.pointer (some ⟨g, 0, none⟩)) := k1.cell (i := 0) (by simp)
  have HW := within_any m1 at_ n ha hn
  have HW1 := hid hw1
  by_cases hi : inM M at_ n = true
  · have hE : FlushP g v d p M at_ n w = fun e w' => e = .returned (.int .i64 0) ∧ MemP w' g v d p (flushM M at_.toNat n.toNat) ∧ Turns (fun k => k = p) w w' := by
      funext e w'; unfold FlushP; rw [if_pos hi]
    rw [hE]
    rw [hi] at HW
    clear hE
    obtain ⟨a0, n0, rfl, rfl, hl⟩ := inM_true hi
    rw [show ((a0 : Int)).toNat = a0 from rfl, show ((n0 : Int)).toNat = n0 from rfl]
    obtain ⟨av, ag1, ag2, ap1, ap2, ap3, gl, vl, dl, pl⟩ := mem_apart h
    have hVl : M.V.length ≤ 1048576 := m1.1.2.2.2.2
    have hAl : M.A.length * 8 = M.V.length := m1.1.2.1
    have hV64 : M.V.length % 64 = 0 := m1.1.2.2.1
    have ht := fun X => touched_any a0 n0 64 X
    simp only [show ((64 : Nat) : Int) = 64 from rfl] at ht
    have HT := hid ht
    have HWI := hid HW
    have M1 := hid m1; have K1 := hid k1; have S1 := hid s1
    clear HW ht m1 k1 s1 hw1 hi
    refine (callsIn_wide (n := 8)).1 ?_
    refine callsIn_of_wp_marks Tryz.func68 rfl trivial ?_ rfl
    simp only [Tryz.ntmps68, List.size_toArray, List.length_cons, List.length_nil, Nat.reduceAdd, Nat.reduceSub, Array.replicate_succ, Array.replicate_zero, List.push_toArray, List.append_toArray, List.nil_append, List.cons_append]
    gi_wp2_with (first
      | ((try refine ⟨trivial, ?_⟩); gi_at_call 30; rw [← HW1.out]; refine (callsIn_wide.2 HWI.out).mono ?_; rintro e w2 ⟨rfl, rfl⟩)
      | ((try refine ⟨trivial, ?_⟩); gi_at_call 44; refine (callsIn_wide.2 (HT.out _)).mono ?_; rintro e w4 ⟨rfl, k4, b4, s4⟩; have K4 := hid k4; have B4 := hid b4; have S4 := hid s4; clear k4 b4 s4))
    have s1 := S1.out
    have l4 := B4.out.size
    have h4 := S4.out
    have hI : StabC w4.heap.size (fun (pre : List Nat) W => Blk W w.heap.size 34 [.pointer (some ⟨g, 0, none⟩)] ∧ MemP W g v d p ⟨M.V, M.D, flT M fun k => decide (k / 8 ∈ pre)⟩ ∧ CapT (w1.heap.size + 1) w1.heap.size (w1.heap.size + 1 + 1) a0 n0 64 W ∧ Turns (fun k => k = p) w W) := by
      rintro pre X Y ⟨i1, i2, i3, i4⟩ bb
      exact ⟨(bb.block _ (by omega)).trans i1, i2.up bb (by omega) (by omega) (by omega) (by omega), i3.up bb (by omega) (by omega) (by omega), i4.up bb (by omega)⟩
    have hx4 := K1.out.mono B4.out
    have hm4 := M1.out.mono B4.out
    have ht4 : Turns (fun k => k = p) w w4 := (Turns.of_below b1).trans (Turns.of_below B4.out)
    have hz : (⟨M.V, M.D, flT M fun k => decide (k / 8 ∈ ([] : List Nat))⟩ : MemM) = M := by
      rw [flT_congr (f' := fun _ => false) (fun k _ => by simp), flT_none]
    refine wpIn_rangeFunc_K1 rfl (by omega) (gf := 60) rfl trivial (enters_of Tryz.func60 (by kernel_rfl) rfl) (by simp) (val := fun x : Nat => .int .i64 (x : Int))
      (touched_seq (8 - 1) w4 a0 n0 64 (.inr rfl) (by omega) (by omega) (w1.heap.size + 1) w1.heap.size (w1.heap.size + 1 + 1) _ (Nat.le_refl _)) (Below.refl _ _)
      _ (fun _ _ _ => False) hI (fun _ _ _ _ q _ => q) ⟨hx4, by rw [hz]; exact hm4, K4.out, ht4⟩ (fun _ _ q => q.2.2.1) ?body ?done ?stop
    case body =>
      rintro l pre ln W hlb hlr ⟨i1, i2, i3, i4⟩ hlt _ hsp
      have hlm : ln ∈ touchL a0 n0 64 := hsp.subset (by simp)
      have hln := of_decide_eq_true ((touchL_mem a0 n0 64 ln (.inr rfl)).1 hlm)
      have hle : ln ≤ 16384 := by omega
      have hlA : ∀ k, k / 8 = ln → k < M.A.length := fun k hk => by omega
      have HLA := hid hlA
      have HCO := hid (fun X => cellsOf_any ln (by omega) X)
      have I1 := hid i1; have I2 := hid i2; have I3 := hid i3; have I4 := hid i4; have HLR := hid hlr
      clear i1 i2 i3 i4 hsp hlm hln hlr hlA s1 h4
      simp only [List.setIfInBounds_toArray, List.set_cons_succ, List.set_cons_zero]
      gi_wp2_with (first
        | ((try refine ⟨trivial, ?_⟩); gi_at_call 82; refine (CallsIn.inRound l (callsIn_wide.2 (HCO.out _))).mono ?_; rintro e w5 ⟨rfl, k5, b5, s5⟩; have K5 := hid k5; have B5 := hid b5; have S5 := hid s5; clear k5 b5 s5))
      obtain ⟨r, hr⟩ := HLR.out
      have hlW : l < W.heap.size := (Array.getElem?_eq_some_iff.1 hr).1
      have hr5 : w5.heap[l]? = some (.loop r) := (B5.out.block l hlW).trans hr
      have l5 := B5.out.size
      have h5 := S5.out
      have hI5 : StabC w5.heap.size (fun (q : List Nat) Z => Blk Z w.heap.size 34 [.pointer (some ⟨g, 0, none⟩)] ∧ MemP Z g v d p ⟨M.V, M.D, flT M fun k => decide (k / 8 ∈ pre) || decide (k ∈ q)⟩ ∧ CapT (w1.heap.size + 1) w1.heap.size (w1.heap.size + 1 + 1) a0 n0 64 Z ∧ CapT (W.heap.size + 1) W.heap.size (W.heap.size + 1 + 1) (64 * ln) 64 8 Z ∧ Turns (fun k => k = p) w Z ∧ KeepUp w4.heap.size W Z) := by
        have s1 := S1.out
        have h4 := S4.out
        rintro q X Y ⟨j1, j2, j3, j3', j4, j5⟩ bb
        exact ⟨(bb.block _ (by omega)).trans j1, j2.up bb (by omega) (by omega) (by omega) (by omega), j3.up bb (by omega) (by omega) (by omega), j3'.up bb (by omega) (by omega) (by omega), j4.up bb (by omega), j5.up bb (by omega)⟩
      have hz5 : (⟨M.V, M.D, flT M fun k => decide (k / 8 ∈ pre) || decide (k ∈ ([] : List Nat))⟩ : MemM) = ⟨M.V, M.D, flT M fun k => decide (k / 8 ∈ pre)⟩ := by
        rw [flT_congr (f' := fun k => decide (k / 8 ∈ pre)) (fun k _ => by simp)]
      refine wpIn_rangeFunc_KN1 (l₀ := l) (r₀ := r) rfl hr5 (by omega) (gf := 60) rfl trivial (enters_of Tryz.func60 (by kernel_rfl) rfl) (by simp) (val := fun x : Nat => .int .i64 (x : Int))
        (SeqK.inRound l (touched_seq (8 - 1 - 1 - 1) w5 (64 * ln) 64 8 (.inl rfl) (by omega) (by omega) (W.heap.size + 1) W.heap.size (W.heap.size + 1 + 1) _ (Nat.le_refl _))) (Below.refl _ _)
        _ (fun _ _ _ => False) hI5 (fun _ _ _ _ q _ => q)
        ⟨I1.out.mono B5.out, by rw [hz5]; exact I2.out.mono B5.out, I3.out.mono B5.out, K5.out, I4.out.trans (Turns.of_below B5.out), (KeepUp.refl _ _).trans (KeepUp.of_below B5.out)⟩ (fun _ _ q => q.2.2.2.1) ?body2 ?done2 ?stop2
      case body2 =>
        rintro l2 q x Z _ _ ⟨j1, j2, j3, j3', j4, j5⟩ hlt2 _ hsp2
        have hxm : x ∈ touchL (64 * ln) 64 8 := hsp2.subset (by simp)
        have hxl : x < M.A.length := HLA.out x ((mem_line x ln).1 hxm)
        have y0 : Z.cell? ⟨w.heap.size, 0, none⟩ = some (.pointer (some ⟨g, 0, none⟩)) := j1.cell (i := 0) (by simp)
        have HD := hid (dirty_any j2 x (by show x < (flT M _).length; rw [flT_len]; exact hxl))
        have J1 := hid j1; have J2 := hid j2; have J3 := hid j3; have J3' := hid j3'; have J4 := hid j4; have J5 := hid j5
        clear j1 j2 j3 j3' j4 j5 hsp2 hxm h5
        simp only [List.setIfInBounds_toArray, List.set_cons_succ, List.set_cons_zero]
        by_cases hdx : dirtyB M.V M.D x = true
        · have HDX := hid hdx
          have hD2 := HD.out
          rw [show dirtyB (⟨M.V, M.D, flT M fun k => decide (k / 8 ∈ pre) || decide (k ∈ q)⟩ : MemM).V (⟨M.V, M.D, flT M fun k => decide (k / 8 ∈ pre) || decide (k ∈ q)⟩ : MemM).D x = true from hdx] at hD2
          have HD2 := hid hD2
          clear hD2 HD hdx
          gi_wp2_with (first
            | ((try refine ⟨trivial, ?_⟩); gi_at_call 58; refine (CallsIn.inRound l2 (CallsIn.inRound l (callsIn_wide.2 HD2.out))).mono ?_; rintro e w7 ⟨rfl, b7⟩; have x0 : w7.cell? ⟨w.heap.size, 0, none⟩ = some (.pointer (some ⟨g, 0, none⟩)) := (J1.out.mono b7).cell (i := 0) (by simp); have M7 := hid (J2.out.mono b7); have x2 := M7.out.cells.2.2; have B7 := hid b7; clear b7)
            | (gi_at_mapUpdate; refine wpi_putP rfl _ _ _ rfl Tryz.underlying65 rfl rfl rfl (by rw [flT_len]; exact hxl) (by omega) (by rw [flT_len]; omega) M7.out.2.2.2.2.2 ?_; intro w8 p8 g8; have P8 := hid p8; have G8 := hid g8; clear p8 g8))
          have t8 : Turns (fun k => k = p) w7 w8 := Turns.of_grown G8.out rfl
          have t78 : Turns (fun k => k = p) Z w8 := (Turns.of_below B7.out).trans t8
          have s1 := S1.out; have h4 := S4.out; have h5 := S5.out
          refine ⟨t78.keepUp (by omega), t78.blk J1.out (by omega), ?_, J3.out.turns t78 (by omega) (by omega) (by omega), J3'.out.turns t78 (by omega) (by omega) (by omega), J4.out.trans t78, J5.out.trans ((t78.keepUp (by omega)))⟩
          have := M7.out.setA P8.out (by simp) t8
          rw [flT_set _ _ _ HDX.out] at this
          rw [flT_congr (f' := fun k => (decide (k / 8 ∈ pre) || decide (k ∈ q)) || k == x) (fun k _ => by rw [Bool.eq_iff_iff]; simp [or_assoc])]
          exact this
        · have hdx' : dirtyB M.V M.D x = false := by simpa using hdx
          have HDX := hid hdx'
          have hD2 := HD.out
          rw [show dirtyB (⟨M.V, M.D, flT M fun k => decide (k / 8 ∈ pre) || decide (k ∈ q)⟩ : MemM).V (⟨M.V, M.D, flT M fun k => decide (k / 8 ∈ pre) || decide (k ∈ q)⟩ : MemM).D x = false from hdx'] at hD2
          have HD2 := hid hD2
          clear hD2 HD hdx hdx'
          gi_wp2_with (first
            | ((try refine ⟨trivial, ?_⟩); gi_at_call 58; refine (CallsIn.inRound l2 (CallsIn.inRound l (callsIn_wide.2 HD2.out))).mono ?_; rintro e w7 ⟨rfl, b7⟩; have M7 := hid (J2.out.mono b7); have B7 := hid b7; clear b7))
          have t78 : Turns (fun k => k = p) Z w7 := Turns.of_below B7.out
          have s1 := S1.out; have h4 := S4.out; have h5 := S5.out
          refine ⟨t78.keepUp (by omega), t78.blk J1.out (by omega), ?_, J3.out.turns t78 (by omega) (by omega) (by omega), J3'.out.turns t78 (by omega) (by omega) (by omega), J4.out.trans t78, J5.out.trans ((t78.keepUp (by omega)))⟩
          have := M7.out
          rw [flT_not _ _ _ HDX.out] at this
          rw [flT_congr (f' := fun k => (decide (k / 8 ∈ pre) || decide (k ∈ q)) || k == x) (fun k _ => by rw [Bool.eq_iff_iff]; simp [or_assoc])]
          exact this
      case done2 =>
        rintro xs Z rfl ⟨j1, j2, j3, j3', j4, j5⟩
        rw [flT_congr (f' := fun k => decide (k / 8 ∈ pre ++ [ln])) (fun k _ => by rw [Bool.eq_iff_iff]; simp [mem_line])] at j2
        gi_wp2
        exact ⟨j5, j1, j2, j3, j4⟩
      case stop2 =>
        rintro c q Z _ h
        exact h.elim
    case done =>
      rintro D xs W hD rfl ⟨i1, i2, i3, i4⟩ hk
      rw [← flushM_flT] at i2
      have I2 := hid i2; have I4 := hid i4
      clear i1 i2 i3 i4
      gi_wp2
      refine ⟨by simp, .inl ⟨_, _, rfl, run_takeDeferred hk, ?_⟩⟩
      have hb : ∀ o, Below w4.heap.size W (W.putObj D o) := fun o => below_putObjC (Below.refl _ _) o hD
      exact ⟨_, results_tmp rfl _ _ _, rfl, I2.out.up (hb _) (by omega) (by omega) (by omega) (by omega), I4.out.up (hb _) (by omega)⟩
    case stop =>
      rintro D c pre W _ _ h _
      exact h.elim
  · have hE : FlushP g v d p M at_ n w = fun e w' => e = .returned (.int .i64 1) ∧ Below w.heap.size w w' := by
      funext e w'; unfold FlushP; rw [if_neg hi]
    rw [hE]
    rw [show inM M at_ n = false by simpa using hi] at HW
    have HW := hid HW
    clear hE hi h m1 hw1 s1
    go_enter Tryz.func68, Tryz.ntmps68
    go_wp2_with (first | (go_at_call 30; rw [← HW1.out]; refine HW.out.mono ?_; rintro e w2 ⟨rfl, rfl⟩))
    go_ret
    exact ⟨rfl, b1⟩
end Go.Proofs.YtcackliabemecaaGreatDoor
