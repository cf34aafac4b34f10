/- Bytes stored into a memory. -/
import Derived.Test.YtcgekooahahjpaaPmI
import Derived.Shelf.Abstract
namespace Go.Proofs.Ytcgekooahahjpaa
open Go.RowKit Go.Shelf
set_option linter.unusedSimpArgs false
set_option linter.unusedVariables false
attribute [local go_sem] Oper.semAt_some

/-! ### cells struck off a set, one after the other -/
def setL (b : Bool) (A : List Bool) (pre : List Nat) : List Bool := pre.foldl (fun A k => A.set k b) A
theorem setL_snoc (b : Bool) (A : List Bool) (pre : List Nat) (x : Nat) : setL b A (pre ++ [x]) = (setL b A pre).set x b := by simp [setL, List.foldl_append]
theorem setL_len (b : Bool) : ∀ (pre : List Nat) (A : List Bool), (setL b A pre).length = A.length
  | [], _ => rfl
  | x :: r, A => by
    show (setL b (A.set x b) r).length = _
    rw [setL_len b r, List.length_set]
theorem setL_get (b : Bool) : ∀ (pre : List Nat) (A : List Bool) (k : Nat), k < A.length → (setL b A pre).getD k false = if k ∈ pre then b else A.getD k false
  | [], A, k, _ => by simp [setL]
  | x :: r, A, k, hk => by
    show (setL b (A.set x b) r).getD k false = _
    rw [setL_get b r _ k (by simpa using hk)]
    by_cases h : k ∈ r
    · simp [h]
    · rw [if_neg h]
      by_cases e : k = x
      · subst e; simp [hk]
      · rw [if_neg (by simp [e, h])]
        simp only [List.getD_eq_getElem?_getD, List.getElem?_set]
        rw [if_neg (fun q => e q.symm)]

theorem Turns.of_belowB {B : Nat} {X Y : World} (h : Below B X Y) : Turns (fun k => B ≤ k) X Y := ⟨h.os, h.tape, h.output, h.size, fun k _ hn => h.block k (by omega)⟩
theorem MemP.up {B : Nat} {X Y : World} {g v d p : Nat} {M : MemM} (h : MemP X g v d p M) (b : Below B X Y) (hg : g < B) (hv : v < B) (hd : d < B) (hp : p < B) : MemP Y g v d p M := h.turns (Turns.of_belowB b) (by omega) (by omega) (by omega) (by omega)
theorem Turns.up {Z : Nat → Prop} {B : Nat} {w X Y : World} (h : Turns Z w X) (b : Below B X Y) (hB : w.heap.size ≤ B) : Turns Z w Y := h.trans' (Turns.of_belowB b) (fun k hk q => by omega)

theorem MemP.setA {W W5 : World} {g v d p : Nat} {V D : List UInt8} {A A' : List Bool} (h : MemP W g v d p ⟨V, D, A⟩) (q : PendP W5 p A') (hl : A'.length = A.length) (t : Turns (fun k => k = p) W W5) : MemP W5 g v d p ⟨V, D, A'⟩ := by
  obtain ⟨_, h1, h2, h3, h4, h5, h6, h7, h8, h9⟩ := mem_apart h
  obtain ⟨⟨l1, l2, l3, l4, l5⟩, hne, hg, hv, hd, hp⟩ := h
  exact ⟨⟨l1, by show A'.length * 8 = V.length; rw [hl]; exact l2, l3, l4, l5⟩, hne, t.blk hg (fun e => h3 e.symm), t.blk hv (fun e => h4 e.symm), t.blk hd (fun e => h5 e.symm), q⟩
theorem info8 : (Try.prog.info? 5).map (·.size) = some 1 := by kernel_rfl
/-- what Store does -/
def StoreP (g v d p : Nat) (M : MemM) (at_ : Int) (b : List UInt8) (w : World) (e : Ending) (w' : World) : Prop :=
  if inM M at_ b.length = true then e = .returned (.int .i64 0) ∧ MemP w' g v d p (storeM M at_.toNat b) ∧ Turns (fun k => k = v ∨ k = p) w w' else e = .returned (.int .i64 1) ∧ Below w.heap.size w w'

set_option maxHeartbeats 4000000 in
set_option maxRecDepth 100000 in
theorem store_any {w : World} {g v d p : Nat} {M : MemM} (h : MemP w g v d p M) (at_ : Int) (ha : -9223372036854775808 ≤ at_ ∧ at_ ≤ 9223372036854775807) (a : Option Addr) (c : Nat) (b : List UInt8) (hr : RowB w a c b) :
    Calls Try.prog 22 #[.pointer (some ⟨g, 0, none⟩), .int .i64 at_, .slice a b.length c] w (StoreP g v d p M at_ b w) := by
  have hbl := rowB_len hr
  have hd : Fence.wide.depth = none := rfl
  obtain ⟨w1, hw1⟩ : ∃ w1, w1 = w.alloc (.cells #[.pointer (some ⟨g, 0, none⟩)] 23) := ⟨_, rfl⟩
  have b1 : Below w.heap.size w w1 := by rw [hw1]; exact albO w _
  have k1 : Blk w1 w.heap.size 23 [.pointer (some ⟨g, 0, none⟩)] := by rw [hw1]; exact blk_newO rfl _ _
  have s1 : w1.heap.size = w.heap.size + 1 := by rw [hw1]; simp
  have m1 := h.mono b1
  have c1 : w1.cell? ⟨w.heap.size, 0, none⟩ = some (.pointer (some ⟨g, 0, none⟩)) := k1.cell (i := 0) (by simp)
  obtain ⟨d0, d1, d2⟩ := m1.cells
  have HW := within_any m1 at_ b.length ha (by omega)
  by_cases hi : inM M at_ b.length = true
  · have hE : StoreP g v d p M at_ b w = fun e w' => e = .returned (.int .i64 0) ∧ MemP w' g v d p (storeM M at_.toNat b) ∧ Turns (fun k => k = v ∨ k = p) w w' := by
      funext e w'; unfold StoreP; rw [if_pos hi]
    rw [hE]
    rw [hi] at HW
    clear hE
    obtain ⟨a0, n0, rfl, hn0, hl⟩ := inM_true hi
    obtain rfl : b.length = n0 := by omega
    rw [show ((a0 : Int)).toNat = a0 from rfl]
    obtain ⟨av, ag1, ag2, ap1, ap2, ap3, gl, vl, dl, pl⟩ := mem_apart h
    obtain ⟨hok, _, q3, q4, q5, q6⟩ := m1
    have hVl : M.V.length ≤ 1048576 := hok.2.2.2.2
    have hAl : M.A.length * 8 = M.V.length := hok.2.1
    have rb := hr.mono b1
    obtain ⟨dp, hdp⟩ : ∃ dp, (if M.V.length = a0 then (some ⟨v, 0, none⟩ : Option Addr) else some ⟨v, a0, none⟩) = dp := ⟨_, rfl⟩
    have hdp2 : 0 < min b.length (M.V.length - a0) → dp = some ⟨v, a0, none⟩ := fun q => by rw [← hdp, if_neg (by omega)]
    have hmin : min b.length (M.V.length - a0) = b.length := by omega
    have hfit : a0 + min b.length (M.V.length - a0) ≤ (M.V.map byteV).length := by rw [hmin, List.length_map]; exact hl
    have f5 : ((a0 : Int) ≤ (M.V.length : Int)) = True := eq_true (by omega)
    have f6 : (a0 ≤ M.V.length) = True := eq_true (by omega)
    have hcp : ∀ w3, Blk w3 v 5 (splice (M.V.map byteV) a0 ((b.map byteV).take (min b.length (M.V.length - a0)))) → w1.grownBy w3 (some v) → MemP w3 g v d p ⟨splice M.V a0 b, M.D, M.A⟩ ∧ Turns (fun k => k = v) w w3 ∧ Blk w3 w.heap.size 23 [.pointer (some ⟨g, 0, none⟩)] := by
      intro w3 hb hg
      have t : Turns (fun k => k = v) w1 w3 := Turns.of_grown hg rfl
      rw [hmin, List.take_of_length_le (by simp), ← map_splice] at hb
      have hsl : (splice M.V a0 b).length = M.V.length := length_splice _ _ _ hl
      refine ⟨⟨?_, av, ?_, hb, t.blk q5 av.symm, t.pend q6 ap2⟩, (Turns.of_below b1).trans t, t.blk k1 (by omega)⟩
      · obtain ⟨l1, l2, l3, l4, l5⟩ := hok
        exact ⟨l1.trans hsl.symm, l2.trans hsl.symm, by rw [hsl]; exact l3, by rw [hsl]; exact l4, by rw [hsl]; exact l5⟩
      · have := t.blk q3 ag1
        rw [← hsl] at this; exact this
    have HCP := hid hcp; have HW := hid HW; have HF := hid hfit; have HD2 := hid hdp2; have Q4 := hid q4; have RB := hid rb
    have ht := fun X => touched_any a0 b.length 8 X
    simp only [show ((8 : Nat) : Int) = 8 from rfl] at ht
    have HT := hid ht; have HW1 := hid hw1
    clear hcp hfit hdp2 q3 q4 q5 q6 rb hi hr k1 ht hw1
    refine (callsIn_wide (n := 5)).1 ?_
    refine callsIn_of_wp_marks Try.func22 rfl trivial ?_ rfl
    simp only [Try.ntmps22, List.size_toArray, List.length_cons, List.length_nil, Nat.reduceAdd, Nat.reduceSub, Array.replicate_succ, Array.replicate_zero, List.push_toArray, List.append_toArray, List.nil_append, List.cons_append]
    gi_wp2_with (first
      | ((try refine ⟨trivial, ?_⟩); gi_at_call 33; rw [← HW1.out]; refine (callsIn_wide.2 HW.out).mono ?_; rintro e w2 ⟨rfl, rfl⟩)
      | ((with_reducible refine wpi_copyG rfl _ _ rfl Try.underlying29 info8 rfl rfl HD2.out Q4.out RB.out (byteV_one b) HF.out ?_); intro w3 k3 g3; have C3 := hid (HCP.out w3 k3 g3); clear k3 g3)
      | ((try refine ⟨trivial, ?_⟩); gi_at_call 34; refine (callsIn_wide.2 (HT.out _)).mono ?_; rintro e w4 ⟨rfl, k4, b4, s4⟩; have K4 := hid k4; have B4 := hid b4; have S4 := hid s4; clear k4 b4 s4))
    obtain ⟨m3, t3, x3⟩ := C3.out
    have l3 := t3.size
    have l4 := B4.out.size
    have hI : StabC w4.heap.size (fun (pre : List Nat) W => Blk W w.heap.size 23 [.pointer (some ⟨g, 0, none⟩)] ∧ MemP W g v d p ⟨splice M.V a0 b, M.D, setL false M.A pre⟩ ∧ CapT (w3.heap.size + 1) w3.heap.size (w3.heap.size + 1 + 1) a0 b.length 8 W ∧ Turns (fun k => k = v ∨ k = p) w W) := by
      rintro pre X Y ⟨i1, i2, i3, i4⟩ bb
      have h4 := S4.out
      exact ⟨(bb.block _ (by omega)).trans i1, i2.up bb (by omega) (by omega) (by omega) (by omega), ⟨(bb.block _ (by omega)).trans i3.1, (bb.block _ (by omega)).trans i3.2.1, (bb.block _ (by omega)).trans i3.2.2⟩, i4.up bb (by omega)⟩
    have hx4 := x3.mono B4.out
    have hm4 := m3.mono B4.out
    have ht4 : Turns (fun k => k = v ∨ k = p) w w4 := (t3.mono (fun _ q => .inl q)).trans (Turns.of_below B4.out)
    refine wpIn_rangeFunc_K1 rfl (by omega) (gf := 43) rfl trivial (enters_of Try.func43 (by kernel_rfl) rfl) (by simp) (val := fun x : Nat => .int .i64 (x : Int))
      (touched_seq (5 - 1) w4 a0 b.length 8 (.inl rfl) (by omega) (by omega) (w3.heap.size + 1) w3.heap.size (w3.heap.size + 1 + 1) _ (Nat.le_refl _)) (Below.refl _ _)
      _ (fun _ _ _ => False) hI (fun _ _ _ _ q _ => q) ⟨hx4, hm4, K4.out, ht4⟩ (fun _ _ q => q.2.2.1) ?body ?done ?stop
    case body =>
      rintro l pre x W _ _ ⟨i1, i2, i3, i4⟩ hlt _ hsp
      have hxm : x ∈ touchL a0 b.length 8 := hsp.subset (by simp)
      have hxi := (touchL_mem a0 b.length 8 x (.inl rfl)).1 hxm
      have hxl : x < M.A.length := by have := of_decide_eq_true hxi; omega
      have y0 : W.cell? ⟨w.heap.size, 0, none⟩ = some (.pointer (some ⟨g, 0, none⟩)) := i1.cell (i := 0) (by simp)
      obtain ⟨_, _, y2⟩ := i2.cells
      have I1 := hid i1; have I2 := hid i2; have I3 := hid i3; have I4 := hid i4
      clear i1 i2 i3 i4 hsp hxm hxi
      simp only [List.setIfInBounds_toArray, List.set_cons_succ, List.set_cons_zero]
      gi_wp2_with (first | (gi_at_delete; refine wpi_delP rfl _ _ rfl Try.underlying50 rfl rfl (by rw [setL_len]; exact hxl) (by omega) I2.out.2.2.2.2.2 ?_; intro w5 p5 g5; have P5 := hid p5; have G5 := hid g5; clear p5 g5))
      have t5 : Turns (fun k => k = p) W w5 := Turns.of_grown G5.out rfl
      refine ⟨KeepUp.of_grown G5.out (by omega), t5.blk I1.out (by omega), ?_, ⟨t5.blk I3.out.1 (by omega), t5.blk I3.out.2.1 (by omega), t5.blk I3.out.2.2 (by omega)⟩, I4.out.trans (t5.mono (fun _ q => .inr q))⟩
      rw [setL_snoc]
      exact I2.out.setA P5.out (by simp) t5
    case done =>
      rintro D xs W hD rfl ⟨i1, i2, i3, i4⟩ hk
      have hst : (⟨splice M.V a0 b, M.D, setL false M.A (touchL a0 b.length 8)⟩ : MemM) = storeM M a0 b := by
        unfold storeM
        rw [tabF_ext (L := setL false M.A (touchL a0 b.length 8)) (setL_len _ _ _) (fun k hk => ?_)]
        rw [setL_get _ _ _ _ hk]
        by_cases q : inT a0 b.length 8 k = true
        · rw [if_pos ((touchL_mem _ _ _ _ (.inl rfl)).2 q), q]; simp
        · rw [if_neg (fun z => q ((touchL_mem _ _ _ _ (.inl rfl)).1 z))]
          rw [show inT a0 b.length 8 k = false by simpa using q]; simp
      rw [hst] at i2
      have I2 := hid i2; have I4 := hid i4
      clear i1 i2 i3 i4 hst
      gi_wp2
      refine ⟨by simp, .inl ⟨_, _, rfl, run_takeDeferred hk, ?_⟩⟩
      have hb : ∀ o, Below w4.heap.size W (W.putObj D o) := fun o => below_putObjC (Below.refl _ _) o hD
      exact ⟨_, results_tmp rfl _ _ _, rfl, I2.out.up (hb _) (by omega) (by omega) (by omega) (by omega), I4.out.up (hb _) (by omega)⟩
    case stop =>
      rintro D c pre W _ _ h _
      exact h.elim
  · have hE : StoreP g v d p M at_ b w = fun e w' => e = .returned (.int .i64 1) ∧ Below w.heap.size w w' := by
      funext e w'; unfold StoreP; rw [if_neg hi]
    rw [hE]
    rw [show inM M at_ b.length = false by simpa using hi] at HW
    have HW := hid HW
    clear hE hi h m1 hr
    go_enter Try.func22, Try.ntmps22
    go_wp2_with (first | (rw [← hw1]; go_at_call 33; refine HW.out.mono ?_; rintro e w2 ⟨rfl, rfl⟩))
    go_ret
    exact ⟨rfl, by rw [← hw1]; exact b1⟩
end Go.Proofs.Ytcgekooahahjpaa
