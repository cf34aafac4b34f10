/- begin: a memory, a log, a transaction, and the document's. -/
import Derived.Test.YtcackliabemecaaDoorTxnG
import Derived.Test.YtcackliabemecaaDoorPmMd
namespace Go.Proofs.YtcackliabemecaaDoor
open Go.RowKit
set_option linter.unusedSimpArgs false
set_option linter.unusedVariables false
set_option maxRecDepth 100000

/-- the blocks of a pair -/
structure TK where
  g : Nat
  v : Nat
  d : Nat
  p : Nat
  lg : Nat
  tg : Nat
  gr : Nat
  vr : Nat
  dr : Nat
  ar : Nat
  lr : Nat
  dt : Nat
  pp : Nat
def pairT (K : TK) : List Value := [.pointer (some ⟨K.g, 0, none⟩), .pointer (some ⟨K.lg, 0, none⟩), .pointer (some ⟨K.tg, 0, none⟩), .pointer (some ⟨K.gr, 0, none⟩), .pointer (some ⟨K.dt, 0, none⟩)]
def txR (K : TK) (ra : Option Addr) (n rc : Nat) : List Value := [.pointer (some ⟨K.gr, 0, none⟩), .pointer (some ⟨K.lr, 0, none⟩), .slice ra n rc]
/-- the order in which they were laid -/
structure TK.ord (K : TK) (A B : Nat) : Prop where
  g : A ≤ K.g ∧ K.g < K.lg
  v : A ≤ K.v ∧ K.v < K.lg
  d : A ≤ K.d ∧ K.d < K.lg
  p : A ≤ K.p ∧ K.p < K.lg
  lg : K.lg < K.tg
  gr : K.tg < K.gr ∧ K.gr < K.lr
  vr : K.tg < K.vr ∧ K.vr < K.lr
  dr : K.tg < K.dr ∧ K.dr < K.lr
  ar : K.tg < K.ar ∧ K.ar < K.lr
  lr : K.lr < K.dt
  dt : K.dt < K.pp
  pp : K.pp < B
theorem newR1024T (w : World) : Calls Tryd.prog 23 #[.int .i64 1024] w fun e w' => ∃ g v d a, e = .returned (.pointer (some ⟨g, 0, none⟩)) ∧ MemR w' g v d a mem0 ∧ (w.heap.size ≤ g ∧ w.heap.size ≤ v ∧ w.heap.size ≤ d ∧ w.heap.size ≤ a) ∧ Below w.heap.size w w' := by
  refine (newR_any 1024 w (by omega)).mono ?_
  intro e w' z
  unfold NewR at z
  rw [if_pos (by decide), mem0_eq] at z
  exact z
set_option maxHeartbeats 8000000 in
theorem beginT_any (w : World) : Calls Tryd.prog 5 #[] w fun e w' => ∃ K : TK, e = .returned (.pointer (some ⟨K.pp, 0, none⟩)) ∧ LogP w' K.lg K.g K.v K.d K.p 512 512 mem0 ∧ Blk w' K.tg 61 (txC K.g K.lg none 0 0) ∧ MemR w' K.gr K.vr K.dr K.ar mem0 ∧ Blk w' K.lr 57 (logC K.gr 512 512) ∧ Blk w' K.dt 59 (txR K none 0 0) ∧ Blk w' K.pp 32 (pairT K) ∧ K.ord w.heap.size w'.heap.size ∧ Below w.heap.size w w' := by
  go_enter Tryd.func5, Tryd.ntmps5
  go_wp2_with fail
  refine (new1024 w).mono ?_
  rintro e w1 ⟨g, v, d, p, rfl, m1, ⟨hg, hv, hd, hp⟩, b1⟩
  have M1 := hid m1; have B1 := hid b1
  clear m1 b1
  go_wp2_with fail
  refine (newlog w1 M1.out).mono ?_
  rintro e w2 ⟨lg, rfl, l2, hlg, b2⟩
  have L2 := hid l2; have B2 := hid (kept_trans B1.out b2); have s1 := B1.out.size; have lt2 := l2.lt; have hlt1 : g < w1.heap.size ∧ v < w1.heap.size ∧ d < w1.heap.size ∧ p < w1.heap.size := by obtain ⟨_, _, _, _, _, _, q1, q2, q3, q4⟩ := mem_apart M1.out; exact ⟨q1, q2, q3, q4⟩
  clear l2 b2
  go_wp2_with fail
  refine (newT_any w2 g lg).mono ?_
  rintro e w3 ⟨tg, rfl, k3, htg, b3⟩
  have K3 := hid k3; have B3 := hid (kept_trans B2.out b3); have L3 := hid (L2.out.mono b3); have s2 := B2.out.size; have s3 := b3.size; have lt3 := k3.lt
  clear k3 b3
  go_wp2_with fail
  refine (newR1024T w3).mono ?_
  rintro e w4 ⟨gr, vr, dr, ar, rfl, m4, ⟨hgr, hvr, hdr, har⟩, b4⟩
  have hlt4 : gr < w4.heap.size ∧ vr < w4.heap.size ∧ dr < w4.heap.size ∧ ar < w4.heap.size := ⟨m4.2.2.1.lt, m4.2.2.2.1.lt, m4.2.2.2.2.1.lt, m4.2.2.2.2.2.lt⟩
  have M4 := hid m4; have B4 := hid (kept_trans B3.out b4); have L4 := hid (L3.out.mono b4); have K4 := hid (K3.out.mono b4); have s4 := b4.size
  clear m4 b4
  go_wp2_with fail
  go_ret
  obtain ⟨w5, hw5⟩ : ∃ x, x = w4.alloc (.cells #[.pointer (some ⟨gr, 0, none⟩), .int .i64 512, .int .i64 512] 57) := ⟨_, rfl⟩
  have b5 : Below w4.heap.size w4 w5 := by rw [hw5]; exact albO _ _
  have k5 : Blk w5 w4.heap.size 57 (logC gr 512 512) := by rw [hw5]; exact blk_newO rfl _ _
  have s5 : w5.heap.size = w4.heap.size + 1 := by rw [hw5]; simp
  rw [← hw5]
  obtain ⟨w6, hw6⟩ : ∃ x, x = w5.alloc (.cells #[.pointer (some ⟨gr, 0, none⟩), .pointer (some ⟨w4.heap.size, 0, none⟩), .slice none 0 0] 59) := ⟨_, rfl⟩
  have b6 : Below w5.heap.size w5 w6 := by rw [hw6]; exact albO _ _
  have k6 : Blk w6 w5.heap.size 59 [.pointer (some ⟨gr, 0, none⟩), .pointer (some ⟨w4.heap.size, 0, none⟩), .slice none 0 0] := by rw [hw6]; exact blk_newO rfl _ _
  have s6 : w6.heap.size = w5.heap.size + 1 := by rw [hw6]; simp
  have e6 : w5.heap.size = w4.heap.size + 1 := s5
  rw [← s5, ← hw6]
  obtain ⟨w7, hw7⟩ : ∃ x, x = w6.alloc (.cells #[.pointer (some ⟨g, 0, none⟩), .pointer (some ⟨lg, 0, none⟩), .pointer (some ⟨tg, 0, none⟩), .pointer (some ⟨gr, 0, none⟩), .pointer (some ⟨w5.heap.size, 0, none⟩)] 32) := ⟨_, rfl⟩
  have b7 : Below w6.heap.size w6 w7 := by rw [hw7]; exact albO _ _
  have k7 : Blk w7 w6.heap.size 32 [.pointer (some ⟨g, 0, none⟩), .pointer (some ⟨lg, 0, none⟩), .pointer (some ⟨tg, 0, none⟩), .pointer (some ⟨gr, 0, none⟩), .pointer (some ⟨w5.heap.size, 0, none⟩)] := by rw [hw7]; exact blk_newO rfl _ _
  have s7 : w7.heap.size = w6.heap.size + 1 := by rw [hw7]; simp
  rw [← hw7]
  refine ⟨⟨g, v, d, p, lg, tg, gr, vr, dr, ar, w4.heap.size, w5.heap.size, w6.heap.size⟩, ?_, ((L4.out.mono b5).mono b6).mono b7, ((K4.out.mono b5).mono b6).mono b7, ((M4.out.mono b5).mono b6).mono b7, (k5.mono b6).mono b7, k6.mono b7, k7, ⟨⟨?_, ?_⟩, ⟨?_, ?_⟩, ⟨?_, ?_⟩, ⟨?_, ?_⟩, ?_, ⟨?_, ?_⟩, ⟨?_, ?_⟩, ⟨?_, ?_⟩, ⟨?_, ?_⟩, ?_, ?_, ?_⟩, kept_trans (kept_trans (kept_trans B4.out b5) b6) b7⟩
  case refine_1 => exact congrArg (fun n => Ending.returned (.pointer (some ⟨n, 0, none⟩))) (show _ = w6.heap.size by omega)
  all_goals (dsimp only; omega)
end Go.Proofs.YtcackliabemecaaDoor
