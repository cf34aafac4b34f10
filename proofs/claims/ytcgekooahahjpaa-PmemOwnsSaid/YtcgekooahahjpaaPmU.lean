/- A deed cut; two memories side by side. -/
import Derived.Test.YtcgekooahahjpaaPmT
import Derived.Test.YtcgekooahahjpaaNumA
namespace Go.Proofs.Ytcgekooahahjpaa
open Go.RowKit
set_option linter.unusedSimpArgs false
set_option linter.unusedVariables false

set_option maxHeartbeats 2000000 in
theorem cut_any (kind at_ n : Int) (sa pa : Option Addr) (sl sc pl pc : Nat) (hs : sl ≤ sc) (hp : pl ≤ pc) (w : World) :
    Calls Try.prog 23 #[.agg #[.int .i64 kind, .int .i64 at_, .int .i64 n, .slice sa sl sc, .slice pa pl pc]] w fun e w' => e = .returned (.agg #[.int .i64 kind, .int .i64 at_, .int .i64 n, .slice sa (min sl 100) sc, .slice pa (min pl 200) pc]) ∧ Below w.heap.size w w' := by
  by_cases h1 : 100 < sl
  · have i1 : (100 : Int) < (sl : Int) := by omega
    have m1 : min sl 100 = 100 := by omega
    by_cases h2 : 200 < pl
    · have i2 : (200 : Int) < (pl : Int) := by omega
      have m2 : min pl 200 = 200 := by omega
      rw [m1, m2]
      go_enter Try.func23, Try.ntmps23
      go_wp2
      exact bodyPost_ret (results_cell1 (L := [.int .i64 kind, .int .i64 at_, .int .i64 n, .slice sa 100 sc, .slice pa 200 pc]) rfl rfl (blk_newO (by simp) _ _) Try.underlying32 rfl (by kernel_rfl)) rfl ⟨rfl, kept_alloc (albO w _) _⟩
    · have i2 : ¬ ((200 : Int) < (pl : Int)) := by omega
      have m2 : min pl 200 = pl := by omega
      rw [m1, m2]
      go_enter Try.func23, Try.ntmps23
      go_wp2
      exact bodyPost_ret (results_cell1 (L := [.int .i64 kind, .int .i64 at_, .int .i64 n, .slice sa 100 sc, .slice pa pl pc]) rfl rfl (blk_newO (by simp) _ _) Try.underlying32 rfl (by kernel_rfl)) rfl ⟨rfl, kept_alloc (albO w _) _⟩
  · have i1 : ¬ ((100 : Int) < (sl : Int)) := by omega
    have m1 : min sl 100 = sl := by omega
    by_cases h2 : 200 < pl
    · have i2 : (200 : Int) < (pl : Int) := by omega
      have m2 : min pl 200 = 200 := by omega
      rw [m1, m2]
      go_enter Try.func23, Try.ntmps23
      go_wp2
      exact bodyPost_ret (results_cell1 (L := [.int .i64 kind, .int .i64 at_, .int .i64 n, .slice sa sl sc, .slice pa 200 pc]) rfl rfl (blk_newO (by simp) _ _) Try.underlying32 rfl (by kernel_rfl)) rfl ⟨rfl, kept_alloc (albO w _) _⟩
    · have i2 : ¬ ((200 : Int) < (pl : Int)) := by omega
      have m2 : min pl 200 = pl := by omega
      rw [m1, m2]
      go_enter Try.func23, Try.ntmps23
      go_wp2
      exact bodyPost_ret (results_cell1 (L := [.int .i64 kind, .int .i64 at_, .int .i64 n, .slice sa sl sc, .slice pa pl pc]) rfl rfl (blk_newO (by simp) _ _) Try.underlying32 rfl (by kernel_rfl)) rfl ⟨rfl, kept_alloc (albO w _) _⟩

/-- the blocks of both memories -/
structure MemK where
  gm : Nat
  vm : Nat
  dm : Nat
  pm : Nat
  gr : Nat
  vr : Nat
  dr : Nat
  ar : Nat
def MemK.all (K : MemK) (k : Nat) : Prop := k = K.vm ∨ k = K.dm ∨ k = K.pm ∨ k = K.vr ∨ k = K.dr ∨ k = K.ar
def MemK.from (K : MemK) (B : Nat) : Prop := B ≤ K.gm ∧ B ≤ K.vm ∧ B ≤ K.dm ∧ B ≤ K.pm ∧ B ≤ K.gr ∧ B ≤ K.vr ∧ B ≤ K.dr ∧ B ≤ K.ar
/-- both have the same -/
def Both (w : World) (B : Nat) (K : MemK) (M : MemM) : Prop :=
  MemP w K.gm K.vm K.dm K.pm M ∧ MemR w K.gr K.vr K.dr K.ar M ∧ K.from B ∧ (K.vm ≠ K.vr ∧ K.vm ≠ K.dr ∧ K.dm ≠ K.vr ∧ K.dm ≠ K.dr)
theorem both_apart {w : World} {B : Nat} {K : MemK} {M : MemM} (h : Both w B K M) :
    (K.gm ≠ K.vr ∧ K.gm ≠ K.dr ∧ K.gm ≠ K.ar ∧ K.vm ≠ K.ar ∧ K.dm ≠ K.ar ∧ K.pm ≠ K.gr ∧ K.pm ≠ K.vr ∧ K.pm ≠ K.dr ∧ K.pm ≠ K.ar ∧ K.vm ≠ K.gr ∧ K.dm ≠ K.gr) ∧
      (K.vm ≠ K.dm ∧ K.gm ≠ K.vm ∧ K.gm ≠ K.dm ∧ K.pm ≠ K.gm ∧ K.pm ≠ K.vm ∧ K.pm ≠ K.dm) ∧ (K.vr ≠ K.dr ∧ K.gr ≠ K.vr ∧ K.gr ≠ K.dr ∧ K.ar ≠ K.gr ∧ K.ar ≠ K.vr ∧ K.ar ≠ K.dr) := by
  obtain ⟨hm, hr, _, _⟩ := h
  have a1 := mem_apart hm
  have a2 := ref_apart hr
  obtain ⟨_, _, g1, v1, d1, p1⟩ := hm
  obtain ⟨_, _, g2, v2, d2, r2⟩ := hr
  exact ⟨⟨blk_ne g1 v2 (by decide), blk_ne g1 d2 (by decide), blk_ne g1 r2 (by decide), blk_ne v1 r2 (by decide), blk_ne d1 r2 (by decide), pend_ne p1 g2, pend_ne p1 v2, pend_ne p1 d2, pend_ne p1 r2, blk_ne v1 g2 (by decide), blk_ne d1 g2 (by decide)⟩,
    ⟨a1.1, a1.2.1, a1.2.2.1, a1.2.2.2.1, a1.2.2.2.2.1, a1.2.2.2.2.2.1⟩, ⟨a2.1, a2.2.1, a2.2.2.1, a2.2.2.2.1, a2.2.2.2.2.1, a2.2.2.2.2.2.1⟩⟩
theorem Both.mono {w w' : World} {B : Nat} {K : MemK} {M : MemM} (h : Both w B K M) (b : Below w.heap.size w w') : Both w' B K M := ⟨h.1.mono b, h.2.1.mono b, h.2.2.1, h.2.2.2⟩
theorem not3 {k a b c : Nat} (h1 : k ≠ a) (h2 : k ≠ b) (h3 : k ≠ c) : ¬ (k = a ∨ k = b ∨ k = c) := fun q => q.elim h1 (fun q => q.elim h2 h3)
theorem Both.lt {w : World} {B : Nat} {K : MemK} {M : MemM} (h : Both w B K M) (k : Nat) (hk : K.all k) : k < w.heap.size := by
  obtain ⟨hm, hr, _, _⟩ := h
  obtain ⟨_, _, _, _, _, _, _, q1, q2, q3⟩ := mem_apart hm
  obtain ⟨_, _, _, _, _, _, _, q4, q5, q6⟩ := ref_apart hr
  rcases hk with e | e | e | e | e | e <;> rw [e] <;> assumption
theorem MemK.from_le {K : MemK} {B : Nat} (h : K.from B) (k : Nat) (hk : K.all k) : B ≤ k := by
  obtain ⟨_, h1, h2, h3, _, h4, h5, h6⟩ := h
  rcases hk with e | e | e | e | e | e <;> rw [e] <;> assumption
/-- what the one does, the other doesn't see -/
theorem Both.left {w w' : World} {B : Nat} {K : MemK} {M : MemM} (h : Both w B K M) (t : Turns (fun k => k = K.vm ∨ k = K.dm ∨ k = K.pm) w w') : MemR w' K.gr K.vr K.dr K.ar M := by
  obtain ⟨⟨_, _, _, z1, z2, p1, p2, p3, p4, z3, z4⟩, _, _⟩ := both_apart h
  obtain ⟨q1, q2, q3, q4⟩ := h.2.2.2
  exact h.2.1.turns t (not3 z3.symm z4.symm p1.symm) (not3 q1.symm q3.symm p2.symm) (not3 q2.symm q4.symm p3.symm) (not3 z1.symm z2.symm p4.symm)
theorem Both.right {w w1 w' : World} {B : Nat} {K : MemK} {M M' : MemM} (h : Both w B K M) (hm : MemP w1 K.gm K.vm K.dm K.pm M') (t : Turns (fun k => k = K.vr ∨ k = K.dr ∨ k = K.ar) w1 w') : MemP w' K.gm K.vm K.dm K.pm M' := by
  obtain ⟨⟨g1, g2, g3, z1, z2, p1, p2, p3, p4, z3, z4⟩, _, _⟩ := both_apart h
  obtain ⟨q1, q2, q3, q4⟩ := h.2.2.2
  exact hm.turns t (not3 g1 g2 g3) (not3 q1 q2 z1) (not3 q3 q4 z2) (not3 p2 p3 p4)
end Go.Proofs.Ytcgekooahahjpaa
