/- Any deed, of both memories. (genPmV.py) -/
import Derived.Test.YtcgekooahahjpaaPmU
namespace Go.Proofs.Ytcgekooahahjpaa
open Go.RowKit
set_option linter.unusedSimpArgs false
set_option linter.unusedVariables false

def deedC (kind at_ n : Int) (sa : Option Addr) (sl sc : Nat) (pa : Option Addr) (pl pc : Nat) : List Value := [.int .i64 kind, .int .i64 at_, .int .i64 n, .slice sa sl sc, .slice pa pl pc]
theorem deedC_one (kind at_ n : Int) (sa : Option Addr) (sl sc : Nat) (pa : Option Addr) (pl pc : Nat) : ∀ v ∈ deedC kind at_ n sa sl sc pa pl pc, v.oneCell' = true := by
  intro v hv
  unfold deedC at hv
  simp only [List.mem_cons, List.not_mem_nil, or_false] at hv
  rcases hv with e | e | e | e | e <;> rw [e] <;> rfl
def i64B (n : Int) : Prop := -9223372036854775808 ≤ n ∧ n ≤ 9223372036854775807
/-- what a deed needs: its bytes and picks can be read, and lie apart -/
structure DeedOk (w : World) (K : MemK) (at_ n : Int) (sa : Option Addr) (sc : Nat) (S : List UInt8) (pa : Option Addr) (pc : Nat) (P : List Int) : Prop where
  at_b : i64B at_
  n_b : i64B n
  rs : RowB w sa sc S
  rp : RowI w pa pc P
  ok : intsOk P
  sas : 0 < S.length → ∀ b, (∃ off, sa = some ⟨b, off, none⟩) → ¬ K.all b
  sap : 0 < P.length → ∀ b, (∃ off, pa = some ⟨b, off, none⟩) → ¬ K.all b
theorem rowI_take {w : World} {a : Option Addr} {c : Nat} {xs : List Int} (h : RowI w a c xs) (n : Nat) : RowI w a c (xs.take n) := by
  obtain ⟨h1, h2, h3, h4, h5⟩ := h
  have hl : (xs.take n).length ≤ xs.length := List.length_take_le' _ _
  refine ⟨by simp, by omega, h3, h4, fun hn => ?_⟩
  obtain ⟨b, off, e, hlt, hc⟩ := h5 (by omega)
  refine ⟨b, off, e, hlt, fun j u hu => hc j u ?_⟩
  rw [List.map_take, List.getElem?_take] at hu
  split at hu
  · exact hu
  · cases hu
theorem DeedOk.cut {w : World} {K : MemK} {at_ n : Int} {sa : Option Addr} {sc : Nat} {S : List UInt8} {pa : Option Addr} {pc : Nat} {P : List Int} (h : DeedOk w K at_ n sa sc S pa pc P) : DeedOk w K at_ n sa sc (S.take 100) pa pc (P.take 200) :=
  ⟨h.at_b, h.n_b, rowB_take h.rs 100, rowI_take h.rp 200, fun x hx => h.ok x (List.mem_of_mem_take hx), fun hn => h.sas (by rw [List.length_take] at hn; omega), fun hn => h.sap (by rw [List.length_take] at hn; omega)⟩
theorem DeedOk.turns {w w' : World} {K : MemK} {at_ n : Int} {sa : Option Addr} {sc : Nat} {S : List UInt8} {pa : Option Addr} {pc : Nat} {P : List Int} (h : DeedOk w K at_ n sa sc S pa pc P) (t : Turns K.all w w') : DeedOk w' K at_ n sa sc S pa pc P :=
  ⟨h.at_b, h.n_b, t.row h.rs h.sas, t.row h.rp h.sap, h.ok, h.sas, h.sap⟩
theorem apart_not {K : MemK} {k : Nat} (h : ¬ K.all k) : k ≠ K.vm ∧ k ≠ K.dm ∧ k ≠ K.pm ∧ k ≠ K.vr ∧ k ≠ K.dr ∧ k ≠ K.ar :=
  ⟨fun e => h (.inl e), fun e => h (.inr (.inl e)), fun e => h (.inr (.inr (.inl e))), fun e => h (.inr (.inr (.inr (.inl e)))), fun e => h (.inr (.inr (.inr (.inr (.inl e))))), fun e => h (.inr (.inr (.inr (.inr (.inr e)))))⟩
/-- what a deed leaves -/
def DoesP (w : World) (B : Nat) (K : MemK) (M : MemM) (e : Ending) (w' : World) : Prop :=
  e = .returned (.bool true) ∧ ∃ M', Both w' B K M' ∧ M'.V.length = M.V.length ∧ Turns K.all w w'

theorem infoDeed {kind at_ n : Int} {sa : Option Addr} {sl sc : Nat} {pa : Option Addr} {pl pc : Nat} : (Try.prog.info? 32).map (·.size) = some (deedC kind at_ n sa sl sc pa pl pc).length := by kernel_rfl


/-- one deed of both, one behind the other; they tell the same -/
def Pair (fm fr : Nat) (am ar : Array Value) (w : World) (B : Nat) (K : MemK) (M : MemM) : Prop :=
  ∃ E, Calls Try.prog fm am w fun e w1 => e = .returned (.int .i64 E) ∧ Turns K.all w w1 ∧ Calls Try.prog fr ar w1 fun e w2 => e = .returned (.int .i64 E) ∧ ∃ M', Both w2 B K M' ∧ M'.V.length = M.V.length ∧ Turns K.all w1 w2
def Pair0 (fm fr : Nat) (am ar : Array Value) (w : World) (B : Nat) (K : MemK) (M : MemM) : Prop :=
  Calls Try.prog fm am w fun e w1 => (∃ x, e = .returned x) ∧ Turns K.all w w1 ∧ Calls Try.prog fr ar w1 fun e w2 => (∃ x, e = .returned x) ∧ ∃ M', Both w2 B K M' ∧ M'.V.length = M.V.length ∧ Turns K.all w1 w2
theorem storeM_len {M : MemM} {q : Nat} {b : List UInt8} (h : q + b.length ≤ M.V.length) : (storeM M q b).V.length = M.V.length := length_splice _ _ _ h
theorem pair_store {w : World} {B : Nat} {K : MemK} {M : MemM} (h : Both w B K M) {at_ n : Int} {sa : Option Addr} {sc : Nat} {S : List UInt8} {pa : Option Addr} {pc : Nat} {P : List Int} (ho : DeedOk w K at_ n sa sc S pa pc P) :
    Pair 22 24 #[.pointer (some ⟨K.gm, 0, none⟩), .int .i64 at_, .slice sa S.length sc] #[.pointer (some ⟨K.gr, 0, none⟩), .int .i64 at_, .slice sa S.length sc] w B K M := by
  by_cases hi : inM M at_ S.length = true
  · refine ⟨0, (store_any h.1 at_ ho.at_b sa sc S ho.rs).mono ?_⟩
    intro e w1 q
    unfold StoreP at q
    rw [if_pos hi] at q
    obtain ⟨q1, q2, q3⟩ := q
    have t1 : Turns K.all w w1 := q3.mono (fun k hk => hk.elim (fun e => .inl e) (fun e => .inr (.inr (.inl e))))
    have r1 := h.left (q3.mono (fun k hk => hk.elim .inl (fun e => .inr (.inr e))))
    have rs1 := t1.row ho.rs ho.sas
    refine ⟨q1, t1, (storeR_any r1 at_ ho.at_b sa sc S rs1 (fun hn k hk => ⟨(apart_not (ho.sas hn k hk)).2.2.2.1, (apart_not (ho.sas hn k hk)).2.2.2.2.2⟩)).mono ?_⟩
    intro e w2 q
    unfold StoreR at q
    rw [if_pos hi] at q
    obtain ⟨z1, z2, z3⟩ := q
    obtain ⟨a0, n0, rfl, hn0, hl⟩ := inM_true hi
    have hx := h.right q2 (z3.mono (fun k hk => hk.elim .inl (fun e => .inr (.inr e))))
    exact ⟨z1, _, ⟨hx, z2, h.2.2.1, h.2.2.2⟩, storeM_len (by show a0 + S.length ≤ _; omega), z3.mono (fun k hk => hk.elim (fun e => .inr (.inr (.inr (.inl e)))) (fun e => .inr (.inr (.inr (.inr (.inr e))))))⟩
  · refine ⟨1, (store_any h.1 at_ ho.at_b sa sc S ho.rs).mono ?_⟩
    intro e w1 q
    unfold StoreP at q
    rw [if_neg hi] at q
    obtain ⟨q1, q2⟩ := q
    have h1 := h.mono q2
    have rs1 := ho.rs.mono q2
    refine ⟨q1, Turns.of_below q2, (storeR_any h1.2.1 at_ ho.at_b sa sc S rs1 (fun hn k hk => ⟨(apart_not (ho.sas hn k hk)).2.2.2.1, (apart_not (ho.sas hn k hk)).2.2.2.2.2⟩)).mono ?_⟩
    intro e w2 q
    unfold StoreR at q
    rw [if_neg hi] at q
    obtain ⟨z1, rfl⟩ := q
    exact ⟨z1, M, h1, rfl, Turns.refl _ _⟩
theorem pair_flush {w : World} {B : Nat} {K : MemK} {M : MemM} (h : Both w B K M) {at_ n : Int} (ha : i64B at_) (hn : i64B n) :
    Pair 15 25 #[.pointer (some ⟨K.gm, 0, none⟩), .int .i64 at_, .int .i64 n] #[.pointer (some ⟨K.gr, 0, none⟩), .int .i64 at_, .int .i64 n] w B K M := by
  by_cases hi : inM M at_ n = true
  · refine ⟨0, (flush_any h.1 at_ n ha hn).mono ?_⟩
    intro e w1 q
    unfold FlushP at q
    rw [if_pos hi] at q
    obtain ⟨q1, q2, q3⟩ := q
    refine ⟨q1, q3.mono (fun k e => .inr (.inr (.inl e))), (flushR_any (h.left (q3.mono (fun k e => .inr (.inr e)))) at_ n ha hn).mono ?_⟩
    intro e w2 q
    unfold FlushR at q
    rw [if_pos hi] at q
    obtain ⟨z1, z2, z3⟩ := q
    exact ⟨z1, _, ⟨h.right q2 (z3.mono (fun k e => .inr (.inr e))), z2, h.2.2.1, h.2.2.2⟩, rfl, z3.mono (fun k e => .inr (.inr (.inr (.inr (.inr e)))))⟩
  · refine ⟨1, (flush_any h.1 at_ n ha hn).mono ?_⟩
    intro e w1 q
    unfold FlushP at q
    rw [if_neg hi] at q
    obtain ⟨q1, q2⟩ := q
    have h1 := h.mono q2
    refine ⟨q1, Turns.of_below q2, (flushR_any h1.2.1 at_ n ha hn).mono ?_⟩
    intro e w2 q
    unfold FlushR at q
    rw [if_neg hi] at q
    obtain ⟨z1, rfl⟩ := q
    exact ⟨z1, M, h1, rfl, Turns.refl _ _⟩
theorem pair_evict {w : World} {B : Nat} {K : MemK} {M : MemM} (h : Both w B K M) {n : Int} (hn : i64B n) :
    Pair 27 28 #[.pointer (some ⟨K.gm, 0, none⟩), .int .i64 n] #[.pointer (some ⟨K.gr, 0, none⟩), .int .i64 n] w B K M := by
  by_cases hi : 0 ≤ n ∧ n < (M.V.length / 64 : Nat)
  · refine ⟨0, (evict_any h.1 n hn).mono ?_⟩
    intro e w1 q
    unfold EvictP at q
    rw [if_pos hi] at q
    obtain ⟨q1, q2, q3⟩ := q
    refine ⟨q1, q3.mono (fun k hk => hk.elim (fun e => .inr (.inl e)) (fun e => .inr (.inr (.inl e)))), (evictR_any (h.left (q3.mono (fun k hk => .inr hk))) n hn).mono ?_⟩
    intro e w2 q
    unfold EvictR at q
    rw [if_pos hi] at q
    obtain ⟨z1, z2, z3⟩ := q
    exact ⟨z1, _, ⟨h.right q2 (z3.mono (fun k hk => .inr hk)), z2, h.2.2.1, h.2.2.2⟩, rfl, z3.mono (fun k hk => .inr (.inr (.inr (.inr hk))))⟩
  · refine ⟨1, (evict_any h.1 n hn).mono ?_⟩
    intro e w1 q
    unfold EvictP at q
    rw [if_neg hi] at q
    obtain ⟨q1, q2⟩ := q
    have h1 := h.mono q2
    refine ⟨q1, Turns.of_below q2, (evictR_any h1.2.1 n hn).mono ?_⟩
    intro e w2 q
    unfold EvictR at q
    rw [if_neg hi] at q
    obtain ⟨z1, rfl⟩ := q
    exact ⟨z1, M, h1, rfl, Turns.refl _ _⟩
theorem pair_fence {w : World} {B : Nat} {K : MemK} {M : MemM} (h : Both w B K M) :
    Pair0 16 26 #[.pointer (some ⟨K.gm, 0, none⟩)] #[.pointer (some ⟨K.gr, 0, none⟩)] w B K M := by
  refine (fence_any h.1).mono ?_
  rintro e w1 ⟨q1, q2, q3⟩
  refine ⟨q1, q3.mono (fun k hk => hk.elim (fun e => .inr (.inl e)) (fun e => .inr (.inr (.inl e)))), (fenceR_any (h.left (q3.mono (fun k hk => .inr hk)))).mono ?_⟩
  rintro e w2 ⟨z1, z2, z3⟩
  exact ⟨z1, _, ⟨h.right q2 (z3.mono (fun k hk => .inr hk)), z2, h.2.2.1, h.2.2.2⟩, rfl, z3.mono (fun k hk => .inr (.inr (.inr (.inr hk))))⟩
theorem crashM_len {M : MemM} (h : M.ok) (P : List Int) : (crashM M P).V.length = M.V.length := by
  show (crashD M P).length = _
  rw [crashD_len]; exact h.1
theorem pair_crash {w : World} {B : Nat} {K : MemK} {M : MemM} (h : Both w B K M) {at_ n : Int} {sa : Option Addr} {sc : Nat} {S : List UInt8} {pa : Option Addr} {pc : Nat} {P : List Int} (ho : DeedOk w K at_ n sa sc S pa pc P) :
    Pair0 18 29 #[.pointer (some ⟨K.gm, 0, none⟩), .slice pa P.length pc] #[.pointer (some ⟨K.gr, 0, none⟩), .slice pa P.length pc] w B K M := by
  refine (crash_any h.1 P pa pc ho.rp ho.ok (fun hn b hb => (apart_not (ho.sap hn b hb)).2.1)).mono ?_
  rintro e w1 ⟨q1, q2, q3⟩
  have t1 : Turns K.all w w1 := q3.mono (fun k hk => hk.elim .inl (fun hk => hk.elim (fun e => .inr (.inl e)) (fun e => .inr (.inr (.inl e)))))
  refine ⟨q1, t1, (crashR_any (h.left q3) P pa pc (t1.row ho.rp ho.sap) ho.ok (fun hn b hb => ⟨(apart_not (ho.sap hn b hb)).2.2.2.2.1, (apart_not (ho.sap hn b hb)).2.2.2.2.2⟩)).mono ?_⟩
  rintro e w2 ⟨z1, z2, z3⟩
  exact ⟨z1, _, ⟨h.right q2 z3, z2, h.2.2.1, h.2.2.2⟩, crashM_len h.1.1 P, z3.mono (fun k hk => .inr (.inr (.inr hk)))⟩

set_option maxHeartbeats 4000000 in
theorem does_store {w : World} {B : Nat} {K : MemK} {M : MemM} (h : Both w B K M) (at_ n : Int) (sa : Option Addr) (sc : Nat) (S : List UInt8) (pa : Option Addr) (pc : Nat) (P : List Int) (ho : DeedOk w K at_ n sa sc S pa pc P) :
    Calls Try.prog 12 #[.pointer (some ⟨K.gm, 0, none⟩), .pointer (some ⟨K.gr, 0, none⟩), .agg #[.int .i64 0, .int .i64 at_, .int .i64 n, .slice sa S.length sc, .slice pa P.length pc]] w (DoesP w B K M) := by
  obtain ⟨w1, hw1⟩ : ∃ w1, w1 = w.alloc (.cells #[.int .i64 0, .int .i64 at_, .int .i64 n, .slice sa S.length sc, .slice pa P.length pc] 32) := ⟨_, rfl⟩
  have b1 : Below w.heap.size w w1 := by rw [hw1]; exact albO w _
  have k1 : Blk w1 w.heap.size 32 (deedC 0 at_ n sa S.length sc pa P.length pc) := by rw [hw1]; exact blk_newO rfl _ _
  have hcut := cut_any 0 at_ n sa pa S.length sc P.length pc (by have := ho.rs.2.1; simpa using this) (by have := ho.rp.2.1; simpa using this) w1
  have hl1 : min S.length 100 = (S.take 100).length := by simp [Nat.min_comm]
  have hl2 : min P.length 200 = (P.take 200).length := by simp [Nat.min_comm]
  rw [hl1, hl2] at hcut
  have hoc := ho.cut
  have H := hid h; have HW1 := hid hw1; have HC := hid hcut; have B1 := hid b1; have K1 := hid k1
  clear hl1 hl2 hcut h hw1 b1 k1
  have hSl := rowB_len ho.rs
  have hPl := rowI_len ho.rp
  clear ho
  have HO := hid hoc
  clear hoc
  generalize S.length = SL at *
  generalize P.length = PL at *
  generalize S.take 100 = S' at *
  generalize P.take 200 = P' at *
  go_enter Try.func12, Try.ntmps12
  go_wp2_with (first
    | (go_at_call 23; rw [← HW1.out]; refine HC.out.mono ?_; rintro e w2 ⟨rfl, b2⟩; have B2 := hid b2; have K2 := hid (K1.out.mono b2); clear b2)
    | ((with_reducible refine wpl_storeS rfl _ _ _ rfl w.heap.size rfl (deedC 0 at_ n sa S'.length sc pa P'.length pc) rfl infoDeed (deedC_one _ _ _ _ _ _ _ _ _) K2.out rfl ?_); intro w3 k3 g3; have K3 := hid k3; have B3 := hid ((below_trans B1.out B2.out B1.out.size).grown g3 (by have q1 := B1.out.size; have q2 := B2.out.size; omega) (fun k hk => by cases hk; exact Nat.le_refl _)); have x0 : w3.cell? ⟨w.heap.size, 0, none⟩ = some (.int .i64 0) := k3.cell (i := 0) (by simp [deedC]); have x1 : w3.cell? ⟨w.heap.size, 1, none⟩ = some (.int .i64 at_) := k3.cell (i := 1) (by simp [deedC]); have x2 : w3.cell? ⟨w.heap.size, 2, none⟩ = some (.int .i64 n) := k3.cell (i := 2) (by simp [deedC]); have x3 : w3.cell? ⟨w.heap.size, 3, none⟩ = some (.slice sa S'.length sc) := k3.cell (i := 3) (by simp [deedC]); have x4 : w3.cell? ⟨w.heap.size, 4, none⟩ = some (.slice pa P'.length pc) := k3.cell (i := 4) (by simp [deedC]); clear k3 g3))
  have hBo := H.out.mono B3.out
  have hDo := HO.out.turns (Turns.of_below B3.out)
  have HBL := hid (fun k (hk : K.all k) => H.out.lt k hk)
  have hnb : ¬ K.all w.heap.size := fun q => absurd (HBL.out _ q) (Nat.lt_irrefl _)
  have hE := pair_store (hBo.mono ((Below.refl _ w3).drew)) (hDo.turns ((Turns.refl K.all w3).drew))
  obtain ⟨E, hp⟩ := hE
  have HP := hid hp
  have y1 : w3.drew.cell? ⟨w.heap.size, 1, none⟩ = some (.int .i64 at_) := x1
  have y2 : w3.drew.cell? ⟨w.heap.size, 2, none⟩ = some (.int .i64 n) := x2
  have y3 : w3.drew.cell? ⟨w.heap.size, 3, none⟩ = some (.slice sa S'.length sc) := x3
  clear hp hBo hDo x0 x1 x2 x3 x4
  refine wp_region_held_drew (S := fun w' => (w'.cell? ⟨w.heap.size, 1, none⟩ = some (.int .i64 at_) ∧ w'.cell? ⟨w.heap.size, 2, none⟩ = some (.int .i64 n) ∧ w'.cell? ⟨w.heap.size, 3, none⟩ = some (.slice sa S'.length sc)) ∧ True) (by kernel_rfl) ⟨⟨y1, y2, y3⟩, trivial⟩ (fun hS_0 => ?_)
  refine takeR (i := 0) (v := .pointer (some ⟨K.gm, 0, none⟩)) rfl rfl (by kernel_rfl) (by kernel_rfl) (by kernel_rfl) (fun _ _ _ h => h) (Or.inl ⟨Eq.refl true, fun w1 hSw => ?_⟩) hS_0 ?_
  · first | rfl | (clear hSw; go_simp; done) | (clear hSw; go_simp; rfl)
  (try simp only [Act.put, List.setIfInBounds_toArray, List.set_cons_zero, List.set_cons_succ])
  refine takeR (i := 1) (v := .pointer (some ⟨w.heap.size, 1, none⟩)) rfl rfl (by kernel_rfl) (by kernel_rfl) (by kernel_rfl) (fun _ _ _ h => h) (Or.inl ⟨Eq.refl true, fun w1 hSw => ?_⟩) hS_0 ?_
  · first | rfl | (clear hSw; go_simp; done) | (clear hSw; go_simp; rfl)
  (try simp only [Act.put, List.setIfInBounds_toArray, List.set_cons_zero, List.set_cons_succ])
  refine takeR (i := 2) (v := .int .i64 at_) rfl rfl (by kernel_rfl) (by kernel_rfl) (by kernel_rfl) (fun _ _ _ h => h) (Or.inl ⟨Eq.refl true, fun w1 hSw => ?_⟩) hS_0 ?_
  · (obtain ⟨⟨q1, q2, q3⟩, _⟩ := hSw; go_simp; try rfl)
  (try simp only [Act.put, List.setIfInBounds_toArray, List.set_cons_zero, List.set_cons_succ])
  refine takeR (i := 3) (v := .pointer (some ⟨w.heap.size, 3, none⟩)) rfl rfl (by kernel_rfl) (by kernel_rfl) (by kernel_rfl) (fun _ _ _ h => h) (Or.inl ⟨Eq.refl true, fun w1 hSw => ?_⟩) hS_0 ?_
  · first | rfl | (clear hSw; go_simp; done) | (clear hSw; go_simp; rfl)
  (try simp only [Act.put, List.setIfInBounds_toArray, List.set_cons_zero, List.set_cons_succ])
  refine takeR (i := 4) (v := .slice sa S'.length sc) rfl rfl (by kernel_rfl) (by kernel_rfl) (by kernel_rfl) (fun _ _ _ h => h) (Or.inl ⟨Eq.refl true, fun w1 hSw => ?_⟩) hS_0 ?_
  · (obtain ⟨⟨q1, q2, q3⟩, _⟩ := hSw; go_simp; try rfl)
  (try simp only [Act.put, List.setIfInBounds_toArray, List.set_cons_zero, List.set_cons_succ])
  refine takeR (i := 6) (v := .pointer (some ⟨K.gr, 0, none⟩)) rfl rfl (by kernel_rfl) (by kernel_rfl) (by kernel_rfl) (fun _ _ _ h => h) (Or.inl ⟨Eq.refl true, fun w1 hSw => ?_⟩) hS_0 ?_
  · first | rfl | (clear hSw; go_simp; done) | (clear hSw; go_simp; rfl)
  (try simp only [Act.put, List.setIfInBounds_toArray, List.set_cons_zero, List.set_cons_succ])
  refine takeR (i := 7) (v := .pointer (some ⟨w.heap.size, 1, none⟩)) rfl rfl (by kernel_rfl) (by kernel_rfl) (by kernel_rfl) (fun _ _ _ h => h) (Or.inl ⟨Eq.refl true, fun w1 hSw => ?_⟩) hS_0 ?_
  · first | rfl | (clear hSw; go_simp; done) | (clear hSw; go_simp; rfl)
  (try simp only [Act.put, List.setIfInBounds_toArray, List.set_cons_zero, List.set_cons_succ])
  refine takeR (i := 8) (v := .int .i64 at_) rfl rfl (by kernel_rfl) (by kernel_rfl) (by kernel_rfl) (fun _ _ _ h => h) (Or.inl ⟨Eq.refl true, fun w1 hSw => ?_⟩) hS_0 ?_
  · (obtain ⟨⟨q1, q2, q3⟩, _⟩ := hSw; go_simp; try rfl)
  (try simp only [Act.put, List.setIfInBounds_toArray, List.set_cons_zero, List.set_cons_succ])
  refine takeR (i := 9) (v := .pointer (some ⟨w.heap.size, 3, none⟩)) rfl rfl (by kernel_rfl) (by kernel_rfl) (by kernel_rfl) (fun _ _ _ h => h) (Or.inl ⟨Eq.refl true, fun w1 hSw => ?_⟩) hS_0 ?_
  · first | rfl | (clear hSw; go_simp; done) | (clear hSw; go_simp; rfl)
  (try simp only [Act.put, List.setIfInBounds_toArray, List.set_cons_zero, List.set_cons_succ])
  refine takeR (i := 10) (v := .slice sa S'.length sc) rfl rfl (by kernel_rfl) (by kernel_rfl) (by kernel_rfl) (fun _ _ _ h => h) (Or.inl ⟨Eq.refl true, fun w1 hSw => ?_⟩) hS_0 ?_
  · (obtain ⟨⟨q1, q2, q3⟩, _⟩ := hSw; go_simp; try rfl)
  (try simp only [Act.put, List.setIfInBounds_toArray, List.set_cons_zero, List.set_cons_succ])
  refine wpAnyH_ready (rs := [5]) (by kernel_rfl) (by simp) (AllReadyH.cons rfl (fun KK hK => ?_) AllReadyH.nil)
  go_simp
  go_wp2_with (go_at_call 22; refine HP.out.mono ?_; rintro e w4 ⟨rfl, t4, c4⟩; have C4 := hid c4; have T4 := hid t4; have KD := hid ((Turns.drew (Turns.refl K.all w3)).blk K3.out hnb); have K4 := hid (t4.blk KD.out hnb); clear c4 t4)
  refine hK.out _ _ ?_ (fun hS_1 => ?_)
  · exact ⟨⟨K4.out.cell (i := 1) (by simp [deedC]), K4.out.cell (i := 2) (by simp [deedC]), K4.out.cell (i := 3) (by simp [deedC])⟩, trivial⟩
  clear hK KK
  refine wpAnyH_ready (rs := [11]) (by kernel_rfl) (by simp) (AllReadyH.cons rfl (fun KK hK => ?_) AllReadyH.nil)
  go_simp
  go_wp2_with (go_at_call 24; refine C4.out.mono ?_; rintro e w5 ⟨rfl, M5, b5, l5, t5⟩; have B5 := hid b5; have L5 := hid l5; have T5 := hid t5; have K5 := hid (t5.blk K4.out hnb); clear b5 l5 t5)
  refine hK.out _ _ ?_ (fun hS_2 => ?_)
  · exact ⟨⟨K5.out.cell (i := 1) (by simp [deedC]), K5.out.cell (i := 2) (by simp [deedC]), K5.out.cell (i := 3) (by simp [deedC])⟩, trivial⟩
  clear hK KK
  refine takeR (i := 12) (v := .bool true) rfl rfl (by kernel_rfl) (by kernel_rfl) (by kernel_rfl) (fun _ _ _ h => h) (Or.inl ⟨Eq.refl true, fun w1 hSw => ?_⟩) hS_2 ?_
  · first | rfl | (clear hSw; go_simp; done) | (clear hSw; go_simp; rfl)
  (try simp only [Act.put, List.setIfInBounds_toArray, List.set_cons_zero, List.set_cons_succ])
  refine takeR (i := 13) (v := .bool true) rfl rfl (by kernel_rfl) (by kernel_rfl) (by kernel_rfl) (fun _ _ _ h => h) (Or.inl ⟨Eq.refl true, fun w1 hSw => ?_⟩) hS_2 ?_
  · first | rfl | (clear hSw; go_simp; done) | (clear hSw; go_simp; rfl)
  (try simp only [Act.put, List.setIfInBounds_toArray, List.set_cons_zero, List.set_cons_succ])
  refine wpAnyH_done (by kernel_rfl) ?_ _
  clear y1 y2 y3
  go_wp2_with fail
  go_ret
  exact ⟨rfl, M5, B5.out, L5.out, (((Turns.of_below B3.out).drew).trans T4.out).trans T5.out⟩
set_option maxHeartbeats 4000000 in
theorem does_flush {w : World} {B : Nat} {K : MemK} {M : MemM} (h : Both w B K M) (at_ n : Int) (sa : Option Addr) (sc : Nat) (S : List UInt8) (pa : Option Addr) (pc : Nat) (P : List Int) (ho : DeedOk w K at_ n sa sc S pa pc P) :
    Calls Try.prog 12 #[.pointer (some ⟨K.gm, 0, none⟩), .pointer (some ⟨K.gr, 0, none⟩), .agg #[.int .i64 1, .int .i64 at_, .int .i64 n, .slice sa S.length sc, .slice pa P.length pc]] w (DoesP w B K M) := by
  obtain ⟨w1, hw1⟩ : ∃ w1, w1 = w.alloc (.cells #[.int .i64 1, .int .i64 at_, .int .i64 n, .slice sa S.length sc, .slice pa P.length pc] 32) := ⟨_, rfl⟩
  have b1 : Below w.heap.size w w1 := by rw [hw1]; exact albO w _
  have k1 : Blk w1 w.heap.size 32 (deedC 1 at_ n sa S.length sc pa P.length pc) := by rw [hw1]; exact blk_newO rfl _ _
  have hcut := cut_any 1 at_ n sa pa S.length sc P.length pc (by have := ho.rs.2.1; simpa using this) (by have := ho.rp.2.1; simpa using this) w1
  have hl1 : min S.length 100 = (S.take 100).length := by simp [Nat.min_comm]
  have hl2 : min P.length 200 = (P.take 200).length := by simp [Nat.min_comm]
  rw [hl1, hl2] at hcut
  have hoc := ho.cut
  have H := hid h; have HW1 := hid hw1; have HC := hid hcut; have B1 := hid b1; have K1 := hid k1
  clear hl1 hl2 hcut h hw1 b1 k1
  have hSl := rowB_len ho.rs
  have hPl := rowI_len ho.rp
  clear ho
  have HO := hid hoc
  clear hoc
  generalize S.length = SL at *
  generalize P.length = PL at *
  generalize S.take 100 = S' at *
  generalize P.take 200 = P' at *
  go_enter Try.func12, Try.ntmps12
  go_wp2_with (first
    | (go_at_call 23; rw [← HW1.out]; refine HC.out.mono ?_; rintro e w2 ⟨rfl, b2⟩; have B2 := hid b2; have K2 := hid (K1.out.mono b2); clear b2)
    | ((with_reducible refine wpl_storeS rfl _ _ _ rfl w.heap.size rfl (deedC 1 at_ n sa S'.length sc pa P'.length pc) rfl infoDeed (deedC_one _ _ _ _ _ _ _ _ _) K2.out rfl ?_); intro w3 k3 g3; have K3 := hid k3; have B3 := hid ((below_trans B1.out B2.out B1.out.size).grown g3 (by have q1 := B1.out.size; have q2 := B2.out.size; omega) (fun k hk => by cases hk; exact Nat.le_refl _)); have x0 : w3.cell? ⟨w.heap.size, 0, none⟩ = some (.int .i64 1) := k3.cell (i := 0) (by simp [deedC]); have x1 : w3.cell? ⟨w.heap.size, 1, none⟩ = some (.int .i64 at_) := k3.cell (i := 1) (by simp [deedC]); have x2 : w3.cell? ⟨w.heap.size, 2, none⟩ = some (.int .i64 n) := k3.cell (i := 2) (by simp [deedC]); have x3 : w3.cell? ⟨w.heap.size, 3, none⟩ = some (.slice sa S'.length sc) := k3.cell (i := 3) (by simp [deedC]); have x4 : w3.cell? ⟨w.heap.size, 4, none⟩ = some (.slice pa P'.length pc) := k3.cell (i := 4) (by simp [deedC]); clear k3 g3))
  have hBo := H.out.mono B3.out
  have hDo := HO.out.turns (Turns.of_below B3.out)
  have HBL := hid (fun k (hk : K.all k) => H.out.lt k hk)
  have hnb : ¬ K.all w.heap.size := fun q => absurd (HBL.out _ q) (Nat.lt_irrefl _)
  have hE := pair_flush (hBo.mono ((Below.refl _ w3).drew)) hDo.at_b hDo.n_b
  obtain ⟨E, hp⟩ := hE
  have HP := hid hp
  have y1 : w3.drew.cell? ⟨w.heap.size, 1, none⟩ = some (.int .i64 at_) := x1
  have y2 : w3.drew.cell? ⟨w.heap.size, 2, none⟩ = some (.int .i64 n) := x2
  have y3 : w3.drew.cell? ⟨w.heap.size, 3, none⟩ = some (.slice sa S'.length sc) := x3
  clear hp hBo hDo x0 x1 x2 x3 x4
  refine wp_region_held_drew (S := fun w' => (w'.cell? ⟨w.heap.size, 1, none⟩ = some (.int .i64 at_) ∧ w'.cell? ⟨w.heap.size, 2, none⟩ = some (.int .i64 n) ∧ w'.cell? ⟨w.heap.size, 3, none⟩ = some (.slice sa S'.length sc)) ∧ True) (by kernel_rfl) ⟨⟨y1, y2, y3⟩, trivial⟩ (fun hS_0 => ?_)
  refine takeR (i := 0) (v := .pointer (some ⟨K.gm, 0, none⟩)) rfl rfl (by kernel_rfl) (by kernel_rfl) (by kernel_rfl) (fun _ _ _ h => h) (Or.inl ⟨Eq.refl true, fun w1 hSw => ?_⟩) hS_0 ?_
  · first | rfl | (clear hSw; go_simp; done) | (clear hSw; go_simp; rfl)
  (try simp only [Act.put, List.setIfInBounds_toArray, List.set_cons_zero, List.set_cons_succ])
  refine takeR (i := 1) (v := .pointer (some ⟨w.heap.size, 1, none⟩)) rfl rfl (by kernel_rfl) (by kernel_rfl) (by kernel_rfl) (fun _ _ _ h => h) (Or.inl ⟨Eq.refl true, fun w1 hSw => ?_⟩) hS_0 ?_
  · first | rfl | (clear hSw; go_simp; done) | (clear hSw; go_simp; rfl)
  (try simp only [Act.put, List.setIfInBounds_toArray, List.set_cons_zero, List.set_cons_succ])
  refine takeR (i := 2) (v := .int .i64 at_) rfl rfl (by kernel_rfl) (by kernel_rfl) (by kernel_rfl) (fun _ _ _ h => h) (Or.inl ⟨Eq.refl true, fun w1 hSw => ?_⟩) hS_0 ?_
  · (obtain ⟨⟨q1, q2, q3⟩, _⟩ := hSw; go_simp; try rfl)
  (try simp only [Act.put, List.setIfInBounds_toArray, List.set_cons_zero, List.set_cons_succ])
  refine takeR (i := 3) (v := .pointer (some ⟨w.heap.size, 2, none⟩)) rfl rfl (by kernel_rfl) (by kernel_rfl) (by kernel_rfl) (fun _ _ _ h => h) (Or.inl ⟨Eq.refl true, fun w1 hSw => ?_⟩) hS_0 ?_
  · first | rfl | (clear hSw; go_simp; done) | (clear hSw; go_simp; rfl)
  (try simp only [Act.put, List.setIfInBounds_toArray, List.set_cons_zero, List.set_cons_succ])
  refine takeR (i := 4) (v := .int .i64 n) rfl rfl (by kernel_rfl) (by kernel_rfl) (by kernel_rfl) (fun _ _ _ h => h) (Or.inl ⟨Eq.refl true, fun w1 hSw => ?_⟩) hS_0 ?_
  · (obtain ⟨⟨q1, q2, q3⟩, _⟩ := hSw; go_simp; try rfl)
  (try simp only [Act.put, List.setIfInBounds_toArray, List.set_cons_zero, List.set_cons_succ])
  refine takeR (i := 6) (v := .pointer (some ⟨K.gr, 0, none⟩)) rfl rfl (by kernel_rfl) (by kernel_rfl) (by kernel_rfl) (fun _ _ _ h => h) (Or.inl ⟨Eq.refl true, fun w1 hSw => ?_⟩) hS_0 ?_
  · first | rfl | (clear hSw; go_simp; done) | (clear hSw; go_simp; rfl)
  (try simp only [Act.put, List.setIfInBounds_toArray, List.set_cons_zero, List.set_cons_succ])
  refine takeR (i := 7) (v := .pointer (some ⟨w.heap.size, 1, none⟩)) rfl rfl (by kernel_rfl) (by kernel_rfl) (by kernel_rfl) (fun _ _ _ h => h) (Or.inl ⟨Eq.refl true, fun w1 hSw => ?_⟩) hS_0 ?_
  · first | rfl | (clear hSw; go_simp; done) | (clear hSw; go_simp; rfl)
  (try simp only [Act.put, List.setIfInBounds_toArray, List.set_cons_zero, List.set_cons_succ])
  refine takeR (i := 8) (v := .int .i64 at_) rfl rfl (by kernel_rfl) (by kernel_rfl) (by kernel_rfl) (fun _ _ _ h => h) (Or.inl ⟨Eq.refl true, fun w1 hSw => ?_⟩) hS_0 ?_
  · (obtain ⟨⟨q1, q2, q3⟩, _⟩ := hSw; go_simp; try rfl)
  (try simp only [Act.put, List.setIfInBounds_toArray, List.set_cons_zero, List.set_cons_succ])
  refine takeR (i := 9) (v := .pointer (some ⟨w.heap.size, 2, none⟩)) rfl rfl (by kernel_rfl) (by kernel_rfl) (by kernel_rfl) (fun _ _ _ h => h) (Or.inl ⟨Eq.refl true, fun w1 hSw => ?_⟩) hS_0 ?_
  · first | rfl | (clear hSw; go_simp; done) | (clear hSw; go_simp; rfl)
  (try simp only [Act.put, List.setIfInBounds_toArray, List.set_cons_zero, List.set_cons_succ])
  refine takeR (i := 10) (v := .int .i64 n) rfl rfl (by kernel_rfl) (by kernel_rfl) (by kernel_rfl) (fun _ _ _ h => h) (Or.inl ⟨Eq.refl true, fun w1 hSw => ?_⟩) hS_0 ?_
  · (obtain ⟨⟨q1, q2, q3⟩, _⟩ := hSw; go_simp; try rfl)
  (try simp only [Act.put, List.setIfInBounds_toArray, List.set_cons_zero, List.set_cons_succ])
  refine wpAnyH_ready (rs := [5]) (by kernel_rfl) (by simp) (AllReadyH.cons rfl (fun KK hK => ?_) AllReadyH.nil)
  go_simp
  go_wp2_with (go_at_call 15; refine HP.out.mono ?_; rintro e w4 ⟨rfl, t4, c4⟩; have C4 := hid c4; have T4 := hid t4; have KD := hid ((Turns.drew (Turns.refl K.all w3)).blk K3.out hnb); have K4 := hid (t4.blk KD.out hnb); clear c4 t4)
  refine hK.out _ _ ?_ (fun hS_1 => ?_)
  · exact ⟨⟨K4.out.cell (i := 1) (by simp [deedC]), K4.out.cell (i := 2) (by simp [deedC]), K4.out.cell (i := 3) (by simp [deedC])⟩, trivial⟩
  clear hK KK
  refine wpAnyH_ready (rs := [11]) (by kernel_rfl) (by simp) (AllReadyH.cons rfl (fun KK hK => ?_) AllReadyH.nil)
  go_simp
  go_wp2_with (go_at_call 25; refine C4.out.mono ?_; rintro e w5 ⟨rfl, M5, b5, l5, t5⟩; have B5 := hid b5; have L5 := hid l5; have T5 := hid t5; have K5 := hid (t5.blk K4.out hnb); clear b5 l5 t5)
  refine hK.out _ _ ?_ (fun hS_2 => ?_)
  · exact ⟨⟨K5.out.cell (i := 1) (by simp [deedC]), K5.out.cell (i := 2) (by simp [deedC]), K5.out.cell (i := 3) (by simp [deedC])⟩, trivial⟩
  clear hK KK
  refine takeR (i := 12) (v := .bool true) rfl rfl (by kernel_rfl) (by kernel_rfl) (by kernel_rfl) (fun _ _ _ h => h) (Or.inl ⟨Eq.refl true, fun w1 hSw => ?_⟩) hS_2 ?_
  · first | rfl | (clear hSw; go_simp; done) | (clear hSw; go_simp; rfl)
  (try simp only [Act.put, List.setIfInBounds_toArray, List.set_cons_zero, List.set_cons_succ])
  refine takeR (i := 13) (v := .bool true) rfl rfl (by kernel_rfl) (by kernel_rfl) (by kernel_rfl) (fun _ _ _ h => h) (Or.inl ⟨Eq.refl true, fun w1 hSw => ?_⟩) hS_2 ?_
  · first | rfl | (clear hSw; go_simp; done) | (clear hSw; go_simp; rfl)
  (try simp only [Act.put, List.setIfInBounds_toArray, List.set_cons_zero, List.set_cons_succ])
  refine wpAnyH_done (by kernel_rfl) ?_ _
  clear y1 y2 y3
  go_wp2_with fail
  go_ret
  exact ⟨rfl, M5, B5.out, L5.out, (((Turns.of_below B3.out).drew).trans T4.out).trans T5.out⟩
set_option maxHeartbeats 4000000 in
theorem does_evict {w : World} {B : Nat} {K : MemK} {M : MemM} (h : Both w B K M) (at_ n : Int) (sa : Option Addr) (sc : Nat) (S : List UInt8) (pa : Option Addr) (pc : Nat) (P : List Int) (ho : DeedOk w K at_ n sa sc S pa pc P) :
    Calls Try.prog 12 #[.pointer (some ⟨K.gm, 0, none⟩), .pointer (some ⟨K.gr, 0, none⟩), .agg #[.int .i64 3, .int .i64 at_, .int .i64 n, .slice sa S.length sc, .slice pa P.length pc]] w (DoesP w B K M) := by
  obtain ⟨w1, hw1⟩ : ∃ w1, w1 = w.alloc (.cells #[.int .i64 3, .int .i64 at_, .int .i64 n, .slice sa S.length sc, .slice pa P.length pc] 32) := ⟨_, rfl⟩
  have b1 : Below w.heap.size w w1 := by rw [hw1]; exact albO w _
  have k1 : Blk w1 w.heap.size 32 (deedC 3 at_ n sa S.length sc pa P.length pc) := by rw [hw1]; exact blk_newO rfl _ _
  have hcut := cut_any 3 at_ n sa pa S.length sc P.length pc (by have := ho.rs.2.1; simpa using this) (by have := ho.rp.2.1; simpa using this) w1
  have hl1 : min S.length 100 = (S.take 100).length := by simp [Nat.min_comm]
  have hl2 : min P.length 200 = (P.take 200).length := by simp [Nat.min_comm]
  rw [hl1, hl2] at hcut
  have hoc := ho.cut
  have H := hid h; have HW1 := hid hw1; have HC := hid hcut; have B1 := hid b1; have K1 := hid k1
  clear hl1 hl2 hcut h hw1 b1 k1
  have hSl := rowB_len ho.rs
  have hPl := rowI_len ho.rp
  clear ho
  have HO := hid hoc
  clear hoc
  generalize S.length = SL at *
  generalize P.length = PL at *
  generalize S.take 100 = S' at *
  generalize P.take 200 = P' at *
  go_enter Try.func12, Try.ntmps12
  go_wp2_with (first
    | (go_at_call 23; rw [← HW1.out]; refine HC.out.mono ?_; rintro e w2 ⟨rfl, b2⟩; have B2 := hid b2; have K2 := hid (K1.out.mono b2); clear b2)
    | ((with_reducible refine wpl_storeS rfl _ _ _ rfl w.heap.size rfl (deedC 3 at_ n sa S'.length sc pa P'.length pc) rfl infoDeed (deedC_one _ _ _ _ _ _ _ _ _) K2.out rfl ?_); intro w3 k3 g3; have K3 := hid k3; have B3 := hid ((below_trans B1.out B2.out B1.out.size).grown g3 (by have q1 := B1.out.size; have q2 := B2.out.size; omega) (fun k hk => by cases hk; exact Nat.le_refl _)); have x0 : w3.cell? ⟨w.heap.size, 0, none⟩ = some (.int .i64 3) := k3.cell (i := 0) (by simp [deedC]); have x1 : w3.cell? ⟨w.heap.size, 1, none⟩ = some (.int .i64 at_) := k3.cell (i := 1) (by simp [deedC]); have x2 : w3.cell? ⟨w.heap.size, 2, none⟩ = some (.int .i64 n) := k3.cell (i := 2) (by simp [deedC]); have x3 : w3.cell? ⟨w.heap.size, 3, none⟩ = some (.slice sa S'.length sc) := k3.cell (i := 3) (by simp [deedC]); have x4 : w3.cell? ⟨w.heap.size, 4, none⟩ = some (.slice pa P'.length pc) := k3.cell (i := 4) (by simp [deedC]); clear k3 g3))
  have hBo := H.out.mono B3.out
  have hDo := HO.out.turns (Turns.of_below B3.out)
  have HBL := hid (fun k (hk : K.all k) => H.out.lt k hk)
  have hnb : ¬ K.all w.heap.size := fun q => absurd (HBL.out _ q) (Nat.lt_irrefl _)
  have hE := pair_evict (hBo.mono ((Below.refl _ w3).drew)) hDo.n_b
  obtain ⟨E, hp⟩ := hE
  have HP := hid hp
  have y1 : w3.drew.cell? ⟨w.heap.size, 1, none⟩ = some (.int .i64 at_) := x1
  have y2 : w3.drew.cell? ⟨w.heap.size, 2, none⟩ = some (.int .i64 n) := x2
  have y3 : w3.drew.cell? ⟨w.heap.size, 3, none⟩ = some (.slice sa S'.length sc) := x3
  clear hp hBo hDo x0 x1 x2 x3 x4
  refine wp_region_held_drew (S := fun w' => (w'.cell? ⟨w.heap.size, 1, none⟩ = some (.int .i64 at_) ∧ w'.cell? ⟨w.heap.size, 2, none⟩ = some (.int .i64 n) ∧ w'.cell? ⟨w.heap.size, 3, none⟩ = some (.slice sa S'.length sc)) ∧ True) (by kernel_rfl) ⟨⟨y1, y2, y3⟩, trivial⟩ (fun hS_0 => ?_)
  refine takeR (i := 0) (v := .pointer (some ⟨K.gm, 0, none⟩)) rfl rfl (by kernel_rfl) (by kernel_rfl) (by kernel_rfl) (fun _ _ _ h => h) (Or.inl ⟨Eq.refl true, fun w1 hSw => ?_⟩) hS_0 ?_
  · first | rfl | (clear hSw; go_simp; done) | (clear hSw; go_simp; rfl)
  (try simp only [Act.put, List.setIfInBounds_toArray, List.set_cons_zero, List.set_cons_succ])
  refine takeR (i := 1) (v := .pointer (some ⟨w.heap.size, 2, none⟩)) rfl rfl (by kernel_rfl) (by kernel_rfl) (by kernel_rfl) (fun _ _ _ h => h) (Or.inl ⟨Eq.refl true, fun w1 hSw => ?_⟩) hS_0 ?_
  · first | rfl | (clear hSw; go_simp; done) | (clear hSw; go_simp; rfl)
  (try simp only [Act.put, List.setIfInBounds_toArray, List.set_cons_zero, List.set_cons_succ])
  refine takeR (i := 2) (v := .int .i64 n) rfl rfl (by kernel_rfl) (by kernel_rfl) (by kernel_rfl) (fun _ _ _ h => h) (Or.inl ⟨Eq.refl true, fun w1 hSw => ?_⟩) hS_0 ?_
  · (obtain ⟨⟨q1, q2, q3⟩, _⟩ := hSw; go_simp; try rfl)
  (try simp only [Act.put, List.setIfInBounds_toArray, List.set_cons_zero, List.set_cons_succ])
  refine takeR (i := 4) (v := .pointer (some ⟨K.gr, 0, none⟩)) rfl rfl (by kernel_rfl) (by kernel_rfl) (by kernel_rfl) (fun _ _ _ h => h) (Or.inl ⟨Eq.refl true, fun w1 hSw => ?_⟩) hS_0 ?_
  · first | rfl | (clear hSw; go_simp; done) | (clear hSw; go_simp; rfl)
  (try simp only [Act.put, List.setIfInBounds_toArray, List.set_cons_zero, List.set_cons_succ])
  refine takeR (i := 5) (v := .pointer (some ⟨w.heap.size, 2, none⟩)) rfl rfl (by kernel_rfl) (by kernel_rfl) (by kernel_rfl) (fun _ _ _ h => h) (Or.inl ⟨Eq.refl true, fun w1 hSw => ?_⟩) hS_0 ?_
  · first | rfl | (clear hSw; go_simp; done) | (clear hSw; go_simp; rfl)
  (try simp only [Act.put, List.setIfInBounds_toArray, List.set_cons_zero, List.set_cons_succ])
  refine takeR (i := 6) (v := .int .i64 n) rfl rfl (by kernel_rfl) (by kernel_rfl) (by kernel_rfl) (fun _ _ _ h => h) (Or.inl ⟨Eq.refl true, fun w1 hSw => ?_⟩) hS_0 ?_
  · (obtain ⟨⟨q1, q2, q3⟩, _⟩ := hSw; go_simp; try rfl)
  (try simp only [Act.put, List.setIfInBounds_toArray, List.set_cons_zero, List.set_cons_succ])
  refine wpAnyH_ready (rs := [3]) (by kernel_rfl) (by simp) (AllReadyH.cons rfl (fun KK hK => ?_) AllReadyH.nil)
  go_simp
  go_wp2_with (go_at_call 27; refine HP.out.mono ?_; rintro e w4 ⟨rfl, t4, c4⟩; have C4 := hid c4; have T4 := hid t4; have KD := hid ((Turns.drew (Turns.refl K.all w3)).blk K3.out hnb); have K4 := hid (t4.blk KD.out hnb); clear c4 t4)
  refine hK.out _ _ ?_ (fun hS_1 => ?_)
  · exact ⟨⟨K4.out.cell (i := 1) (by simp [deedC]), K4.out.cell (i := 2) (by simp [deedC]), K4.out.cell (i := 3) (by simp [deedC])⟩, trivial⟩
  clear hK KK
  refine wpAnyH_ready (rs := [7]) (by kernel_rfl) (by simp) (AllReadyH.cons rfl (fun KK hK => ?_) AllReadyH.nil)
  go_simp
  go_wp2_with (go_at_call 28; refine C4.out.mono ?_; rintro e w5 ⟨rfl, M5, b5, l5, t5⟩; have B5 := hid b5; have L5 := hid l5; have T5 := hid t5; have K5 := hid (t5.blk K4.out hnb); clear b5 l5 t5)
  refine hK.out _ _ ?_ (fun hS_2 => ?_)
  · exact ⟨⟨K5.out.cell (i := 1) (by simp [deedC]), K5.out.cell (i := 2) (by simp [deedC]), K5.out.cell (i := 3) (by simp [deedC])⟩, trivial⟩
  clear hK KK
  refine takeR (i := 8) (v := .bool true) rfl rfl (by kernel_rfl) (by kernel_rfl) (by kernel_rfl) (fun _ _ _ h => h) (Or.inl ⟨Eq.refl true, fun w1 hSw => ?_⟩) hS_2 ?_
  · first | rfl | (clear hSw; go_simp; done) | (clear hSw; go_simp; rfl)
  (try simp only [Act.put, List.setIfInBounds_toArray, List.set_cons_zero, List.set_cons_succ])
  refine takeR (i := 9) (v := .bool true) rfl rfl (by kernel_rfl) (by kernel_rfl) (by kernel_rfl) (fun _ _ _ h => h) (Or.inl ⟨Eq.refl true, fun w1 hSw => ?_⟩) hS_2 ?_
  · first | rfl | (clear hSw; go_simp; done) | (clear hSw; go_simp; rfl)
  (try simp only [Act.put, List.setIfInBounds_toArray, List.set_cons_zero, List.set_cons_succ])
  refine wpAnyH_done (by kernel_rfl) ?_ _
  clear y1 y2 y3
  go_wp2_with fail
  go_ret
  exact ⟨rfl, M5, B5.out, L5.out, (((Turns.of_below B3.out).drew).trans T4.out).trans T5.out⟩

theorem pair_load {w : World} {B : Nat} {K : MemK} {M : MemM} (h : Both w B K M) {at_ n : Int} (ha : i64B at_) (hn : i64B n) :
    ∃ (L : Nat) (E : Int), Calls Try.prog 17 #[.pointer (some ⟨K.gm, 0, none⟩), .int .i64 at_, .int .i64 n] w fun e w1 => ∃ a1 c1, e = .returned (.tuple #[.slice a1 L c1, .int .i64 E]) ∧ Below w.heap.size w w1 ∧
      Calls Try.prog 30 #[.pointer (some ⟨K.gr, 0, none⟩), .int .i64 at_, .int .i64 n, .bool false] w1 fun e w2 => ∃ a2 c2, e = .returned (.tuple #[.slice a2 L c2, .int .i64 E]) ∧ Below w1.heap.size w1 w2 ∧
        Calls Try.prog 19 #[.slice a1 L c1, .slice a2 L c2] w2 fun e w3 => e = .returned (.bool true) ∧ Below w2.heap.size w2 w3 := by
  by_cases hi : inM M at_ n = true
  · obtain ⟨a0, n0, rfl, rfl, hl⟩ := inM_true hi
    have hyl : ((M.V.drop a0).take n0).length = n0 := by simp; omega
    refine ⟨n0, 0, (load_any h.1 _ _ ha hn).mono ?_⟩
    intro e w1 q
    unfold LoadP at q
    rw [if_pos hi] at q
    obtain ⟨a1, c1, q1, q2, q3⟩ := q
    refine ⟨a1, c1, q1, q3, (loadR_any (h.mono q3).2.1 _ _ ha hn).mono ?_⟩
    intro e w2 q
    unfold LoadP at q
    rw [if_pos hi] at q
    obtain ⟨a2, c2, z1, z2, z3⟩ := q
    refine ⟨a2, c2, z1, z3, ?_⟩
    have hs := same_any a1 a2 c1 c2 _ _ w2 (Own.row (q2.mono z3)) (Own.row z2) (by rw [show ((a0 : Int)).toNat = a0 from rfl, show ((n0 : Int)).toNat = n0 from rfl, hyl]; have := hn.2; omega) (by rw [show ((a0 : Int)).toNat = a0 from rfl, show ((n0 : Int)).toNat = n0 from rfl, hyl]; have := hn.2; omega)
    rw [decide_eq_true rfl, show ((a0 : Int)).toNat = a0 from rfl, show ((n0 : Int)).toNat = n0 from rfl, hyl] at hs
    exact hs
  · refine ⟨0, 1, (load_any h.1 _ _ ha hn).mono ?_⟩
    intro e w1 q
    unfold LoadP at q
    rw [if_neg hi] at q
    obtain ⟨q1, rfl⟩ := q
    refine ⟨none, 0, q1, Below.refl _ _, (loadR_any h.2.1 _ _ ha hn).mono ?_⟩
    intro e w2 q
    unfold LoadP at q
    rw [if_neg hi] at q
    obtain ⟨z1, rfl⟩ := q
    refine ⟨none, 0, z1, Below.refl _ _, ?_⟩
    have hs := same_any none none 0 0 [] [] w (Row.nil _ _) (Row.nil _ _) (by simp) (by simp)
    rw [decide_eq_true rfl] at hs
    exact hs

set_option maxHeartbeats 4000000 in
theorem does_fence {w : World} {B : Nat} {K : MemK} {M : MemM} (h : Both w B K M) (at_ n : Int) (sa : Option Addr) (sc : Nat) (S : List UInt8) (pa : Option Addr) (pc : Nat) (P : List Int) (ho : DeedOk w K at_ n sa sc S pa pc P) :
    Calls Try.prog 12 #[.pointer (some ⟨K.gm, 0, none⟩), .pointer (some ⟨K.gr, 0, none⟩), .agg #[.int .i64 2, .int .i64 at_, .int .i64 n, .slice sa S.length sc, .slice pa P.length pc]] w (DoesP w B K M) := by
  obtain ⟨w1, hw1⟩ : ∃ w1, w1 = w.alloc (.cells #[.int .i64 2, .int .i64 at_, .int .i64 n, .slice sa S.length sc, .slice pa P.length pc] 32) := ⟨_, rfl⟩
  have b1 : Below w.heap.size w w1 := by rw [hw1]; exact albO w _
  have k1 : Blk w1 w.heap.size 32 (deedC 2 at_ n sa S.length sc pa P.length pc) := by rw [hw1]; exact blk_newO rfl _ _
  have hcut := cut_any 2 at_ n sa pa S.length sc P.length pc (by have := ho.rs.2.1; simpa using this) (by have := ho.rp.2.1; simpa using this) w1
  have hl1 : min S.length 100 = (S.take 100).length := by simp [Nat.min_comm]
  have hl2 : min P.length 200 = (P.take 200).length := by simp [Nat.min_comm]
  rw [hl1, hl2] at hcut
  have hoc := ho.cut
  have H := hid h; have HW1 := hid hw1; have HC := hid hcut; have B1 := hid b1; have K1 := hid k1
  clear hl1 hl2 hcut h hw1 b1 k1
  have hSl := rowB_len ho.rs
  have hPl := rowI_len ho.rp
  clear ho
  have HO := hid hoc
  clear hoc
  generalize S.length = SL at *
  generalize P.length = PL at *
  generalize S.take 100 = S' at *
  generalize P.take 200 = P' at *
  go_enter Try.func12, Try.ntmps12
  go_wp2_with (first
    | (go_at_call 23; rw [← HW1.out]; refine HC.out.mono ?_; rintro e w2 ⟨rfl, b2⟩; have B2 := hid b2; have K2 := hid (K1.out.mono b2); clear b2)
    | ((with_reducible refine wpl_storeS rfl _ _ _ rfl w.heap.size rfl (deedC 2 at_ n sa S'.length sc pa P'.length pc) rfl infoDeed (deedC_one _ _ _ _ _ _ _ _ _) K2.out rfl ?_); intro w3 k3 g3; have K3 := hid k3; have B3 := hid ((below_trans B1.out B2.out B1.out.size).grown g3 (by have q1 := B1.out.size; have q2 := B2.out.size; omega) (fun k hk => by cases hk; exact Nat.le_refl _)); have x0 : w3.cell? ⟨w.heap.size, 0, none⟩ = some (.int .i64 2) := k3.cell (i := 0) (by simp [deedC]); have x1 : w3.cell? ⟨w.heap.size, 1, none⟩ = some (.int .i64 at_) := k3.cell (i := 1) (by simp [deedC]); have x2 : w3.cell? ⟨w.heap.size, 2, none⟩ = some (.int .i64 n) := k3.cell (i := 2) (by simp [deedC]); have x3 : w3.cell? ⟨w.heap.size, 3, none⟩ = some (.slice sa S'.length sc) := k3.cell (i := 3) (by simp [deedC]); have x4 : w3.cell? ⟨w.heap.size, 4, none⟩ = some (.slice pa P'.length pc) := k3.cell (i := 4) (by simp [deedC]); clear k3 g3))
  have hBo := H.out.mono B3.out
  have hDo := HO.out.turns (Turns.of_below B3.out)
  have HBL := hid (fun k (hk : K.all k) => H.out.lt k hk)
  have hnb : ¬ K.all w.heap.size := fun q => absurd (HBL.out _ q) (Nat.lt_irrefl _)
  have hp := pair_fence hBo
  clear hDo x0 x1 x2 x3 x4
  refine hp.mono ?_
  rintro e w4 ⟨⟨z, rfl⟩, t4, c4⟩
  have C4 := hid c4; have T4 := hid t4
  clear c4 t4 hp hBo
  go_wp2_with fail
  refine C4.out.mono ?_
  rintro e w5 ⟨⟨z', rfl⟩, M5, b5, l5, t5⟩
  have B5 := hid b5; have L5 := hid l5; have T5 := hid t5
  clear b5 l5 t5
  go_wp2_with fail
  go_ret
  exact ⟨rfl, M5, B5.out, L5.out, ((Turns.of_below B3.out).trans T4.out).trans T5.out⟩
set_option maxHeartbeats 4000000 in
theorem does_crash {w : World} {B : Nat} {K : MemK} {M : MemM} (h : Both w B K M) (at_ n : Int) (sa : Option Addr) (sc : Nat) (S : List UInt8) (pa : Option Addr) (pc : Nat) (P : List Int) (ho : DeedOk w K at_ n sa sc S pa pc P) :
    Calls Try.prog 12 #[.pointer (some ⟨K.gm, 0, none⟩), .pointer (some ⟨K.gr, 0, none⟩), .agg #[.int .i64 4, .int .i64 at_, .int .i64 n, .slice sa S.length sc, .slice pa P.length pc]] w (DoesP w B K M) := by
  obtain ⟨w1, hw1⟩ : ∃ w1, w1 = w.alloc (.cells #[.int .i64 4, .int .i64 at_, .int .i64 n, .slice sa S.length sc, .slice pa P.length pc] 32) := ⟨_, rfl⟩
  have b1 : Below w.heap.size w w1 := by rw [hw1]; exact albO w _
  have k1 : Blk w1 w.heap.size 32 (deedC 4 at_ n sa S.length sc pa P.length pc) := by rw [hw1]; exact blk_newO rfl _ _
  have hcut := cut_any 4 at_ n sa pa S.length sc P.length pc (by have := ho.rs.2.1; simpa using this) (by have := ho.rp.2.1; simpa using this) w1
  have hl1 : min S.length 100 = (S.take 100).length := by simp [Nat.min_comm]
  have hl2 : min P.length 200 = (P.take 200).length := by simp [Nat.min_comm]
  rw [hl1, hl2] at hcut
  have hoc := ho.cut
  have H := hid h; have HW1 := hid hw1; have HC := hid hcut; have B1 := hid b1; have K1 := hid k1
  clear hl1 hl2 hcut h hw1 b1 k1
  have hSl := rowB_len ho.rs
  have hPl := rowI_len ho.rp
  clear ho
  have HO := hid hoc
  clear hoc
  generalize S.length = SL at *
  generalize P.length = PL at *
  generalize S.take 100 = S' at *
  generalize P.take 200 = P' at *
  go_enter Try.func12, Try.ntmps12
  go_wp2_with (first
    | (go_at_call 23; rw [← HW1.out]; refine HC.out.mono ?_; rintro e w2 ⟨rfl, b2⟩; have B2 := hid b2; have K2 := hid (K1.out.mono b2); clear b2)
    | ((with_reducible refine wpl_storeS rfl _ _ _ rfl w.heap.size rfl (deedC 4 at_ n sa S'.length sc pa P'.length pc) rfl infoDeed (deedC_one _ _ _ _ _ _ _ _ _) K2.out rfl ?_); intro w3 k3 g3; have K3 := hid k3; have B3 := hid ((below_trans B1.out B2.out B1.out.size).grown g3 (by have q1 := B1.out.size; have q2 := B2.out.size; omega) (fun k hk => by cases hk; exact Nat.le_refl _)); have x0 : w3.cell? ⟨w.heap.size, 0, none⟩ = some (.int .i64 4) := k3.cell (i := 0) (by simp [deedC]); have x1 : w3.cell? ⟨w.heap.size, 1, none⟩ = some (.int .i64 at_) := k3.cell (i := 1) (by simp [deedC]); have x2 : w3.cell? ⟨w.heap.size, 2, none⟩ = some (.int .i64 n) := k3.cell (i := 2) (by simp [deedC]); have x3 : w3.cell? ⟨w.heap.size, 3, none⟩ = some (.slice sa S'.length sc) := k3.cell (i := 3) (by simp [deedC]); have x4 : w3.cell? ⟨w.heap.size, 4, none⟩ = some (.slice pa P'.length pc) := k3.cell (i := 4) (by simp [deedC]); clear k3 g3))
  have hBo := H.out.mono B3.out
  have hDo := HO.out.turns (Turns.of_below B3.out)
  have HBL := hid (fun k (hk : K.all k) => H.out.lt k hk)
  have hnb : ¬ K.all w.heap.size := fun q => absurd (HBL.out _ q) (Nat.lt_irrefl _)
  have hp := pair_crash hBo hDo
  clear x0 x1 x2 x3 x4
  refine hp.mono ?_
  rintro e w4 ⟨⟨z, rfl⟩, t4, c4⟩
  have x4 : w4.cell? ⟨w.heap.size, 4, none⟩ = some (.slice pa P'.length pc) := (t4.blk K3.out hnb).cell (i := 4) (by simp [deedC])
  have C4 := hid c4; have T4 := hid t4
  clear c4 t4 hp hBo hDo
  go_wp2_with fail
  refine C4.out.mono ?_
  rintro e w5 ⟨⟨z', rfl⟩, M5, b5, l5, t5⟩
  have B5 := hid b5; have L5 := hid l5; have T5 := hid t5
  clear b5 l5 t5 x4
  go_wp2_with fail
  go_ret
  exact ⟨rfl, M5, B5.out, L5.out, ((Turns.of_below B3.out).trans T4.out).trans T5.out⟩
set_option maxHeartbeats 4000000 in
theorem does_load {w : World} {B : Nat} {K : MemK} {M : MemM} (h : Both w B K M) (at_ n : Int) (sa : Option Addr) (sc : Nat) (S : List UInt8) (pa : Option Addr) (pc : Nat) (P : List Int) (ho : DeedOk w K at_ n sa sc S pa pc P) :
    Calls Try.prog 12 #[.pointer (some ⟨K.gm, 0, none⟩), .pointer (some ⟨K.gr, 0, none⟩), .agg #[.int .i64 5, .int .i64 at_, .int .i64 n, .slice sa S.length sc, .slice pa P.length pc]] w (DoesP w B K M) := by
  obtain ⟨w1, hw1⟩ : ∃ w1, w1 = w.alloc (.cells #[.int .i64 5, .int .i64 at_, .int .i64 n, .slice sa S.length sc, .slice pa P.length pc] 32) := ⟨_, rfl⟩
  have b1 : Below w.heap.size w w1 := by rw [hw1]; exact albO w _
  have k1 : Blk w1 w.heap.size 32 (deedC 5 at_ n sa S.length sc pa P.length pc) := by rw [hw1]; exact blk_newO rfl _ _
  have hcut := cut_any 5 at_ n sa pa S.length sc P.length pc (by have := ho.rs.2.1; simpa using this) (by have := ho.rp.2.1; simpa using this) w1
  have hl1 : min S.length 100 = (S.take 100).length := by simp [Nat.min_comm]
  have hl2 : min P.length 200 = (P.take 200).length := by simp [Nat.min_comm]
  rw [hl1, hl2] at hcut
  have hoc := ho.cut
  have H := hid h; have HW1 := hid hw1; have HC := hid hcut; have B1 := hid b1; have K1 := hid k1
  clear hl1 hl2 hcut h hw1 b1 k1
  have hSl := rowB_len ho.rs
  have hPl := rowI_len ho.rp
  clear ho
  have HO := hid hoc
  clear hoc
  generalize S.length = SL at *
  generalize P.length = PL at *
  generalize S.take 100 = S' at *
  generalize P.take 200 = P' at *
  go_enter Try.func12, Try.ntmps12
  go_wp2_with (first
    | (go_at_call 23; rw [← HW1.out]; refine HC.out.mono ?_; rintro e w2 ⟨rfl, b2⟩; have B2 := hid b2; have K2 := hid (K1.out.mono b2); clear b2)
    | ((with_reducible refine wpl_storeS rfl _ _ _ rfl w.heap.size rfl (deedC 5 at_ n sa S'.length sc pa P'.length pc) rfl infoDeed (deedC_one _ _ _ _ _ _ _ _ _) K2.out rfl ?_); intro w3 k3 g3; have K3 := hid k3; have B3 := hid ((below_trans B1.out B2.out B1.out.size).grown g3 (by have q1 := B1.out.size; have q2 := B2.out.size; omega) (fun k hk => by cases hk; exact Nat.le_refl _)); have x0 : w3.cell? ⟨w.heap.size, 0, none⟩ = some (.int .i64 5) := k3.cell (i := 0) (by simp [deedC]); have x1 : w3.cell? ⟨w.heap.size, 1, none⟩ = some (.int .i64 at_) := k3.cell (i := 1) (by simp [deedC]); have x2 : w3.cell? ⟨w.heap.size, 2, none⟩ = some (.int .i64 n) := k3.cell (i := 2) (by simp [deedC]); have x3 : w3.cell? ⟨w.heap.size, 3, none⟩ = some (.slice sa S'.length sc) := k3.cell (i := 3) (by simp [deedC]); have x4 : w3.cell? ⟨w.heap.size, 4, none⟩ = some (.slice pa P'.length pc) := k3.cell (i := 4) (by simp [deedC]); clear k3 g3))
  have hBo := H.out.mono B3.out
  have hDo := HO.out.turns (Turns.of_below B3.out)
  have HBL := hid (fun k (hk : K.all k) => H.out.lt k hk)
  have hnb : ¬ K.all w.heap.size := fun q => absurd (HBL.out _ q) (Nat.lt_irrefl _)
  obtain ⟨L, E, hp⟩ := pair_load hBo hDo.at_b hDo.n_b
  clear x0 x1 x2 x3 x4
  refine hp.mono ?_
  rintro e w4 ⟨a4, c4, rfl, b4, hc4⟩
  have x1 : w4.cell? ⟨w.heap.size, 1, none⟩ = some (.int .i64 at_) := (K3.out.mono b4).cell (i := 1) (by simp [deedC])
  have x2 : w4.cell? ⟨w.heap.size, 2, none⟩ = some (.int .i64 n) := (K3.out.mono b4).cell (i := 2) (by simp [deedC])
  have HBo := hid hBo
  have C4 := hid hc4; have B4 := hid b4
  clear hc4 b4 hp hBo hDo
  go_wp2_with fail
  refine C4.out.mono ?_
  rintro e w5 ⟨a5, c5, rfl, b5, hc5⟩
  have C5 := hid hc5; have B5 := hid (kept_trans B4.out b5)
  clear b5 hc5 x1 x2
  go_wp2_with fail
  refine C5.out.mono ?_
  rintro e w6 ⟨rfl, b6⟩
  have B6 := hid (kept_trans B5.out b6)
  clear b6
  go_wp2_with fail
  go_ret
  exact ⟨rfl, M, HBo.out.mono B6.out, rfl, (Turns.of_below B3.out).trans (Turns.of_below B6.out)⟩
set_option maxHeartbeats 4000000 in
theorem does_other {w : World} {B : Nat} {K : MemK} {M : MemM} (h : Both w B K M) (kind : Int) (hk : kind ≠ 0 ∧ kind ≠ 1 ∧ kind ≠ 2 ∧ kind ≠ 3 ∧ kind ≠ 4 ∧ kind ≠ 5) (at_ n : Int) (sa : Option Addr) (sc : Nat) (S : List UInt8) (pa : Option Addr) (pc : Nat) (P : List Int) (ho : DeedOk w K at_ n sa sc S pa pc P) :
    Calls Try.prog 12 #[.pointer (some ⟨K.gm, 0, none⟩), .pointer (some ⟨K.gr, 0, none⟩), .agg #[.int .i64 kind, .int .i64 at_, .int .i64 n, .slice sa S.length sc, .slice pa P.length pc]] w (DoesP w B K M) := by
  obtain ⟨n0, n1, n2, n3, n4, n5⟩ := hk
  have p0 : (kind == 0) = false := by simpa using n0
  have p1 : (kind == 1) = false := by simpa using n1
  have p2 : (kind == 2) = false := by simpa using n2
  have p3 : (kind == 3) = false := by simpa using n3
  have p4 : (kind == 4) = false := by simpa using n4
  have p5 : (kind == 5) = false := by simpa using n5
  clear n0 n1 n2 n3 n4 n5
  obtain ⟨w1, hw1⟩ : ∃ w1, w1 = w.alloc (.cells #[.int .i64 kind, .int .i64 at_, .int .i64 n, .slice sa S.length sc, .slice pa P.length pc] 32) := ⟨_, rfl⟩
  have b1 : Below w.heap.size w w1 := by rw [hw1]; exact albO w _
  have k1 : Blk w1 w.heap.size 32 (deedC kind at_ n sa S.length sc pa P.length pc) := by rw [hw1]; exact blk_newO rfl _ _
  have hcut := cut_any kind at_ n sa pa S.length sc P.length pc (by have := ho.rs.2.1; simpa using this) (by have := ho.rp.2.1; simpa using this) w1
  have hl1 : min S.length 100 = (S.take 100).length := by simp [Nat.min_comm]
  have hl2 : min P.length 200 = (P.take 200).length := by simp [Nat.min_comm]
  rw [hl1, hl2] at hcut
  have hoc := ho.cut
  have H := hid h; have HW1 := hid hw1; have HC := hid hcut; have B1 := hid b1; have K1 := hid k1
  clear hl1 hl2 hcut h hw1 b1 k1
  have hSl := rowB_len ho.rs
  have hPl := rowI_len ho.rp
  clear ho
  have HO := hid hoc
  clear hoc
  generalize S.length = SL at *
  generalize P.length = PL at *
  generalize S.take 100 = S' at *
  generalize P.take 200 = P' at *
  go_enter Try.func12, Try.ntmps12
  go_wp2_with (first
    | (go_at_call 23; rw [← HW1.out]; refine HC.out.mono ?_; rintro e w2 ⟨rfl, b2⟩; have B2 := hid b2; have K2 := hid (K1.out.mono b2); clear b2)
    | ((with_reducible refine wpl_storeS rfl _ _ _ rfl w.heap.size rfl (deedC kind at_ n sa S'.length sc pa P'.length pc) rfl infoDeed (deedC_one _ _ _ _ _ _ _ _ _) K2.out rfl ?_); intro w3 k3 g3; have K3 := hid k3; have B3 := hid ((below_trans B1.out B2.out B1.out.size).grown g3 (by have q1 := B1.out.size; have q2 := B2.out.size; omega) (fun k hk => by cases hk; exact Nat.le_refl _)); have x0 : w3.cell? ⟨w.heap.size, 0, none⟩ = some (.int .i64 kind) := k3.cell (i := 0) (by simp [deedC]); have x1 : w3.cell? ⟨w.heap.size, 1, none⟩ = some (.int .i64 at_) := k3.cell (i := 1) (by simp [deedC]); have x2 : w3.cell? ⟨w.heap.size, 2, none⟩ = some (.int .i64 n) := k3.cell (i := 2) (by simp [deedC]); have x3 : w3.cell? ⟨w.heap.size, 3, none⟩ = some (.slice sa S'.length sc) := k3.cell (i := 3) (by simp [deedC]); have x4 : w3.cell? ⟨w.heap.size, 4, none⟩ = some (.slice pa P'.length pc) := k3.cell (i := 4) (by simp [deedC]); clear k3 g3))
  go_ret
  exact ⟨rfl, M, H.out.mono B3.out, rfl, Turns.of_below B3.out⟩

theorem does_any {w : World} {B : Nat} {K : MemK} {M : MemM} (h : Both w B K M) (kind at_ n : Int) (sa : Option Addr) (sc : Nat) (S : List UInt8) (pa : Option Addr) (pc : Nat) (P : List Int) (ho : DeedOk w K at_ n sa sc S pa pc P) :
    Calls Try.prog 12 #[.pointer (some ⟨K.gm, 0, none⟩), .pointer (some ⟨K.gr, 0, none⟩), .agg #[.int .i64 kind, .int .i64 at_, .int .i64 n, .slice sa S.length sc, .slice pa P.length pc]] w (DoesP w B K M) := by
  by_cases k0 : kind = 0
  · subst k0; exact does_store h at_ n sa sc S pa pc P ho
  by_cases k1 : kind = 1
  · subst k1; exact does_flush h at_ n sa sc S pa pc P ho
  by_cases k2 : kind = 2
  · subst k2; exact does_fence h at_ n sa sc S pa pc P ho
  by_cases k3 : kind = 3
  · subst k3; exact does_evict h at_ n sa sc S pa pc P ho
  by_cases k4 : kind = 4
  · subst k4; exact does_crash h at_ n sa sc S pa pc P ho
  by_cases k5 : kind = 5
  · subst k5; exact does_load h at_ n sa sc S pa pc P ho
  exact does_other h kind ⟨k0, k1, k2, k3, k4, k5⟩ at_ n sa sc S pa pc P ho
end Go.Proofs.Ytcgekooahahjpaa
