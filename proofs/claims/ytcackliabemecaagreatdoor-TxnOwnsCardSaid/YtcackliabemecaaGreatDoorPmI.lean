/- The units that some bytes touch: the iterator. -/
import Derived.Test.YtcackliabemecaaGreatDoorPmMb
import Derived.Test.YtcackliabemecaaGreatDoorLayA
import Derived.Test.YtcackliabemecaaGreatDoorLibK
namespace Go.Proofs.YtcackliabemecaaGreatDoor
open Go.RowKit
set_option linter.unusedSimpArgs false
set_option linter.unusedVariables false
set_option maxRecDepth 100000
attribute [local go_sem] Oper.semAt_some

def touchN (at_ m s : Nat) : Nat := if m = 0 then 0 else (at_ + m - 1) / s + 1 - at_ / s
/-- the units of s bytes that m bytes from at on touch -/
def touchL (at_ m s : Nat) : List Nat := List.range' (at_ / s) (touchN at_ m s)
theorem touchL_len (at_ m s : Nat) : (touchL at_ m s).length = touchN at_ m s := by simp [touchL]
theorem touchL_snoc (at_ m s : Nat) {j : Nat} (h : j < touchN at_ m s) : (touchL at_ m s).take (j + 1) = (touchL at_ m s).take j ++ [at_ / s + j] := by
  rw [List.take_add_one]
  have : (touchL at_ m s)[j]? = some (at_ / s + j) := by simp [touchL, h]
  rw [this]; rfl
theorem touchN_iff (at_ m s j : Nat) (hs : s = 8 ∨ s = 64) (hm : 0 < m) : j < touchN at_ m s ↔ (at_ / s + j) * s < at_ + m := by
  unfold touchN
  rw [if_neg (by omega)]
  rcases hs with rfl | rfl <;> omega
theorem touchL_mem (at_ m s k : Nat) (hs : s = 8 ∨ s = 64) : k ∈ touchL at_ m s ↔ inT at_ m s k = true := by
  unfold touchL inT
  simp only [List.mem_range'_1, decide_eq_true_eq]
  unfold touchN
  by_cases h : m = 0
  · rw [if_pos h]; subst h; omega
  · rw [if_neg h]
    rcases hs with rfl | rfl <;> omega

theorem skipK {F : Fence} {p : Prop} (h : p) : (∀ f, (none : Option FuncId) = some f → F.fn f) ∧ p := ⟨fun _ h => (by cases h), h⟩
/-- the cells that the iterator captured -/
def CapT (Bn Ba Bs : Nat) (at_ m s : Nat) (w : World) : Prop := Blk w Bn 3 [.int .i64 (m : Int)] ∧ Blk w Ba 3 [.int .i64 (at_ : Int)] ∧ Blk w Bs 3 [.int .i64 (s : Int)]
theorem CapT.mono {Bn Ba Bs at_ m s : Nat} {w w' : World} (h : CapT Bn Ba Bs at_ m s w) (b : Below w.heap.size w w') : CapT Bn Ba Bs at_ m s w' := ⟨h.1.mono b, h.2.1.mono b, h.2.2.mono b⟩
theorem CapT.cells {Bn Ba Bs at_ m s : Nat} {w : World} (h : CapT Bn Ba Bs at_ m s w) : w.cell? ⟨Bn, 0, none⟩ = some (.int .i64 (m : Int)) ∧ w.cell? ⟨Ba, 0, none⟩ = some (.int .i64 (at_ : Int)) ∧ w.cell? ⟨Bs, 0, none⟩ = some (.int .i64 (s : Int)) :=
  ⟨h.1.cell (i := 0) (by simp), h.2.1.cell (i := 0) (by simp), h.2.2.cell (i := 0) (by simp)⟩

set_option maxHeartbeats 2000000 in
theorem touched_seq (n : Nat) (w0 : World) (at_ m s : Nat) (hs : s = 8 ∨ s = 64) (ha : at_ ≤ 2000000) (hm : m ≤ 2000000) (Bn Ba Bs : Nat) (N : Nat) (hN : touchN at_ m s ≤ N) :
    SeqK Fence.wide n Tryz.prog 60 #[.pointer (some ⟨Bn, 0, none⟩), .pointer (some ⟨Ba, 0, none⟩), .pointer (some ⟨Bs, 0, none⟩)] (fun x : Nat => #[.int .i64 (x : Int)]) (fun xs => xs = touchL at_ m s) (fun q => q <+: touchL at_ m s) N w0 (CapT Bn Ba Bs at_ m s) := by
  have hd : Fence.wide.depth = none := rfl
  intro l J Jx W hW hJ hJx hC hY0 h0
  have hdd : ∀ k : Nat, (Fence.wide.depth.isSome = true → 1 ≤ k) := fun k h => by rw [hd] at h; cases h
  have hY : ∀ (k : Nat) (pre : List Nat) (x : Nat) (W1 : World), J pre W1 → pre.length < N → pre ++ [x] <+: touchL at_ m s → YieldAt Fence.wide k Tryz.prog l #[.int .i64 (x : Int)] W1 fun e W' =>
    (e = .returned (.bool true) ∧ J (pre ++ [x]) W' ∧ KeepUp W.heap.size W1 W') ∨ (e = .returned (.bool false) ∧ Jx (pre ++ [x]) W') := fun k pre x W1 a b c => yieldAt_anyC hd k (hY0 pre x W1 a b c)
  obtain ⟨c1, c2, c3⟩ := (hC _ _ h0).cells
  have HC := hid hC; have HY := hid hY; have H0 := hid h0
  clear hY hY0 h0 hW hJ hJx hC
  by_cases hm0 : m = 0
  · subst hm0
    have hz : touchL at_ 0 s = [] := rfl
    rw [hz]
    clear hN hs
    refine callsIn_of_wp Tryz.func60 rfl trivial ?_ rfl
    simp only [Tryz.ntmps60, List.size_toArray, List.length_cons, List.length_nil, Nat.reduceAdd, Nat.reduceSub, Array.replicate_succ, Array.replicate_zero, List.push_toArray, List.append_toArray, List.nil_append, List.cons_append]
    gi_wp2
    (try simp only [Exit.inBlock, Exit.then]); refine bodyPost_ret (results_none rfl _ _ _) rfl ?_
    exact ⟨⟨_, rfl⟩, .inl ⟨_, rfl, H0.out⟩⟩
  · have hmi : ¬ ((m : Int) = 0) := by omega
    have hiff := fun j => touchN_iff at_ m s j hs (by omega)
    have hsn := fun j hj => touchL_snoc at_ m s (j := j) hj
    have hlen := touchL_len at_ m s
    have hfull : (touchL at_ m s).take (touchN at_ m s) = touchL at_ m s := List.take_of_length_le (by rw [hlen]; exact Nat.le_refl _)
    have hq0 : (at_ : Int).tdiv (s : Int) = ((at_ / s : Nat) : Int) := rfl
    have hq1 : at_ / s ≤ at_ := Nat.div_le_self _ _
    have hb : touchN at_ m s ≤ at_ + m + 1 := by
      unfold touchN; rw [if_neg hm0]
      rcases hs with rfl | rfl <;> omega
    have hs0 : ¬ ((s : Int) = 0) := by rcases hs with rfl | rfl <;> simp
    have hs64 : s ≤ 64 := by omega
    have e9 : IntKind.i64.wrap ((at_ : Int) + (m : Int)) = (at_ : Int) + m := IntWalk.i64_in _ (by omega)
    have HIF := hid hiff; have HSN := hid hsn; have HL := hid hlen; have HF := hid hfull
    clear hiff hsn hlen hfull
    generalize touchL at_ m s = TL at *
    generalize touchN at_ m s = T at *
    generalize at_ / s = q at *
    have hmb : ((m : Int) == 0) = false := by simpa using hmi
    have e0 : IntKind.i64.wrap (q : Int) = (q : Int) := IntWalk.i64_in _ (by omega)
    refine callsIn_of_wp Tryz.func60 rfl trivial ?_ rfl
    simp only [Tryz.ntmps60, List.size_toArray, List.length_cons, List.length_nil, Nat.reduceAdd, Nat.reduceSub, Array.replicate_succ, Array.replicate_zero, List.push_toArray, List.append_toArray, List.nil_append, List.cons_append]
    gi_wp2
    gi_loopw [5] (fun i wr => ∃ j : Nat, j ≤ T ∧ i = .int .i64 (q + j : Nat) ∧ J (TL.take j) wr) (fun i _ => q + T - (intOf i).toNat)
    case atStart => exact ⟨0, by omega, rfl, by simpa using H0.out⟩
    case round =>
      obtain ⟨j, hj, rfl, hJw⟩ := hrel
      obtain ⟨d1, d2, d3⟩ := (HC.out _ _ hJw).cells
      have hmul : (q + j) * s ≤ (q + j) * 64 := Nat.mul_le_mul_left _ hs64
      have em : IntKind.i64.wrap (((q + j : Nat) : Int) * (s : Int)) = (((q + j) * s : Nat) : Int) := by
        rw [IntWalk.i64_in _ (by rw [← Int.natCast_mul]; omega)]; rw [Int.natCast_mul]
      have hx := HIF.out j
      by_cases hjc : j < T
      · have hlt := hx.1 hjc
        obtain ⟨fn, tmps, assign, body, hy, hR⟩ := HY.out (n - 1) (TL.take j) (q + j) wr hJw (by rw [List.length_take, HL.out]; omega) (by rw [← HSN.out j hjc]; exact List.take_prefix _ _)
        rw [← HSN.out j hjc] at hR
        have HPr : Hid (TL.take (j + 1) <+: TL) := List.take_prefix _ _
        generalize hQ : (q + j) * s = Q at *
        generalize hk : q + j = k at *
        have HK := hid hk
        have il : (Q : Int) < (at_ : Int) + m := by omega
        have e3 : IntKind.i64.wrap ((k : Int) + 1) = (k : Int) + 1 := IntWalk.i64_in _ (by omega)
        have HR := hid hR
        clear hR hJw hx hk
        gi_wp2
        refine HR.out.mono ?_
        rintro e W3 (⟨rfl, hJ3, hk3⟩ | ⟨rfl, hJx3⟩)
        · have HJ3 := hid hJ3
          clear hJ3 hk3
          gi_wp2
          go_roundw
          case rel => exact ⟨j + 1, by omega, by have := HK.out; go_num, HJ3.out⟩
          case measure => have := HK.out; simp [intOf]; omega
        · have HJX := hid hJx3
          clear hJx3
          gi_wp2
          go_end0
          exact ⟨⟨_, rfl⟩, .inr ⟨_, HPr.out, HJX.out⟩⟩
      · have hge : ¬ ((q + j) * s < at_ + m) := fun h => hjc (hx.2 h)
        obtain rfl : j = T := by omega
        have HJ := hid hJw
        generalize hQ : (q + j) * s = Q at *
        generalize hk : q + j = k at *
        have il : ¬ ((Q : Int) < (at_ : Int) + m) := by omega
        clear hJw hx
        gi_wp2
        refine skipK ?_
        gi_wp2
        go_end0
        exact ⟨⟨_, rfl⟩, .inl ⟨_, rfl, by have := HJ.out; rwa [HF.out] at this⟩⟩

theorem touched_any (at_ m s : Nat) (w : World) : Calls Tryz.prog 44 #[.int .i64 (at_ : Int), .int .i64 (m : Int), .int .i64 (s : Int)] w fun e w' =>
    e = .returned (.func (.func 60) #[] #[.pointer (some ⟨w.heap.size + 1, 0, none⟩), .pointer (some ⟨w.heap.size, 0, none⟩), .pointer (some ⟨w.heap.size + 1 + 1, 0, none⟩)]) ∧ CapT (w.heap.size + 1) w.heap.size (w.heap.size + 1 + 1) at_ m s w' ∧ Below w.heap.size w w' ∧ w'.heap.size = w.heap.size + 3 := by
  have K1 := hid (blk_newO (W := w) rfl 3 [.int .i64 (at_ : Int)])
  have K2 := hid (blk_newO (W := w.alloc (.cells #[.int .i64 (at_ : Int)] 3)) (n := w.heap.size + 1) (by simp) 3 [.int .i64 (m : Int)])
  have K3 := hid (blk_newO (W := (w.alloc (.cells #[.int .i64 (at_ : Int)] 3)).alloc (.cells #[.int .i64 (m : Int)] 3)) (n := w.heap.size + 1 + 1) (by simp) 3 [.int .i64 (s : Int)])
  go_enter Tryz.func44, Tryz.ntmps44
  go_wp2
  go_ret
  exact ⟨rfl, ⟨K2.out.mono (albO _ _), (K1.out.mono (albO _ _)).mono (albO _ _), K3.out⟩, kept_alloc (kept_alloc (albO _ _) _) _, by simp⟩
theorem cellsOf_any (k : Nat) (hk : k ≤ 100000) (w : World) : Calls Tryz.prog 82 #[.int .i64 (k : Int)] w fun e w' =>
    e = .returned (.func (.func 60) #[] #[.pointer (some ⟨w.heap.size + 1, 0, none⟩), .pointer (some ⟨w.heap.size, 0, none⟩), .pointer (some ⟨w.heap.size + 1 + 1, 0, none⟩)]) ∧ CapT (w.heap.size + 1) w.heap.size (w.heap.size + 1 + 1) (64 * k) 64 8 w' ∧ Below w.heap.size w w' ∧ w'.heap.size = w.heap.size + 3 := by
  have e1 : IntKind.i64.wrap ((k : Int) * 64) = ((64 * k : Nat) : Int) := by rw [IntWalk.i64_in _ (by omega)]; omega
  have HT := hid (touched_any (64 * k) 64 8 w)
  generalize 64 * k = q at *
  go_enter Tryz.func82, Tryz.ntmps82
  go_wp2_with (go_at_call 44; refine HT.out.mono ?_; rintro e w1 ⟨rfl, k1, b1, s1⟩; have K1 := hid k1; have B1 := hid b1; have S1 := hid s1; clear k1 b1 s1)
  go_ret
  exact ⟨rfl, K1.out, B1.out, S1.out⟩
end Go.Proofs.YtcackliabemecaaGreatDoor
