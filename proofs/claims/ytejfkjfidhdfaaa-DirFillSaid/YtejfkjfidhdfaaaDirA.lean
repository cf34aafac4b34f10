/- The places of a name: the iterator. -/
import Derived.Test.YtejfkjfidhdfaaaLayA
import Derived.Test.YtejfkjfidhdfaaaHashA
namespace Go.Proofs.Ytejfkjfidhdfaaa
open Go.RowKit
set_option linter.unusedSimpArgs false
set_option linter.unusedVariables false
attribute [local go_sem] Oper.semAt_some

/-- the places of a name, in their order -/
def placesP (f : Nat) : List Nat := (List.range 16).map fun i => (f + i) % 16
theorem placesP_len (f : Nat) : (placesP f).length = 16 := by simp [placesP]
theorem placesP_get (f : Nat) {i : Nat} (h : i < 16) : (placesP f)[i]? = some ((f + i) % 16) := by simp [placesP, h]
theorem placesP_snoc (f : Nat) {i : Nat} (h : i < 16) : (placesP f).take (i + 1) = (placesP f).take i ++ [(f + i) % 16] := by
  rw [List.take_add_one, placesP_get f h]; rfl
theorem placesP_lt (f : Nat) : ∀ x ∈ placesP f, x < 16 := by
  intro x hx
  simp only [placesP, List.mem_map] at hx
  obtain ⟨i, _, rfl⟩ := hx
  exact Nat.mod_lt _ (by omega)

set_option maxHeartbeats 2000000 in
theorem places_seq (n : Nat) (w0 : World) (s : ByteArray) (hs : s.size ≤ 1000) (B : Nat) (hB : Blk w0 B 9 [.string s]) :
    SeqC Fence.wide n Try.prog 39 #[.pointer (some ⟨B, 0, none⟩)] (fun x : Nat => #[.int .i64 (x : Int)]) (fun xs => xs = placesP (hashF s.data.toList)) (fun q => q <+: placesP (hashF s.data.toList)) 16 w0 := by
  have hd : Fence.wide.depth = none := rfl
  intro l J Jx W hW hJ hJx hY0 h0
  have hdd : ∀ k : Nat, (Fence.wide.depth.isSome = true → 1 ≤ k) := fun k h => by rw [hd] at h; cases h
  have hY : ∀ (m : Nat) (pre : List Nat) (x : Nat) (W1 : World), J pre W1 → pre.length < 16 → pre ++ [x] <+: placesP (hashF s.data.toList) → YieldAt Fence.wide m Try.prog l #[.int .i64 (x : Int)] W1 fun e W' =>
    (e = .returned (.bool true) ∧ J (pre ++ [x]) W' ∧ KeepUp W.heap.size W1 W') ∨ (e = .returned (.bool false) ∧ Jx (pre ++ [x]) W') := fun m pre x W1 a b c => yieldAt_anyC hd m (hY0 pre x W1 a b c)
  have c0 : W.cell? ⟨B, 0, none⟩ = some (.string s) := ((hB.mono hW).cell (i := 0) (by simp))
  have HC := hid (fun w1 => (callsIn_wide (n := n - 1)).2 (hash_any s hs w1))
  have hf := hashF_lt s.data.toList
  generalize hashF s.data.toList = f at *
  have HY := hid hY; have H0 := hid h0
  clear hY hY0 h0 hW hB hJ hJx
  refine callsIn_of_wp Try.func39 rfl trivial ?_ rfl
  simp only [Try.ntmps39, List.size_toArray, List.length_cons, List.length_nil, Nat.reduceAdd, Nat.reduceSub, Array.replicate_succ, Array.replicate_zero, List.push_toArray, List.append_toArray, List.nil_append, List.cons_append]
  gi_wp2_with ((try refine ⟨hdd _, ?_⟩); (try refine ⟨trivial, ?_⟩); gi_at_call 40; refine (HC.out _).mono ?_; rintro e W1 ⟨rfl, rfl⟩)
  gi_loopw [7] (fun i wr => ∃ j : Nat, j ≤ 16 ∧ i = .int .i64 j ∧ J ((placesP f).take j) wr) (fun i _ => 16 - (intOf i).toNat)
  case atStart => exact ⟨0, by omega, rfl, by simpa using H0.out⟩
  case round =>
    obtain ⟨j, hj, rfl, hJw⟩ := hrel
    by_cases hjc : j < 16
    · have dj : decide ((j : Int) < 16) = true := decide_eq_true (by omega)
      have ij : (j : Int) < 16 := by omega
      obtain ⟨fn, tmps, assign, body, hy, hR⟩ := HY.out (n - 1) ((placesP f).take j) ((f + j) % 16) wr hJw (by rw [List.length_take, placesP_len]; omega) (by rw [← placesP_snoc f hjc]; exact List.take_prefix _ _)
      rw [← placesP_snoc f hjc] at hR
      have hq : (f + j) % 16 < 16 := Nat.mod_lt _ (by omega)
      have e1 : IntKind.i64.wrap ((f : Int) + j) = f + j := IntWalk.i64_in _ (by omega)
      have e2 : ((f : Int) + j).tmod 16 = (((f + j) % 16 : Nat) : Int) := by rw [show (f : Int) + j = ((f + j : Nat) : Int) by omega]; rfl
      have HPr : Hid ((placesP f).take (j + 1) <+: placesP f) := List.take_prefix _ _
      generalize (f + j) % 16 = q at *
      have e3 : IntKind.i64.wrap (q : Int) = q := IntWalk.i64_in _ (by omega)
      have HR := hid hR
      clear hR hJw
      gi_wp2
      refine HR.out.mono ?_
      rintro e W3 (⟨rfl, hJ3, hk3⟩ | ⟨rfl, hJx3⟩)
      · have HJ3 := hid hJ3
        clear hJ3 hk3
        gi_wp2
        go_roundw
        case rel => exact ⟨j + 1, by omega, by go_num, HJ3.out⟩
        case measure => simp [intOf]; omega
      · have HJX := hid hJx3
        clear hJx3
        gi_wp2
        (try simp only [Exit.inBlock, Exit.then]); refine bodyPost_ret (results_none rfl _ _ _) rfl ?_
        exact ⟨⟨_, rfl⟩, .inr ⟨_, HPr.out, HJX.out⟩⟩
    · obtain rfl : j = 16 := by omega
      have HJ := hid hJw
      clear hJw
      gi_wp2
      go_end0
      exact ⟨⟨_, rfl⟩, .inl ⟨_, rfl, by have := HJ.out; rwa [List.take_of_length_le (by rw [placesP_len]; omega)] at this⟩⟩
end Go.Proofs.Ytejfkjfidhdfaaa
