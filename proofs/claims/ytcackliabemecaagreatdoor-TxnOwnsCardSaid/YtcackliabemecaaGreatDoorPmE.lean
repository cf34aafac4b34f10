/- A memory made. (genPmE.py) -/
import Derived.Test.YtcackliabemecaaGreatDoorPmMa
namespace Go.Proofs.YtcackliabemecaaGreatDoor
open Go.RowKit
set_option linter.unusedSimpArgs false
set_option linter.unusedVariables false
set_option maxRecDepth 100000

/-- 'make([]T, n)' at the operation itself -/
theorem wpo_make {P : Program} {w : World} {o : Oper} {act : Act} {K : Act → World → Prop} {Q : Exit → Act → World → Prop} (l c : Operand) {t e : TypeId} {bytes : Nat} {z : Value}
    (ho : o.op = Op.makeSlice t l c) (under : P.underlying t = some (.slice e)) (hinfo : (P.info? e).map (fun i => (i.zero, i.size, i.bytes)) = some (some z, 1, bytes)) (hz : z.cells = #[z])
    {kl kc : IntKind} {L C : Int} {n : Nat} (hl : act.eval l = .int kl L) (hc : act.eval c = .int kc C) (hL : L = (n : Int)) (hC : C = (n : Int)) (hb : bytes * n ≤ 281474976710656) (hn : n ≤ 9223372036854775807)
    (h : ∀ w', Blk w' w.heap.size e (List.replicate n z) → Below w.heap.size w w' → K (act.put o.dst (.slice (some ⟨w.heap.size, 0, none⟩) n n)) w') :
    o.wp P act w K Q := by
  obtain ⟨i, h0, h1, h2, h3⟩ := info_parts hinfo
  obtain ⟨w', hrun, r1, r2⟩ := run_make_full (P := P) w w.heap.size t e i z 1 under h0 h1 h2 kl kc n (by rw [h3]; exact hb) (by unfold maxLen; omega) (Nat.le_refl _)
  subst hL
  subst hC
  unfold Oper.wp
  simp [execOp, ho, hl, hc, hrun, Result.andThen]
  refine h w' ?_ ((Below.refl _ w).grown r2 (Nat.le_refl _) (fun k hk => by cases hk))
  obtain ⟨K', hK, hlen, _, htake, _⟩ := Own.blk (show Own w' w.heap.size e 1 (some ⟨w.heap.size, 0, none⟩) n n _ from r1)
  have : K' = (madeCells z.cells (n * 1)).toList := by
    rw [← htake, List.take_of_length_le (by rw [hlen]; exact Nat.le_refl _)]
  rw [this] at hK
  have e2 : (madeCells z.cells (n * 1)).toList = List.replicate n z := by
    rw [hz]
    apply List.ext_getElem
    · simp [madeCells]
    · intro i h1 h2
      simp [madeCells, Nat.mod_one]
  rwa [e2] at hK
theorem wpo_makeMap {w : World} {o : Oper} {act : Act} {K : Act → World → Prop} {Q : Exit → Act → World → Prop} {t : TypeId} (ho : o.op = Op.makeMap t none) (m : Nat)
    (h : ∀ w', PendP w' w.heap.size (tabF m fun _ => false) → Below w.heap.size w w' → K (act.put o.dst (.map (some w.heap.size))) w') : o.wp Tryz.prog act w K Q := by
  unfold Oper.wp
  simp [execOp, ho, run_makeMap, Result.andThen]
  exact h _ (PendP.made w m) (albO w _)

def validM (n : Int) : Prop := 64 ≤ n ∧ n ≤ 1048576 ∧ n % 64 = 0
instance (n : Int) : Decidable (validM n) := by unfold validM; infer_instance
def newM (n : Nat) : MemM := ⟨List.replicate n 0, List.replicate n 0, tabF (n / 8) fun _ => false⟩
theorem newM_ok {n : Nat} (h : validM n) : (newM n).ok := by
  obtain ⟨h1, h2, h3⟩ := h
  have e1 : (newM n).V.length = n := List.length_replicate
  have e2 : (newM n).D.length = n := List.length_replicate
  have e3 : (newM n).A.length = n / 8 := tabF_len _ _
  unfold MemM.ok
  rw [e1, e2, e3]
  omega
/-- what New tells -/
def NewP (w : World) (n : Int) (e : Ending) (w' : World) : Prop :=
  if validM n then ∃ g v d p, e = .returned (.pointer (some ⟨g, 0, none⟩)) ∧ MemP w' g v d p (newM n.toNat) ∧ (w.heap.size ≤ g ∧ w.heap.size ≤ v ∧ w.heap.size ≤ d ∧ w.heap.size ≤ p) ∧ Below w.heap.size w w' else e = .returned (.pointer none) ∧ w = w'
theorem rep_map (n : Nat) : List.replicate n (Value.int .u8 0) = (List.replicate n (0 : UInt8)).map byteV := by simp [byteV]
theorem new_end {w W : World} {n : Nat} {e : Ending} {v d p : Nat} (he : e = .returned (.pointer (some ⟨W.heap.size, 0, none⟩))) (hn : validM (n : Int)) (hb : Below w.heap.size w W)
    (h1 : Blk W v 5 (List.replicate n (.int .u8 0))) (h3 : Blk W d 5 (List.replicate n (.int .u8 0))) (h4 : PendP W p (tabF (n / 8) fun _ => false)) (hne : v ≠ d) (n1 : w.heap.size ≤ v) (n3 : w.heap.size ≤ d) (n4 : w.heap.size ≤ p) :
    NewP w (n : Int) e (W.alloc (.cells #[.slice (some ⟨v, 0, none⟩) n n, .slice (some ⟨d, 0, none⟩) n n, .map (some p)] 67)) := by
  unfold NewP
  rw [if_pos hn]
  refine ⟨W.heap.size, v, d, p, he, ⟨newM_ok hn, hne, ?_, ?_, ?_, ?_⟩, ⟨hb.size, n1, n3, n4⟩, kept_alloc hb _⟩
  · simp only [newM, List.length_replicate, Int.toNat_natCast]
    exact blk_newO rfl _ _
  · rw [rep_map] at h1; exact h1.mono (albO W _)
  · rw [rep_map] at h3; exact h3.mono (albO W _)
  · exact (Turns.of_below (X := fun _ => False) (albO W _)).pend h4 (by simp)

set_option maxHeartbeats 4000000 in
theorem newM_any (n : Int) (w : World) (hn : -9223372036854775808 ≤ n ∧ n ≤ 9223372036854775807) : Calls Tryz.prog 16 #[.int .i64 n] w (NewP w n) := by
  by_cases h : validM n
  · obtain ⟨n, rfl⟩ : ∃ m : Nat, n = (m : Int) := ⟨n.toNat, by have := h.1; omega⟩
    have HN := hid h
    obtain ⟨h1, h2, h3⟩ := h
    have d1 : decide ((n : Int) < 64) = false := decide_eq_false (by omega)
    have d2 : decide (1048576 < (n : Int)) = false := decide_eq_false (by omega)
    have e1 : (n : Int).tmod 64 = 0 := by rw [Int.tmod_eq_emod_of_nonneg (by omega)]; exact h3
    obtain ⟨W0, hW0⟩ : ∃ W0, W0 = w.drew := ⟨_, rfl⟩
    have BW0 := hid (show Below w.heap.size w W0 by rw [hW0]; exact (Below.refl _ w).drew)
    clear h3
    have hz : IntKind.i64.wrap 0 = 0 := rfl
    go_enter Tryz.func16, Tryz.ntmps16
    go_wp2_with fail
    refine wp_region_held_drew (S := fun _ => True) (by kernel_rfl) trivial (fun hS_0 => ?_)
    rw [← hW0]
    clear hW0
    refine takeR (i := 0) (v := .int .i64 (n : Int)) rfl rfl (by kernel_rfl) (by kernel_rfl) (by kernel_rfl) (fun _ _ _ h => h) (Or.inl ⟨Eq.refl true, fun w1 hSw => ?_⟩) hS_0 ?_
    · first | rfl | (clear hSw; go_simp; done) | (clear hSw; go_simp; rfl)
    (try simp only [Act.put, List.setIfInBounds_toArray, List.set_cons_zero, List.set_cons_succ])
    refine takeR (i := 2) (v := .int .i64 (n : Int)) rfl rfl (by kernel_rfl) (by kernel_rfl) (by kernel_rfl) (fun _ _ _ h => h) (Or.inl ⟨Eq.refl true, fun w1 hSw => ?_⟩) hS_0 ?_
    · first | rfl | (clear hSw; go_simp; done) | (clear hSw; go_simp; rfl)
    (try simp only [Act.put, List.setIfInBounds_toArray, List.set_cons_zero, List.set_cons_succ])
    refine wpAnyH_ready (rs := [1, 3, 4]) (by kernel_rfl) (by simp) ?_
    refine AllReadyH.cons rfl (fun K hK => ?_) ?_
    · refine if_wanted (Eq.refl true) ?_
      refine wpo_make (.tmp 14) (.tmp 14) rfl Tryz.underlying26 (bytes := 1) (z := .int .u8 0) (by kernel_rfl) rfl rfl rfl rfl rfl (by omega) (by omega) ?_; intro X1 f b
      have F1 := hid f
      have N1 := hid (show w.heap.size ≤ W0.heap.size from BW0.out.size)
      have BX1 := hid (kept_trans BW0.out b)
      refine hK.out _ _ trivial (fun hS_1 => ?_)
      clear hK K f b
      (try simp only [Act.put, List.setIfInBounds_toArray, List.set_cons_zero, List.set_cons_succ])
      refine wpAnyH_ready (rs := [3, 4]) (by kernel_rfl) (by simp) ?_
      refine AllReadyH.cons rfl (fun K hK => ?_) ?_
      · refine if_wanted (Eq.refl true) ?_
        refine wpo_make (.tmp 16) (.tmp 16) rfl Tryz.underlying26 (bytes := 1) (z := .int .u8 0) (by kernel_rfl) rfl rfl rfl rfl rfl (by omega) (by omega) ?_; intro X13 f b
        have F3 := hid f
        have N3 := hid (show w.heap.size ≤ X1.heap.size from BX1.out.size)
        have NE := hid (Nat.ne_of_lt F1.out.lt)
        have F1 := hid (F1.out.mono b)
        have BX13 := hid (kept_trans BX1.out b)
        refine hK.out _ _ trivial (fun hS_2 => ?_)
        clear hK K f b
        (try simp only [Act.put, List.setIfInBounds_toArray, List.set_cons_zero, List.set_cons_succ])
        refine wpAnyH_ready (rs := [4]) (by kernel_rfl) (by simp) ?_
        refine AllReadyH.cons rfl (fun K hK => ?_) ?_
        · refine if_wanted (Eq.refl true) ?_
          refine wpo_makeMap rfl (n / 8) ?_; intro X134 f b
          have F4 := hid f
          have N4 := hid (show w.heap.size ≤ X13.heap.size from BX13.out.size)
          have F1 := hid (F1.out.mono b)
          have F3 := hid (F3.out.mono b)
          have BX134 := hid (kept_trans BX13.out b)
          refine hK.out _ _ trivial (fun hS_3 => ?_)
          clear hK K f b
          (try simp only [Act.put, List.setIfInBounds_toArray, List.set_cons_zero, List.set_cons_succ])
          refine takeR (i := 5) (v := .agg #[.slice (some ⟨W0.heap.size, 0, none⟩) n n, .slice (some ⟨X1.heap.size, 0, none⟩) n n, .map (some X13.heap.size)]) rfl rfl (by kernel_rfl) (by kernel_rfl) (by kernel_rfl) (fun _ _ _ h => h) (Or.inl ⟨Eq.refl true, fun w1 hSw => ?_⟩) hS_3 ?_
          · first | rfl | (clear hSw; go_simp; done) | (clear hSw; go_simp; rfl)
          (try simp only [Act.put, List.setIfInBounds_toArray, List.set_cons_zero, List.set_cons_succ])
          refine wpAnyH_ready (rs := [6]) (by kernel_rfl) (by simp) (AllReadyH.cons rfl (fun K hK => ?_) AllReadyH.nil)
          go_simp
          refine hK.out _ _ trivial (fun hS_9 => ?_)
          clear hK K
          refine takeR (i := 7) (v := .pointer (some ⟨X134.heap.size, 0, none⟩)) rfl rfl (by kernel_rfl) (by kernel_rfl) (by kernel_rfl) (fun _ _ _ h => h) (Or.inl ⟨Eq.refl true, fun w1 hSw => ?_⟩) hS_9 ?_
          · first | rfl | (clear hSw; go_simp; done) | (clear hSw; go_simp; rfl)
          (try simp only [Act.put, List.setIfInBounds_toArray, List.set_cons_zero, List.set_cons_succ])
          refine wpAnyH_done (by kernel_rfl) ?_ _
          go_wp2_with fail
          go_ret
          exact new_end rfl HN.out BX134.out F1.out F3.out F4.out NE.out N1.out N3.out N4.out
        exact AllReadyH.nil
      refine AllReadyH.cons rfl (fun K hK => ?_) ?_
      · refine if_wanted (Eq.refl true) ?_
        refine wpo_makeMap rfl (n / 8) ?_; intro X14 f b
        have F4 := hid f
        have N4 := hid (show w.heap.size ≤ X1.heap.size from BX1.out.size)
        have F1 := hid (F1.out.mono b)
        have BX14 := hid (kept_trans BX1.out b)
        refine hK.out _ _ trivial (fun hS_2 => ?_)
        clear hK K f b
        (try simp only [Act.put, List.setIfInBounds_toArray, List.set_cons_zero, List.set_cons_succ])
        refine wpAnyH_ready (rs := [3]) (by kernel_rfl) (by simp) ?_
        refine AllReadyH.cons rfl (fun K hK => ?_) ?_
        · refine if_wanted (Eq.refl true) ?_
          refine wpo_make (.tmp 16) (.tmp 16) rfl Tryz.underlying26 (bytes := 1) (z := .int .u8 0) (by kernel_rfl) rfl rfl rfl rfl rfl (by omega) (by omega) ?_; intro X143 f b
          have F3 := hid f
          have N3 := hid (show w.heap.size ≤ X14.heap.size from BX14.out.size)
          have NE := hid (Nat.ne_of_lt F1.out.lt)
          have F1 := hid (F1.out.mono b)
          have F4 := hid ((Turns.of_below (X := fun _ => False) b).pend F4.out (by simp))
          have BX143 := hid (kept_trans BX14.out b)
          refine hK.out _ _ trivial (fun hS_3 => ?_)
          clear hK K f b
          (try simp only [Act.put, List.setIfInBounds_toArray, List.set_cons_zero, List.set_cons_succ])
          refine takeR (i := 5) (v := .agg #[.slice (some ⟨W0.heap.size, 0, none⟩) n n, .slice (some ⟨X14.heap.size, 0, none⟩) n n, .map (some X1.heap.size)]) rfl rfl (by kernel_rfl) (by kernel_rfl) (by kernel_rfl) (fun _ _ _ h => h) (Or.inl ⟨Eq.refl true, fun w1 hSw => ?_⟩) hS_3 ?_
          · first | rfl | (clear hSw; go_simp; done) | (clear hSw; go_simp; rfl)
          (try simp only [Act.put, List.setIfInBounds_toArray, List.set_cons_zero, List.set_cons_succ])
          refine wpAnyH_ready (rs := [6]) (by kernel_rfl) (by simp) (AllReadyH.cons rfl (fun K hK => ?_) AllReadyH.nil)
          go_simp
          refine hK.out _ _ trivial (fun hS_9 => ?_)
          clear hK K
          refine takeR (i := 7) (v := .pointer (some ⟨X143.heap.size, 0, none⟩)) rfl rfl (by kernel_rfl) (by kernel_rfl) (by kernel_rfl) (fun _ _ _ h => h) (Or.inl ⟨Eq.refl true, fun w1 hSw => ?_⟩) hS_9 ?_
          · first | rfl | (clear hSw; go_simp; done) | (clear hSw; go_simp; rfl)
          (try simp only [Act.put, List.setIfInBounds_toArray, List.set_cons_zero, List.set_cons_succ])
          refine wpAnyH_done (by kernel_rfl) ?_ _
          go_wp2_with fail
          go_ret
          exact new_end rfl HN.out BX143.out F1.out F3.out F4.out NE.out N1.out N3.out N4.out
        exact AllReadyH.nil
      exact AllReadyH.nil
    refine AllReadyH.cons rfl (fun K hK => ?_) ?_
    · refine if_wanted (Eq.refl true) ?_
      refine wpo_make (.tmp 16) (.tmp 16) rfl Tryz.underlying26 (bytes := 1) (z := .int .u8 0) (by kernel_rfl) rfl rfl rfl rfl rfl (by omega) (by omega) ?_; intro X3 f b
      have F3 := hid f
      have N3 := hid (show w.heap.size ≤ W0.heap.size from BW0.out.size)
      have BX3 := hid (kept_trans BW0.out b)
      refine hK.out _ _ trivial (fun hS_1 => ?_)
      clear hK K f b
      (try simp only [Act.put, List.setIfInBounds_toArray, List.set_cons_zero, List.set_cons_succ])
      refine wpAnyH_ready (rs := [1, 4]) (by kernel_rfl) (by simp) ?_
      refine AllReadyH.cons rfl (fun K hK => ?_) ?_
      · refine if_wanted (Eq.refl true) ?_
        refine wpo_make (.tmp 14) (.tmp 14) rfl Tryz.underlying26 (bytes := 1) (z := .int .u8 0) (by kernel_rfl) rfl rfl rfl rfl rfl (by omega) (by omega) ?_; intro X31 f b
        have F1 := hid f
        have N1 := hid (show w.heap.size ≤ X3.heap.size from BX3.out.size)
        have NE := hid (Nat.ne_of_lt F3.out.lt).symm
        have F3 := hid (F3.out.mono b)
        have BX31 := hid (kept_trans BX3.out b)
        refine hK.out _ _ trivial (fun hS_2 => ?_)
        clear hK K f b
        (try simp only [Act.put, List.setIfInBounds_toArray, List.set_cons_zero, List.set_cons_succ])
        refine wpAnyH_ready (rs := [4]) (by kernel_rfl) (by simp) ?_
        refine AllReadyH.cons rfl (fun K hK => ?_) ?_
        · refine if_wanted (Eq.refl true) ?_
          refine wpo_makeMap rfl (n / 8) ?_; intro X314 f b
          have F4 := hid f
          have N4 := hid (show w.heap.size ≤ X31.heap.size from BX31.out.size)
          have F3 := hid (F3.out.mono b)
          have F1 := hid (F1.out.mono b)
          have BX314 := hid (kept_trans BX31.out b)
          refine hK.out _ _ trivial (fun hS_3 => ?_)
          clear hK K f b
          (try simp only [Act.put, List.setIfInBounds_toArray, List.set_cons_zero, List.set_cons_succ])
          refine takeR (i := 5) (v := .agg #[.slice (some ⟨X3.heap.size, 0, none⟩) n n, .slice (some ⟨W0.heap.size, 0, none⟩) n n, .map (some X31.heap.size)]) rfl rfl (by kernel_rfl) (by kernel_rfl) (by kernel_rfl) (fun _ _ _ h => h) (Or.inl ⟨Eq.refl true, fun w1 hSw => ?_⟩) hS_3 ?_
          · first | rfl | (clear hSw; go_simp; done) | (clear hSw; go_simp; rfl)
          (try simp only [Act.put, List.setIfInBounds_toArray, List.set_cons_zero, List.set_cons_succ])
          refine wpAnyH_ready (rs := [6]) (by kernel_rfl) (by simp) (AllReadyH.cons rfl (fun K hK => ?_) AllReadyH.nil)
          go_simp
          refine hK.out _ _ trivial (fun hS_9 => ?_)
          clear hK K
          refine takeR (i := 7) (v := .pointer (some ⟨X314.heap.size, 0, none⟩)) rfl rfl (by kernel_rfl) (by kernel_rfl) (by kernel_rfl) (fun _ _ _ h => h) (Or.inl ⟨Eq.refl true, fun w1 hSw => ?_⟩) hS_9 ?_
          · first | rfl | (clear hSw; go_simp; done) | (clear hSw; go_simp; rfl)
          (try simp only [Act.put, List.setIfInBounds_toArray, List.set_cons_zero, List.set_cons_succ])
          refine wpAnyH_done (by kernel_rfl) ?_ _
          go_wp2_with fail
          go_ret
          exact new_end rfl HN.out BX314.out F1.out F3.out F4.out NE.out N1.out N3.out N4.out
        exact AllReadyH.nil
      refine AllReadyH.cons rfl (fun K hK => ?_) ?_
      · refine if_wanted (Eq.refl true) ?_
        refine wpo_makeMap rfl (n / 8) ?_; intro X34 f b
        have F4 := hid f
        have N4 := hid (show w.heap.size ≤ X3.heap.size from BX3.out.size)
        have F3 := hid (F3.out.mono b)
        have BX34 := hid (kept_trans BX3.out b)
        refine hK.out _ _ trivial (fun hS_2 => ?_)
        clear hK K f b
        (try simp only [Act.put, List.setIfInBounds_toArray, List.set_cons_zero, List.set_cons_succ])
        refine wpAnyH_ready (rs := [1]) (by kernel_rfl) (by simp) ?_
        refine AllReadyH.cons rfl (fun K hK => ?_) ?_
        · refine if_wanted (Eq.refl true) ?_
          refine wpo_make (.tmp 14) (.tmp 14) rfl Tryz.underlying26 (bytes := 1) (z := .int .u8 0) (by kernel_rfl) rfl rfl rfl rfl rfl (by omega) (by omega) ?_; intro X341 f b
          have F1 := hid f
          have N1 := hid (show w.heap.size ≤ X34.heap.size from BX34.out.size)
          have NE := hid (Nat.ne_of_lt F3.out.lt).symm
          have F3 := hid (F3.out.mono b)
          have F4 := hid ((Turns.of_below (X := fun _ => False) b).pend F4.out (by simp))
          have BX341 := hid (kept_trans BX34.out b)
          refine hK.out _ _ trivial (fun hS_3 => ?_)
          clear hK K f b
          (try simp only [Act.put, List.setIfInBounds_toArray, List.set_cons_zero, List.set_cons_succ])
          refine takeR (i := 5) (v := .agg #[.slice (some ⟨X34.heap.size, 0, none⟩) n n, .slice (some ⟨W0.heap.size, 0, none⟩) n n, .map (some X3.heap.size)]) rfl rfl (by kernel_rfl) (by kernel_rfl) (by kernel_rfl) (fun _ _ _ h => h) (Or.inl ⟨Eq.refl true, fun w1 hSw => ?_⟩) hS_3 ?_
          · first | rfl | (clear hSw; go_simp; done) | (clear hSw; go_simp; rfl)
          (try simp only [Act.put, List.setIfInBounds_toArray, List.set_cons_zero, List.set_cons_succ])
          refine wpAnyH_ready (rs := [6]) (by kernel_rfl) (by simp) (AllReadyH.cons rfl (fun K hK => ?_) AllReadyH.nil)
          go_simp
          refine hK.out _ _ trivial (fun hS_9 => ?_)
          clear hK K
          refine takeR (i := 7) (v := .pointer (some ⟨X341.heap.size, 0, none⟩)) rfl rfl (by kernel_rfl) (by kernel_rfl) (by kernel_rfl) (fun _ _ _ h => h) (Or.inl ⟨Eq.refl true, fun w1 hSw => ?_⟩) hS_9 ?_
          · first | rfl | (clear hSw; go_simp; done) | (clear hSw; go_simp; rfl)
          (try simp only [Act.put, List.setIfInBounds_toArray, List.set_cons_zero, List.set_cons_succ])
          refine wpAnyH_done (by kernel_rfl) ?_ _
          go_wp2_with fail
          go_ret
          exact new_end rfl HN.out BX341.out F1.out F3.out F4.out NE.out N1.out N3.out N4.out
        exact AllReadyH.nil
      exact AllReadyH.nil
    refine AllReadyH.cons rfl (fun K hK => ?_) ?_
    · refine if_wanted (Eq.refl true) ?_
      refine wpo_makeMap rfl (n / 8) ?_; intro X4 f b
      have F4 := hid f
      have N4 := hid (show w.heap.size ≤ W0.heap.size from BW0.out.size)
      have BX4 := hid (kept_trans BW0.out b)
      refine hK.out _ _ trivial (fun hS_1 => ?_)
      clear hK K f b
      (try simp only [Act.put, List.setIfInBounds_toArray, List.set_cons_zero, List.set_cons_succ])
      refine wpAnyH_ready (rs := [1, 3]) (by kernel_rfl) (by simp) ?_
      refine AllReadyH.cons rfl (fun K hK => ?_) ?_
      · refine if_wanted (Eq.refl true) ?_
        refine wpo_make (.tmp 14) (.tmp 14) rfl Tryz.underlying26 (bytes := 1) (z := .int .u8 0) (by kernel_rfl) rfl rfl rfl rfl rfl (by omega) (by omega) ?_; intro X41 f b
        have F1 := hid f
        have N1 := hid (show w.heap.size ≤ X4.heap.size from BX4.out.size)
        have F4 := hid ((Turns.of_below (X := fun _ => False) b).pend F4.out (by simp))
        have BX41 := hid (kept_trans BX4.out b)
        refine hK.out _ _ trivial (fun hS_2 => ?_)
        clear hK K f b
        (try simp only [Act.put, List.setIfInBounds_toArray, List.set_cons_zero, List.set_cons_succ])
        refine wpAnyH_ready (rs := [3]) (by kernel_rfl) (by simp) ?_
        refine AllReadyH.cons rfl (fun K hK => ?_) ?_
        · refine if_wanted (Eq.refl true) ?_
          refine wpo_make (.tmp 16) (.tmp 16) rfl Tryz.underlying26 (bytes := 1) (z := .int .u8 0) (by kernel_rfl) rfl rfl rfl rfl rfl (by omega) (by omega) ?_; intro X413 f b
          have F3 := hid f
          have N3 := hid (show w.heap.size ≤ X41.heap.size from BX41.out.size)
          have NE := hid (Nat.ne_of_lt F1.out.lt)
          have F4 := hid ((Turns.of_below (X := fun _ => False) b).pend F4.out (by simp))
          have F1 := hid (F1.out.mono b)
          have BX413 := hid (kept_trans BX41.out b)
          refine hK.out _ _ trivial (fun hS_3 => ?_)
          clear hK K f b
          (try simp only [Act.put, List.setIfInBounds_toArray, List.set_cons_zero, List.set_cons_succ])
          refine takeR (i := 5) (v := .agg #[.slice (some ⟨X4.heap.size, 0, none⟩) n n, .slice (some ⟨X41.heap.size, 0, none⟩) n n, .map (some W0.heap.size)]) rfl rfl (by kernel_rfl) (by kernel_rfl) (by kernel_rfl) (fun _ _ _ h => h) (Or.inl ⟨Eq.refl true, fun w1 hSw => ?_⟩) hS_3 ?_
          · first | rfl | (clear hSw; go_simp; done) | (clear hSw; go_simp; rfl)
          (try simp only [Act.put, List.setIfInBounds_toArray, List.set_cons_zero, List.set_cons_succ])
          refine wpAnyH_ready (rs := [6]) (by kernel_rfl) (by simp) (AllReadyH.cons rfl (fun K hK => ?_) AllReadyH.nil)
          go_simp
          refine hK.out _ _ trivial (fun hS_9 => ?_)
          clear hK K
          refine takeR (i := 7) (v := .pointer (some ⟨X413.heap.size, 0, none⟩)) rfl rfl (by kernel_rfl) (by kernel_rfl) (by kernel_rfl) (fun _ _ _ h => h) (Or.inl ⟨Eq.refl true, fun w1 hSw => ?_⟩) hS_9 ?_
          · first | rfl | (clear hSw; go_simp; done) | (clear hSw; go_simp; rfl)
          (try simp only [Act.put, List.setIfInBounds_toArray, List.set_cons_zero, List.set_cons_succ])
          refine wpAnyH_done (by kernel_rfl) ?_ _
          go_wp2_with fail
          go_ret
          exact new_end rfl HN.out BX413.out F1.out F3.out F4.out NE.out N1.out N3.out N4.out
        exact AllReadyH.nil
      refine AllReadyH.cons rfl (fun K hK => ?_) ?_
      · refine if_wanted (Eq.refl true) ?_
        refine wpo_make (.tmp 16) (.tmp 16) rfl Tryz.underlying26 (bytes := 1) (z := .int .u8 0) (by kernel_rfl) rfl rfl rfl rfl rfl (by omega) (by omega) ?_; intro X43 f b
        have F3 := hid f
        have N3 := hid (show w.heap.size ≤ X4.heap.size from BX4.out.size)
        have F4 := hid ((Turns.of_below (X := fun _ => False) b).pend F4.out (by simp))
        have BX43 := hid (kept_trans BX4.out b)
        refine hK.out _ _ trivial (fun hS_2 => ?_)
        clear hK K f b
        (try simp only [Act.put, List.setIfInBounds_toArray, List.set_cons_zero, List.set_cons_succ])
        refine wpAnyH_ready (rs := [1]) (by kernel_rfl) (by simp) ?_
        refine AllReadyH.cons rfl (fun K hK => ?_) ?_
        · refine if_wanted (Eq.refl true) ?_
          refine wpo_make (.tmp 14) (.tmp 14) rfl Tryz.underlying26 (bytes := 1) (z := .int .u8 0) (by kernel_rfl) rfl rfl rfl rfl rfl (by omega) (by omega) ?_; intro X431 f b
          have F1 := hid f
          have N1 := hid (show w.heap.size ≤ X43.heap.size from BX43.out.size)
          have NE := hid (Nat.ne_of_lt F3.out.lt).symm
          have F4 := hid ((Turns.of_below (X := fun _ => False) b).pend F4.out (by simp))
          have F3 := hid (F3.out.mono b)
          have BX431 := hid (kept_trans BX43.out b)
          refine hK.out _ _ trivial (fun hS_3 => ?_)
          clear hK K f b
          (try simp only [Act.put, List.setIfInBounds_toArray, List.set_cons_zero, List.set_cons_succ])
          refine takeR (i := 5) (v := .agg #[.slice (some ⟨X43.heap.size, 0, none⟩) n n, .slice (some ⟨X4.heap.size, 0, none⟩) n n, .map (some W0.heap.size)]) rfl rfl (by kernel_rfl) (by kernel_rfl) (by kernel_rfl) (fun _ _ _ h => h) (Or.inl ⟨Eq.refl true, fun w1 hSw => ?_⟩) hS_3 ?_
          · first | rfl | (clear hSw; go_simp; done) | (clear hSw; go_simp; rfl)
          (try simp only [Act.put, List.setIfInBounds_toArray, List.set_cons_zero, List.set_cons_succ])
          refine wpAnyH_ready (rs := [6]) (by kernel_rfl) (by simp) (AllReadyH.cons rfl (fun K hK => ?_) AllReadyH.nil)
          go_simp
          refine hK.out _ _ trivial (fun hS_9 => ?_)
          clear hK K
          refine takeR (i := 7) (v := .pointer (some ⟨X431.heap.size, 0, none⟩)) rfl rfl (by kernel_rfl) (by kernel_rfl) (by kernel_rfl) (fun _ _ _ h => h) (Or.inl ⟨Eq.refl true, fun w1 hSw => ?_⟩) hS_9 ?_
          · first | rfl | (clear hSw; go_simp; done) | (clear hSw; go_simp; rfl)
          (try simp only [Act.put, List.setIfInBounds_toArray, List.set_cons_zero, List.set_cons_succ])
          refine wpAnyH_done (by kernel_rfl) ?_ _
          go_wp2_with fail
          go_ret
          exact new_end rfl HN.out BX431.out F1.out F3.out F4.out NE.out N1.out N3.out N4.out
        exact AllReadyH.nil
      exact AllReadyH.nil
    exact AllReadyH.nil
  · have hE : NewP w n (.returned (.pointer none)) w := by unfold NewP; rw [if_neg h]; exact ⟨rfl, rfl⟩
    have HE := hid hE
    clear hE
    by_cases h1 : 64 ≤ n
    · have d1 : decide (n < 64) = false := decide_eq_false (by omega)
      by_cases h2 : n ≤ 1048576
      · have d2 : decide (1048576 < n) = false := decide_eq_false (by omega)
        have h3 : ¬ n % 64 = 0 := fun q => h ⟨h1, h2, q⟩
        have e1 : n.tmod 64 = n % 64 := Int.tmod_eq_emod_of_nonneg (by omega)
        have e2 : IntKind.i64.wrap (n % 64) = n % 64 := IntWalk.i64_in _ (by omega)
        clear h
        generalize n % 64 = r at *
        have d3 : (r != 0) = true := by simpa using h3
        go_enter Tryz.func16, Tryz.ntmps16
        go_wp2
        go_ret
        exact HE.out
      · have d2 : decide (1048576 < n) = true := decide_eq_true (by omega)
        go_enter Tryz.func16, Tryz.ntmps16
        go_wp2
        go_ret
        exact HE.out
    · have d1 : decide (n < 64) = true := decide_eq_true (by omega)
      go_enter Tryz.func16, Tryz.ntmps16
      go_wp2
      go_ret
      exact HE.out
end Go.Proofs.YtcackliabemecaaGreatDoor
