/- The document's bag: Send. -/
import Derived.Test.YtgigadjohjpdkaaNetJ
namespace Go.Proofs.Ytgigadjohjpdkaa
open Go.RowKit
set_option linter.unusedSimpArgs false
set_option linter.unusedVariables false

theorem ERk : ElemT Try.prog 26 52 2 24 := elemT Try.underlying26 (z := .agg #[.int .i64 0, .string ⟨#[]⟩]) (by kernel_rfl) rfl (by omega)
/-- the document's packet: its node, its bytes as a text -/
def rkC (q : Int × List UInt8) : List Value := [.int .i64 q.1, .string ⟨q.2.toArray⟩]
theorem rkC_one (q : Int × List UInt8) : ∀ v ∈ rkC q, v.oneCell' = true := by
  intro v hv
  unfold rkC at hv
  simp only [List.mem_cons, List.not_mem_nil, or_false] at hv
  rcases hv with e | e <;> rw [e] <;> rfl
/-- the document's bag in memory -/
def RefP (w : World) (B g : Nat) (ra : Option Addr) (rc : Nat) (M : List (Int × List UInt8)) : Prop :=
  B ≤ g ∧ Blk w g 28 [.slice ra M.length rc] ∧ Own w B 52 2 ra M.length rc (M.flatMap rkC)
theorem RefP.mono {w w' : World} {B g : Nat} {ra : Option Addr} {rc : Nat} {M : List (Int × List UInt8)} (h : RefP w B g ra rc M) (b : Below w.heap.size w w') : RefP w' B g ra rc M :=
  ⟨h.1, h.2.1.mono b, h.2.2.mono b⟩

theorem rsend_no (g : Nat) (ra : Option Addr) (n rc : Nat) (to : Int) (a : Option Addr) (c m : Nat) (w : World) (h : Blk w g 28 [.slice ra n rc]) (hn : n ≤ 200) (hno : okTo to n = false) :
    Calls Try.prog 14 #[.pointer (some ⟨g, 0, none⟩), .int .i64 to, .slice a m c] w fun e w' => e = .returned (.bool false) ∧ w = w' := by
  have hq : ¬ (0 ≤ to ∧ to ≤ 8 ∧ n < 200) := of_decide_eq_false hno
  have c0 : w.cell? ⟨g, 0, none⟩ = some (.slice ra n rc) := h.cell (i := 0) (by simp)
  clear h hno
  by_cases h0 : to < 0
  · have d0 : decide (to < 0) = true := decide_eq_true h0
    clear hq
    go_enter Try.func14, Try.ntmps14
    go_wp2
    go_ret
    exact ⟨rfl, rfl⟩
  · have d0 : decide (to < 0) = false := decide_eq_false h0
    by_cases h8 : 8 < to
    · have d8 : decide (8 < to) = true := decide_eq_true h8
      clear hq
      go_enter Try.func14, Try.ntmps14
      go_wp2
      go_ret
      exact ⟨rfl, rfl⟩
    · have d8 : decide (8 < to) = false := decide_eq_false h8
      obtain rfl : n = 200 := by omega
      clear hq
      go_enter Try.func14, Try.ntmps14
      go_wp2
      go_ret
      exact ⟨rfl, rfl⟩

set_option maxHeartbeats 2000000 in
theorem rsend_yes (B g : Nat) (ra : Option Addr) (rc : Nat) (M : List (Int × List UInt8)) (to : Int) (a : Option Addr) (c : Nat) (xs : List UInt8) (w : World) (h : RefP w B g ra rc M) (hB : B ≤ w.heap.size) (hr : RowB w a c xs) (hx : xs.length ≤ 1000) (hok : okTo to M.length = true) :
    Calls Try.prog 14 #[.pointer (some ⟨g, 0, none⟩), .int .i64 to, .slice a xs.length c] w fun e w' => ∃ ra' rc', e = .returned (.bool true) ∧ RefP w' B g ra' rc' (M ++ [(to, xs)]) ∧ Below B w w' ∧ StayT 28 52 w w' := by
  obtain ⟨hBg, hk, ho⟩ := h
  obtain ⟨h0, h8, hn⟩ : 0 ≤ to ∧ to ≤ 8 ∧ M.length < 200 := of_decide_eq_true hok
  have d0 : decide (to < 0) = false := decide_eq_false (by omega)
  have d8 : decide (8 < to) = false := decide_eq_false (by omega)
  have dn : ((M.length : Int) == (200 : Int)) = false := by rw [beq_eq_false_iff_ne]; omega
  have c0 : w.cell? ⟨g, 0, none⟩ = some (.slice ra M.length rc) := hk.cell (i := 0) (by simp)
  obtain ⟨S, hS⟩ : ∃ S : ByteArray, S = ⟨xs.toArray⟩ := ⟨_, rfl⟩
  have hstr : (convert 30 9 (.slice a xs.length c)).run Try.prog w.drew = .ok (.string S) w.drew := by rw [hS]; exact run_str (hr.mono (Below.refl _ w).drew)
  have BW7 := hid (Below.refl w.heap.size w).drew
  have hgl : g < w.heap.size := hk.lt
  have hcs : (M.flatMap rkC).length = M.length * 2 := flat_len rkC 2 (fun _ => rfl) M
  have HBg := hid hBg
  have R9 := hid (row_blkO (blk_newO (W := w.drew) rfl 52 [.int .i64 to, .string S]) 2 1 rfl (by omega))
  have BA := hid (kept_alloc BW7.out (.cells #[.int .i64 to, .string S] 52))
  have K9 := hid (hk.mono BA.out)
  have O9 := hid (ho.mono BA.out)
  have ONE := hid (show ∀ v ∈ ([.int .i64 to, .string S] : List Value), v.oneCell' = true by rw [hS]; exact rkC_one (to, xs))
  have HSS := hid hS
  clear hk ho hr hok hBg hcs hS
  generalize hn' : M.length = n at *
  have HN := hid hn'
  clear hn'
  go_enter Try.func14, Try.ntmps14
  go_wp2_with fail
  have hS0 : Below B w w.drew := (Below.refl _ _).drew
  have c0d : w.drew.cell? ⟨g, 0, none⟩ = some (.slice ra n rc) := c0
  refine wp_region_held_drew (S := fun w' => Below B w w') (by kernel_rfl) hS0 (fun hS_0 => ?_)
  refine takeR (i := 0) (v := .pointer (some ⟨g, 0, none⟩)) rfl rfl (by kernel_rfl) (by kernel_rfl) (by kernel_rfl) (fun _ _ _ h => h) (Or.inl ⟨Eq.refl true, fun w1 hSw => ?_⟩) hS_0 ?_
  · first | rfl | (clear hSw; go_simp; done) | (clear hSw; go_simp; rfl)
  (try simp only [Act.put, List.setIfInBounds_toArray, List.set_cons_zero, List.set_cons_succ])
  refine takeR (i := 1) (v := .pointer (some ⟨g, 0, none⟩)) rfl rfl (by kernel_rfl) (by kernel_rfl) (by kernel_rfl) (fun _ _ _ h => h) (Or.inl ⟨Eq.refl true, fun w1 hSw => ?_⟩) hS_0 ?_
  · first | rfl | (clear hSw; go_simp; done) | (clear hSw; go_simp; rfl)
  (try simp only [Act.put, List.setIfInBounds_toArray, List.set_cons_zero, List.set_cons_succ])
  refine takeR (i := 2) (v := .pointer (some ⟨g, 0, none⟩)) rfl rfl (by kernel_rfl) (by kernel_rfl) (by kernel_rfl) (fun _ _ _ h => h) (Or.inl ⟨Eq.refl true, fun w1 hSw => ?_⟩) hS_0 ?_
  · first | rfl | (clear hSw; go_simp; done) | (clear hSw; go_simp; rfl)
  (try simp only [Act.put, List.setIfInBounds_toArray, List.set_cons_zero, List.set_cons_succ])
  refine takeR (i := 3) (v := .pointer (some ⟨g, 0, none⟩)) rfl rfl (by kernel_rfl) (by kernel_rfl) (by kernel_rfl) (fun _ _ _ h => h) (Or.inl ⟨Eq.refl true, fun w1 hSw => ?_⟩) hS_0 ?_
  · first | rfl | (clear hSw; go_simp; done) | (clear hSw; go_simp; rfl)
  (try simp only [Act.put, List.setIfInBounds_toArray, List.set_cons_zero, List.set_cons_succ])
  refine takeR (i := 5) (v := .int .i64 to) rfl rfl (by kernel_rfl) (by kernel_rfl) (by kernel_rfl) (fun _ _ _ h => h) (Or.inl ⟨Eq.refl true, fun w1 hSw => ?_⟩) hS_0 ?_
  · first | rfl | (clear hSw; go_simp; done) | (clear hSw; go_simp; rfl)
  (try simp only [Act.put, List.setIfInBounds_toArray, List.set_cons_zero, List.set_cons_succ])
  refine takeR (i := 6) (v := .slice a xs.length c) rfl rfl (by kernel_rfl) (by kernel_rfl) (by kernel_rfl) (fun _ _ _ h => h) (Or.inl ⟨Eq.refl true, fun w1 hSw => ?_⟩) hS_0 ?_
  · first | rfl | (clear hSw; go_simp; done) | (clear hSw; go_simp; rfl)
  (try simp only [Act.put, List.setIfInBounds_toArray, List.set_cons_zero, List.set_cons_succ])
  refine wpAnyH_ready (rs := [4, 7]) (by kernel_rfl) (by simp) ?_
  refine AllReadyH.cons rfl (fun K hK => ?_) ?_
  · go_simp
    refine hK.out _ _ ?_ (fun hS_1 => ?_)
    · exact hS_0
    clear hK K
    refine wpAnyH_ready (rs := [7]) (by kernel_rfl) (by simp) (AllReadyH.cons rfl (fun K hK => ?_) AllReadyH.nil)
    go_simp
    refine hK.out _ _ ?_ (fun hS_2 => ?_)
    · exact hS_1
    clear hK K
    refine takeR (i := 8) (v := .agg #[.int .i64 to, .string S]) rfl rfl (by kernel_rfl) (by kernel_rfl) (by kernel_rfl) (fun _ _ _ h => h) (Or.inl ⟨Eq.refl true, fun w1 hSw => ?_⟩) hS_2 ?_
    · first | rfl | (clear hSw; go_simp; done) | (clear hSw; go_simp; rfl)
    (try simp only [Act.put, List.setIfInBounds_toArray, List.set_cons_zero, List.set_cons_succ])
    refine wpAnyH_ready (rs := [9]) (by kernel_rfl) (by simp) (AllReadyH.cons rfl (fun K hK => ?_) AllReadyH.nil)
    go_simp
    refine hK.out _ _ ?_ (fun hS_3 => ?_)
    · exact hS_2.alloc hB _
    clear hK K
    refine wpAnyH_ready (rs := [10]) (by kernel_rfl) (by simp) (AllReadyH.cons rfl (fun K hK => ?_) AllReadyH.nil)
    refine if_wanted (Eq.refl true) ?_
    refine wpo_append (.tmp 25) (.tmp 30) rfl ERk B rfl rfl O9.out R9.out ONE.out (by omega) (by omega) (Nat.le_trans hB BA.out.size) ?_; intro a5 c5 w5 o5 g5 b5; have T5 := hid ((StayT.of_below (T1 := 28) (T2 := 52) BA.out).trans (StayT.of_own O9.out g5)); have O5 := hid o5; have K5 := hid (blk_keeps K9.out g5 (own_ne_blk O9.out K9.out (by decide))); have cg5 := K5.out.cell (i := 0) (by simp); have fg5 := K5.out.frozen 0; simp only [List.getElem_cons_zero] at cg5; clear o5 g5
    refine hK.out _ _ ?_ (fun hS_4 => ?_)
    · exact hS_3.trans b5
    clear hK K
    refine takeR (i := 11) (v := .pointer (some ⟨g, 0, none⟩)) rfl rfl (by kernel_rfl) (by kernel_rfl) (by kernel_rfl) (fun _ _ _ h => h) (Or.inl ⟨Eq.refl true, fun w1 hSw => ?_⟩) hS_4 ?_
    · first | rfl | (clear hSw; go_simp; done) | (clear hSw; go_simp; rfl)
    (try simp only [Act.put, List.setIfInBounds_toArray, List.set_cons_zero, List.set_cons_succ])
    refine takeR (i := 12) (v := .pointer (some ⟨g, 0, none⟩)) rfl rfl (by kernel_rfl) (by kernel_rfl) (by kernel_rfl) (fun _ _ _ h => h) (Or.inl ⟨Eq.refl true, fun w1 hSw => ?_⟩) hS_4 ?_
    · first | rfl | (clear hSw; go_simp; done) | (clear hSw; go_simp; rfl)
    (try simp only [Act.put, List.setIfInBounds_toArray, List.set_cons_zero, List.set_cons_succ])
    refine wpAnyH_ready (rs := [13]) (by kernel_rfl) (by simp) (AllReadyH.cons rfl (fun K hK => ?_) AllReadyH.nil)
    go_simp
    refine hK.out _ _ ?_ (fun hS_5 => ?_)
    · exact hS_4.setCell (p := ⟨g, 0, none⟩) HBg.out _
    clear hK K
    refine wpAnyH_done (by kernel_rfl) ?_ _
    have BF := hid hS_5
    have hcat : M.flatMap rkC ++ [Value.int .i64 to, .string S] = (M ++ [(to, xs)]).flatMap rkC := by rw [List.flatMap_append, HSS.out]; rfl
    have hlen : (M ++ [(to, xs)]).length = n + 1 := by rw [List.length_append, HN.out]; rfl
    have KF := hid (K5.out.set 0 (.slice a5 (n + 1) c5))
    have OF := hid (O5.out.staysO (sg_set (sg_refl w5 (some g)) 0 (.slice a5 (n + 1) c5)) (.inr (own_ne_blk O5.out K5.out (by decide))))
    have TF := hid (T5.out.trans (StayT.of_grown1 K5.out (sg_set (sg_refl w5 (some g)) 0 (.slice a5 (n + 1) c5))))
    have HCAT := hid hcat; have HLEN := hid hlen
    clear hS0 hS_0 hS_1 hS_2 hS_3 hS_4 hS_5 c0d c0 cg5 hcat hlen
    go_wp2_with fail
    go_ret
    refine ⟨a5, c5, rfl, ⟨HBg.out, ?_, ?_⟩, BF.out, TF.out⟩
    · rw [HLEN.out]; exact KF.out
    · rw [HLEN.out, ← HCAT.out]; exact OF.out
  refine AllReadyH.cons rfl (fun K hK => ?_) AllReadyH.nil
  · go_simp
    refine hK.out _ _ ?_ (fun hS_2 => ?_)
    · exact hS_0
    clear hK K
    refine takeR (i := 8) (v := .agg #[.int .i64 to, .string S]) rfl rfl (by kernel_rfl) (by kernel_rfl) (by kernel_rfl) (fun _ _ _ h => h) (Or.inl ⟨Eq.refl true, fun w1 hSw => ?_⟩) hS_2 ?_
    · first | rfl | (clear hSw; go_simp; done) | (clear hSw; go_simp; rfl)
    (try simp only [Act.put, List.setIfInBounds_toArray, List.set_cons_zero, List.set_cons_succ])
    refine wpAnyH_ready (rs := [4, 9]) (by kernel_rfl) (by simp) ?_
    refine AllReadyH.cons rfl (fun K hK => ?_) ?_
    · go_simp
      refine hK.out _ _ ?_ (fun hS_1 => ?_)
      · exact hS_2
      clear hK K
      refine wpAnyH_ready (rs := [9]) (by kernel_rfl) (by simp) (AllReadyH.cons rfl (fun K hK => ?_) AllReadyH.nil)
      go_simp
      refine hK.out _ _ ?_ (fun hS_3 => ?_)
      · exact hS_2.alloc hB _
      clear hK K
      refine wpAnyH_ready (rs := [10]) (by kernel_rfl) (by simp) (AllReadyH.cons rfl (fun K hK => ?_) AllReadyH.nil)
      refine if_wanted (Eq.refl true) ?_
      refine wpo_append (.tmp 25) (.tmp 30) rfl ERk B rfl rfl O9.out R9.out ONE.out (by omega) (by omega) (Nat.le_trans hB BA.out.size) ?_; intro a5 c5 w5 o5 g5 b5; have T5 := hid ((StayT.of_below (T1 := 28) (T2 := 52) BA.out).trans (StayT.of_own O9.out g5)); have O5 := hid o5; have K5 := hid (blk_keeps K9.out g5 (own_ne_blk O9.out K9.out (by decide))); have cg5 := K5.out.cell (i := 0) (by simp); have fg5 := K5.out.frozen 0; simp only [List.getElem_cons_zero] at cg5; clear o5 g5
      refine hK.out _ _ ?_ (fun hS_4 => ?_)
      · exact hS_3.trans b5
      clear hK K
      refine takeR (i := 11) (v := .pointer (some ⟨g, 0, none⟩)) rfl rfl (by kernel_rfl) (by kernel_rfl) (by kernel_rfl) (fun _ _ _ h => h) (Or.inl ⟨Eq.refl true, fun w1 hSw => ?_⟩) hS_4 ?_
      · first | rfl | (clear hSw; go_simp; done) | (clear hSw; go_simp; rfl)
      (try simp only [Act.put, List.setIfInBounds_toArray, List.set_cons_zero, List.set_cons_succ])
      refine takeR (i := 12) (v := .pointer (some ⟨g, 0, none⟩)) rfl rfl (by kernel_rfl) (by kernel_rfl) (by kernel_rfl) (fun _ _ _ h => h) (Or.inl ⟨Eq.refl true, fun w1 hSw => ?_⟩) hS_4 ?_
      · first | rfl | (clear hSw; go_simp; done) | (clear hSw; go_simp; rfl)
      (try simp only [Act.put, List.setIfInBounds_toArray, List.set_cons_zero, List.set_cons_succ])
      refine wpAnyH_ready (rs := [13]) (by kernel_rfl) (by simp) (AllReadyH.cons rfl (fun K hK => ?_) AllReadyH.nil)
      go_simp
      refine hK.out _ _ ?_ (fun hS_5 => ?_)
      · exact hS_4.setCell (p := ⟨g, 0, none⟩) HBg.out _
      clear hK K
      refine wpAnyH_done (by kernel_rfl) ?_ _
      have BF := hid hS_5
      have hcat : M.flatMap rkC ++ [Value.int .i64 to, .string S] = (M ++ [(to, xs)]).flatMap rkC := by rw [List.flatMap_append, HSS.out]; rfl
      have hlen : (M ++ [(to, xs)]).length = n + 1 := by rw [List.length_append, HN.out]; rfl
      have KF := hid (K5.out.set 0 (.slice a5 (n + 1) c5))
      have OF := hid (O5.out.staysO (sg_set (sg_refl w5 (some g)) 0 (.slice a5 (n + 1) c5)) (.inr (own_ne_blk O5.out K5.out (by decide))))
      have TF := hid (T5.out.trans (StayT.of_grown1 K5.out (sg_set (sg_refl w5 (some g)) 0 (.slice a5 (n + 1) c5))))
      have HCAT := hid hcat; have HLEN := hid hlen
      clear hS0 hS_0 hS_1 hS_2 hS_3 hS_4 hS_5 c0d c0 cg5 hcat hlen
      go_wp2_with fail
      go_ret
      refine ⟨a5, c5, rfl, ⟨HBg.out, ?_, ?_⟩, BF.out, TF.out⟩
      · rw [HLEN.out]; exact KF.out
      · rw [HLEN.out, ← HCAT.out]; exact OF.out
    refine AllReadyH.cons rfl (fun K hK => ?_) AllReadyH.nil
    · have c9d := K9.out.cell (i := 0) (by simp)
      simp only [List.getElem_cons_zero] at c9d
      go_simp
      refine hK.out _ _ ?_ (fun hS_3 => ?_)
      · exact hS_2.alloc hB _
      clear hK K
      refine wpAnyH_ready (rs := [4]) (by kernel_rfl) (by simp) (AllReadyH.cons rfl (fun K hK => ?_) AllReadyH.nil)
      go_simp
      refine hK.out _ _ ?_ (fun hS_1 => ?_)
      · exact hS_3
      clear hK K c9d
      refine wpAnyH_ready (rs := [10]) (by kernel_rfl) (by simp) (AllReadyH.cons rfl (fun K hK => ?_) AllReadyH.nil)
      refine if_wanted (Eq.refl true) ?_
      refine wpo_append (.tmp 25) (.tmp 30) rfl ERk B rfl rfl O9.out R9.out ONE.out (by omega) (by omega) (Nat.le_trans hB BA.out.size) ?_; intro a5 c5 w5 o5 g5 b5; have T5 := hid ((StayT.of_below (T1 := 28) (T2 := 52) BA.out).trans (StayT.of_own O9.out g5)); have O5 := hid o5; have K5 := hid (blk_keeps K9.out g5 (own_ne_blk O9.out K9.out (by decide))); have cg5 := K5.out.cell (i := 0) (by simp); have fg5 := K5.out.frozen 0; simp only [List.getElem_cons_zero] at cg5; clear o5 g5
      refine hK.out _ _ ?_ (fun hS_4 => ?_)
      · exact hS_3.trans b5
      clear hK K
      refine takeR (i := 11) (v := .pointer (some ⟨g, 0, none⟩)) rfl rfl (by kernel_rfl) (by kernel_rfl) (by kernel_rfl) (fun _ _ _ h => h) (Or.inl ⟨Eq.refl true, fun w1 hSw => ?_⟩) hS_4 ?_
      · first | rfl | (clear hSw; go_simp; done) | (clear hSw; go_simp; rfl)
      (try simp only [Act.put, List.setIfInBounds_toArray, List.set_cons_zero, List.set_cons_succ])
      refine takeR (i := 12) (v := .pointer (some ⟨g, 0, none⟩)) rfl rfl (by kernel_rfl) (by kernel_rfl) (by kernel_rfl) (fun _ _ _ h => h) (Or.inl ⟨Eq.refl true, fun w1 hSw => ?_⟩) hS_4 ?_
      · first | rfl | (clear hSw; go_simp; done) | (clear hSw; go_simp; rfl)
      (try simp only [Act.put, List.setIfInBounds_toArray, List.set_cons_zero, List.set_cons_succ])
      refine wpAnyH_ready (rs := [13]) (by kernel_rfl) (by simp) (AllReadyH.cons rfl (fun K hK => ?_) AllReadyH.nil)
      go_simp
      refine hK.out _ _ ?_ (fun hS_5 => ?_)
      · exact hS_4.setCell (p := ⟨g, 0, none⟩) HBg.out _
      clear hK K
      refine wpAnyH_done (by kernel_rfl) ?_ _
      have BF := hid hS_5
      have hcat : M.flatMap rkC ++ [Value.int .i64 to, .string S] = (M ++ [(to, xs)]).flatMap rkC := by rw [List.flatMap_append, HSS.out]; rfl
      have hlen : (M ++ [(to, xs)]).length = n + 1 := by rw [List.length_append, HN.out]; rfl
      have KF := hid (K5.out.set 0 (.slice a5 (n + 1) c5))
      have OF := hid (O5.out.staysO (sg_set (sg_refl w5 (some g)) 0 (.slice a5 (n + 1) c5)) (.inr (own_ne_blk O5.out K5.out (by decide))))
      have TF := hid (T5.out.trans (StayT.of_grown1 K5.out (sg_set (sg_refl w5 (some g)) 0 (.slice a5 (n + 1) c5))))
      have HCAT := hid hcat; have HLEN := hid hlen
      clear hS0 hS_0 hS_1 hS_2 hS_3 hS_4 hS_5 c0d c0 cg5 hcat hlen
      go_wp2_with fail
      go_ret
      refine ⟨a5, c5, rfl, ⟨HBg.out, ?_, ?_⟩, BF.out, TF.out⟩
      · rw [HLEN.out]; exact KF.out
      · rw [HLEN.out, ← HCAT.out]; exact OF.out
end Go.Proofs.Ytgigadjohjpdkaa
