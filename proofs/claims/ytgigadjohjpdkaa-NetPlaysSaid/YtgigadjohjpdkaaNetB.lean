/- Packets in transit: Send. -/
import Derived.Test.YtgigadjohjpdkaaNetA
namespace Go.Proofs.Ytgigadjohjpdkaa
open Go.RowKit
set_option linter.unusedSimpArgs false
set_option linter.unusedVariables false

theorem EPk : ElemT Try.prog 44 56 2 32 := elemT Try.underlying44 (z := .agg #[.int .i64 0, .slice none 0 0]) (by kernel_rfl) rfl (by omega)
theorem pkC_one (p : PkT) : ∀ v ∈ pkC p, v.oneCell' = true := by
  intro v hv
  unfold pkC at hv
  simp only [List.mem_cons, List.not_mem_nil, or_false] at hv
  rcases hv with e | e <;> rw [e] <;> rfl
/-- a block of another type is not the one that a slice owns -/
theorem own_ne_blk {w : World} {B g : Nat} {e e' : TypeId} {sz : Nat} {a : Option Addr} {n c : Nat} {cs L : List Value} (h : Own w B e sz a n c cs) (hb : Blk w g e' L) (hne : e ≠ e') : (Value.slice a n c).ownBlock ≠ some g := by
  rcases h.2 with ⟨hv, _⟩ | ⟨g', cap, cur, hv, _, hh, _⟩
  · rw [hv]; intro h; cases h
  · rw [hv]
    intro h
    have : g' = g := by simpa [Value.ownBlock] using h
    subst this
    unfold Blk at hb
    rw [hb] at hh
    injection hh with hh
    injection hh with _ hh
    exact hne hh.symm
theorem blk_keeps {w w' : World} {g : Nat} {e : TypeId} {L : List Value} {row : Option Nat} (h : Blk w g e L) (G : w.grownBy w' row) (hne : row ≠ some g) : Blk w' g e L :=
  (G.block g h.lt (fun q => hne q.symm)).trans h

def okTo (to : Int) (n : Nat) : Bool := decide (0 ≤ to ∧ to ≤ 8 ∧ n < 200)
theorem send_no (g : Nat) (ra : Option Addr) (n rc : Nat) (to : Int) (a : Option Addr) (c m : Nat) (w : World) (h : Blk w g 46 [.slice ra n rc]) (hno : okTo to n = false) :
    Calls Try.prog 10 #[.pointer (some ⟨g, 0, none⟩), .int .i64 to, .slice a m c] w fun e w' => e = .returned (.bool false) ∧ w = w' := by
  have HL := hid (len_any g ra n rc w h)
  have hq : ¬ (0 ≤ to ∧ to ≤ 8 ∧ n < 200) := of_decide_eq_false hno
  clear h hno
  by_cases h0 : to < 0
  · have d0 : decide (to < 0) = true := decide_eq_true h0
    clear hq
    go_enter Try.func10, Try.ntmps10
    go_wp2
    go_ret
    exact ⟨rfl, rfl⟩
  · have d0 : decide (to < 0) = false := decide_eq_false h0
    by_cases h8 : 8 < to
    · have d8 : decide (8 < to) = true := decide_eq_true h8
      clear hq
      go_enter Try.func10, Try.ntmps10
      go_wp2
      go_ret
      exact ⟨rfl, rfl⟩
    · have d8 : decide (8 < to) = false := decide_eq_false h8
      have dn : decide ((200 : Int) ≤ (n : Int)) = true := decide_eq_true (by omega)
      clear hq
      go_enter Try.func10, Try.ntmps10
      go_wp2_with (go_at_call 11; refine HL.out.mono ?_; rintro e w1 ⟨rfl, rfl⟩)
      go_ret
      exact ⟨rfl, rfl⟩

set_option maxHeartbeats 2000000 in
theorem send_yes (B g : Nat) (ra : Option Addr) (rc : Nat) (L : List PkT) (to : Int) (a : Option Addr) (c : Nat) (xs : List UInt8) (w : World) (h : BagP w B g ra rc L) (hB : B ≤ w.heap.size) (hr : RowB w a c xs) (hx : xs.length ≤ 1000) (hok : okTo to L.length = true) :
    Calls Try.prog 10 #[.pointer (some ⟨g, 0, none⟩), .int .i64 to, .slice a xs.length c] w fun e w' => ∃ ra' rc' a' c', e = .returned (.bool true) ∧ BagP w' B g ra' rc' (L ++ [⟨to, w.heap.size, a', c', xs⟩]) ∧ Below B w w' ∧ StayT 46 56 w w' := by
  obtain ⟨hBg, hk, ho, hd⟩ := h
  have HL := hid (len_any g ra L.length rc w hk)
  obtain ⟨h0, h8, hn⟩ : 0 ≤ to ∧ to ≤ 8 ∧ L.length < 200 := of_decide_eq_true hok
  have d0 : decide (to < 0) = false := decide_eq_false (by omega)
  have d8 : decide (8 < to) = false := decide_eq_false (by omega)
  have dn : decide ((200 : Int) ≤ (L.length : Int)) = false := decide_eq_false (by omega)
  have HC := hid (fun X (b : Below w.heap.size w X) => clone_any a c xs X (hr.mono b) hx)
  have HO := hid (fun X (b : Below w.heap.size w X) => ho.mono b)
  have HK := hid (fun X (b : Below w.heap.size w X) => hk.mono b)
  have HD := hid (fun X (b : Below w.heap.size w X) => fun p hp => (hd p hp).mono b)
  have c0 : w.cell? ⟨g, 0, none⟩ = some (.slice ra L.length rc) := hk.cell (i := 0) (by simp)
  have hgl : g < w.heap.size := hk.lt
  have hcs : (L.flatMap pkC).length = L.length * 2 := flat_len pkC 2 (fun _ => rfl) L
  have HBg := hid hBg
  clear hk ho hd hr hok hBg hcs
  generalize hn' : L.length = n at *
  have HN := hid hn'
  clear hn'
  go_enter Try.func10, Try.ntmps10
  go_wp2_with (go_at_call 11; refine HL.out.mono ?_; rintro e w1 ⟨rfl, rfl⟩)
  have hS0 : Below B w w.drew := (Below.refl _ _).drew
  have c0d : w.drew.cell? ⟨g, 0, none⟩ = some (.slice ra n rc) := c0
  refine wp_region_held_drew (S := fun w' => Below B w w') (by kernel_rfl) hS0 (fun hS_0 => ?_)
  refine takeR (i := 0) (v := .pointer (some ⟨g, 0, none⟩)) rfl rfl (by kernel_rfl) (by kernel_rfl) (by kernel_rfl) (fun _ _ _ h => h) (Or.inl ⟨Eq.refl true, fun w1 hSw => ?_⟩) hS_0 ?_
  · first | rfl | (clear hSw; go_simp; done) | (clear hSw; go_simp; rfl)
  (try simp only [Act.put, List.setIfInBounds_toArray, List.set_cons_zero, List.set_cons_succ])
  refine takeR (i := 1) (v := .pointer (some ⟨g, 0, none⟩)) rfl rfl (by kernel_rfl) (by kernel_rfl) (by kernel_rfl) (fun _ _ _ h => h) (Or.inl ⟨Eq.refl true, fun w1 hSw => ?_⟩) hS_0 ?_
  · first | rfl | (clear hSw; go_simp; done) | (clear hSw; go_simp; rfl)
  (try simp only [Act.put, List.setIfInBounds_toArray, List.set_cons_zero, List.set_cons_succ])
  refine takeR (i := 2) (v := .pointer (some ⟨g, 0, none⟩)) rfl rfl (by kernel_rfl) (by kernel_rfl) (by kernel_rfl) (fun _ _ _ h => h) (Or.inl ⟨Eq.refl true, fun w1 hSw => ?_⟩) hS_0 ?_
  · first | rfl | (clear hSw; go_simp; done) | (clear hSw; go_simp; rfl)
  (try simp only [Act.put, List.setIfInBounds_toArray, List.set_cons_zero, List.set_cons_succ])
  refine takeR (i := 3) (v := .pointer (some ⟨g, 0, none⟩)) rfl rfl (by kernel_rfl) (by kernel_rfl) (by kernel_rfl) (fun _ _ _ h => h) (Or.inl ⟨Eq.refl true, fun w1 hSw => ?_⟩) hS_0 ?_
  · first | rfl | (clear hSw; go_simp; done) | (clear hSw; go_simp; rfl)
  (try simp only [Act.put, List.setIfInBounds_toArray, List.set_cons_zero, List.set_cons_succ])
  refine takeR (i := 5) (v := .int .i64 to) rfl rfl (by kernel_rfl) (by kernel_rfl) (by kernel_rfl) (fun _ _ _ h => h) (Or.inl ⟨Eq.refl true, fun w1 hSw => ?_⟩) hS_0 ?_
  · first | rfl | (clear hSw; go_simp; done) | (clear hSw; go_simp; rfl)
  (try simp only [Act.put, List.setIfInBounds_toArray, List.set_cons_zero, List.set_cons_succ])
  refine takeR (i := 6) (v := .slice a xs.length c) rfl rfl (by kernel_rfl) (by kernel_rfl) (by kernel_rfl) (fun _ _ _ h => h) (Or.inl ⟨Eq.refl true, fun w1 hSw => ?_⟩) hS_0 ?_
  · first | rfl | (clear hSw; go_simp; done) | (clear hSw; go_simp; rfl)
  (try simp only [Act.put, List.setIfInBounds_toArray, List.set_cons_zero, List.set_cons_succ])
  refine wpAnyH_ready (rs := [4, 7]) (by kernel_rfl) (by simp) ?_
  refine AllReadyH.cons rfl (fun K hK => ?_) ?_
  · go_simp
    refine hK.out _ _ ?_ (fun hS_1 => ?_)
    · exact hS_0
    clear hK K
    refine wpAnyH_ready (rs := [7]) (by kernel_rfl) (by simp) (AllReadyH.cons rfl (fun K hK => ?_) AllReadyH.nil)
    go_simp
    go_wp2_with (go_at_call 22; refine (HC.out _ (Below.refl _ w).drew).mono ?_; rintro e w7 ⟨a7, c7, rfl, o7, b7⟩; have O7 := hid o7; have BW7 := hid (kept_trans (Below.refl _ w).drew b7); have R9 := hid (row_blkO (blk_newO (W := w7) rfl 56 [.int .i64 to, .slice a7 xs.length c7]) 2 1 rfl (by omega)); have BA := hid (kept_alloc BW7.out (.cells #[.int .i64 to, .slice a7 xs.length c7] 56)); have K9 := hid (HK.out _ BA.out); have O9 := hid (HO.out _ BA.out); have D9 := hid (HD.out _ BA.out); have N9 := hid (O7.out.alloc (.cells #[.int .i64 to, .slice a7 xs.length c7] 56)); have c7d := (HK.out _ BW7.out).cell (i := 0) (by simp); simp only [List.getElem_cons_zero] at c7d; clear o7)
    refine hK.out _ _ ?_ (fun hS_2 => ?_)
    · exact hS_1.trans (b7.mono hB)
    clear hK K
    refine takeR (i := 8) (v := .agg #[.int .i64 to, .slice a7 xs.length c7]) rfl rfl (by kernel_rfl) (by kernel_rfl) (by kernel_rfl) (fun _ _ _ h => h) (Or.inl ⟨Eq.refl true, fun w1 hSw => ?_⟩) hS_2 ?_
    · first | rfl | (clear hSw; go_simp; done) | (clear hSw; go_simp; rfl)
    (try simp only [Act.put, List.setIfInBounds_toArray, List.set_cons_zero, List.set_cons_succ])
    refine wpAnyH_ready (rs := [9]) (by kernel_rfl) (by simp) (AllReadyH.cons rfl (fun K hK => ?_) AllReadyH.nil)
    go_simp
    refine hK.out _ _ ?_ (fun hS_3 => ?_)
    · exact hS_2.alloc (Nat.le_trans hB BW7.out.size) _
    clear hK K
    refine wpAnyH_ready (rs := [10]) (by kernel_rfl) (by simp) (AllReadyH.cons rfl (fun K hK => ?_) AllReadyH.nil)
    refine if_wanted (Eq.refl true) ?_
    refine wpo_append (.tmp 22) (.tmp 27) rfl EPk B rfl rfl O9.out R9.out (pkC_one ⟨to, w.heap.size, a7, c7, xs⟩) (by omega) (by omega) (Nat.le_trans hB BA.out.size) ?_; intro a5 c5 w5 o5 g5 b5; have T5 := hid ((StayT.of_below (T1 := 46) (T2 := 56) BA.out).trans (StayT.of_own O9.out g5)); have O5 := hid o5; have K5 := hid (blk_keeps K9.out g5 (own_ne_blk O9.out K9.out (by decide))); have D5 := hid (fun (p : PkT) (hp : p ∈ L) => (D9.out p hp).staysO g5 (own_apartO (D9.out p hp) O9.out (by decide))); have N5 := hid (N9.out.staysO g5 (own_apartO N9.out O9.out (by decide))); have cg5 := K5.out.cell (i := 0) (by simp); have fg5 := K5.out.frozen 0; simp only [List.getElem_cons_zero] at cg5; clear o5 g5
    refine hK.out _ _ ?_ (fun hS_4 => ?_)
    · exact hS_3.trans b5
    clear hK K
    refine takeR (i := 11) (v := .pointer (some ⟨g, 0, none⟩)) rfl rfl (by kernel_rfl) (by kernel_rfl) (by kernel_rfl) (fun _ _ _ h => h) (Or.inl ⟨Eq.refl true, fun w1 hSw => ?_⟩) hS_4 ?_
    · first | rfl | (clear hSw; go_simp; done) | (clear hSw; go_simp; rfl)
    (try simp only [Act.put, List.setIfInBounds_toArray, List.set_cons_zero, List.set_cons_succ])
    refine takeR (i := 12) (v := .pointer (some ⟨g, 0, none⟩)) rfl rfl (by kernel_rfl) (by kernel_rfl) (by kernel_rfl) (fun _ _ _ h => h) (Or.inl ⟨Eq.refl true, fun w1 hSw => ?_⟩) hS_4 ?_
    · first | rfl | (clear hSw; go_simp; done) | (clear hSw; go_simp; rfl)
    (try simp only [Act.put, List.setIfInBounds_toArray, List.set_cons_zero, List.set_cons_succ])
    refine wpAnyH_ready (rs := [13]) (by kernel_rfl) (by simp) (AllReadyH.cons rfl (fun K hK => ?_) AllReadyH.nil)
    go_simp
    refine hK.out _ _ ?_ (fun hS_5 => ?_)
    · exact hS_4.setCell (p := ⟨g, 0, none⟩) HBg.out _
    clear hK K
    refine wpAnyH_done (by kernel_rfl) ?_ _
    have BF := hid hS_5
    have hcat : L.flatMap pkC ++ [Value.int .i64 to, .slice a7 xs.length c7] = (L ++ [(⟨to, w.heap.size, a7, c7, xs⟩ : PkT)]).flatMap pkC := by rw [List.flatMap_append]; rfl
    have hlen : (L ++ [(⟨to, w.heap.size, a7, c7, xs⟩ : PkT)]).length = n + 1 := by rw [List.length_append, HN.out]; rfl
    have KF := hid (K5.out.set 0 (.slice a5 (n + 1) c5))
    have OF := hid (O5.out.staysO (sg_set (sg_refl w5 (some g)) 0 (.slice a5 (n + 1) c5)) (.inr (own_ne_blk O5.out K5.out (by decide))))
    have DF := hid (fun (p : PkT) (hp : p ∈ L) => (D5.out p hp).staysO (sg_set (sg_refl w5 (some g)) 0 (.slice a5 (n + 1) c5)) (.inr (own_ne_blk (D5.out p hp) K5.out (by decide))))
    have NF := hid (N5.out.staysO (sg_set (sg_refl w5 (some g)) 0 (.slice a5 (n + 1) c5)) (.inr (own_ne_blk N5.out K5.out (by decide))))
    have TF := hid (T5.out.trans (StayT.of_grown1 K5.out (sg_set (sg_refl w5 (some g)) 0 (.slice a5 (n + 1) c5)))); have HCAT := hid hcat; have HLEN := hid hlen
    clear hS0 hS_0 hS_1 hS_2 hS_3 hS_4 hS_5 c0d c0 c7d cg5 hcat hlen
    go_wp2_with fail
    go_ret
    refine ⟨a5, c5, a7, c7, rfl, ⟨HBg.out, ?_, ?_, ?_⟩, BF.out, TF.out⟩
    · rw [HLEN.out]; exact KF.out
    · rw [HLEN.out, ← HCAT.out]; exact OF.out
    · intro p hp
      rcases List.mem_append.1 hp with hp | hp
      · exact DF.out p hp
      · rw [List.mem_singleton.1 hp]; exact NF.out
  refine AllReadyH.cons rfl (fun K hK => ?_) AllReadyH.nil
  · go_simp
    go_wp2_with (go_at_call 22; refine (HC.out _ (Below.refl _ w).drew).mono ?_; rintro e w7 ⟨a7, c7, rfl, o7, b7⟩; have O7 := hid o7; have BW7 := hid (kept_trans (Below.refl _ w).drew b7); have R9 := hid (row_blkO (blk_newO (W := w7) rfl 56 [.int .i64 to, .slice a7 xs.length c7]) 2 1 rfl (by omega)); have BA := hid (kept_alloc BW7.out (.cells #[.int .i64 to, .slice a7 xs.length c7] 56)); have K9 := hid (HK.out _ BA.out); have O9 := hid (HO.out _ BA.out); have D9 := hid (HD.out _ BA.out); have N9 := hid (O7.out.alloc (.cells #[.int .i64 to, .slice a7 xs.length c7] 56)); have c7d := (HK.out _ BW7.out).cell (i := 0) (by simp); simp only [List.getElem_cons_zero] at c7d; clear o7)
    refine hK.out _ _ ?_ (fun hS_2 => ?_)
    · exact hS_0.trans (b7.mono hB)
    clear hK K
    refine takeR (i := 8) (v := .agg #[.int .i64 to, .slice a7 xs.length c7]) rfl rfl (by kernel_rfl) (by kernel_rfl) (by kernel_rfl) (fun _ _ _ h => h) (Or.inl ⟨Eq.refl true, fun w1 hSw => ?_⟩) hS_2 ?_
    · first | rfl | (clear hSw; go_simp; done) | (clear hSw; go_simp; rfl)
    (try simp only [Act.put, List.setIfInBounds_toArray, List.set_cons_zero, List.set_cons_succ])
    refine wpAnyH_ready (rs := [4, 9]) (by kernel_rfl) (by simp) ?_
    refine AllReadyH.cons rfl (fun K hK => ?_) ?_
    · go_simp
      refine hK.out _ _ ?_ (fun hS_1 => ?_)
      · exact hS_2
      clear hK K
      refine wpAnyH_ready (rs := [9]) (by kernel_rfl) (by simp) (AllReadyH.cons rfl (fun K hK => ?_) AllReadyH.nil)
      go_simp
      refine hK.out _ _ ?_ (fun hS_3 => ?_)
      · exact hS_2.alloc (Nat.le_trans hB BW7.out.size) _
      clear hK K
      refine wpAnyH_ready (rs := [10]) (by kernel_rfl) (by simp) (AllReadyH.cons rfl (fun K hK => ?_) AllReadyH.nil)
      refine if_wanted (Eq.refl true) ?_
      refine wpo_append (.tmp 22) (.tmp 27) rfl EPk B rfl rfl O9.out R9.out (pkC_one ⟨to, w.heap.size, a7, c7, xs⟩) (by omega) (by omega) (Nat.le_trans hB BA.out.size) ?_; intro a5 c5 w5 o5 g5 b5; have T5 := hid ((StayT.of_below (T1 := 46) (T2 := 56) BA.out).trans (StayT.of_own O9.out g5)); have O5 := hid o5; have K5 := hid (blk_keeps K9.out g5 (own_ne_blk O9.out K9.out (by decide))); have D5 := hid (fun (p : PkT) (hp : p ∈ L) => (D9.out p hp).staysO g5 (own_apartO (D9.out p hp) O9.out (by decide))); have N5 := hid (N9.out.staysO g5 (own_apartO N9.out O9.out (by decide))); have cg5 := K5.out.cell (i := 0) (by simp); have fg5 := K5.out.frozen 0; simp only [List.getElem_cons_zero] at cg5; clear o5 g5
      refine hK.out _ _ ?_ (fun hS_4 => ?_)
      · exact hS_3.trans b5
      clear hK K
      refine takeR (i := 11) (v := .pointer (some ⟨g, 0, none⟩)) rfl rfl (by kernel_rfl) (by kernel_rfl) (by kernel_rfl) (fun _ _ _ h => h) (Or.inl ⟨Eq.refl true, fun w1 hSw => ?_⟩) hS_4 ?_
      · first | rfl | (clear hSw; go_simp; done) | (clear hSw; go_simp; rfl)
      (try simp only [Act.put, List.setIfInBounds_toArray, List.set_cons_zero, List.set_cons_succ])
      refine takeR (i := 12) (v := .pointer (some ⟨g, 0, none⟩)) rfl rfl (by kernel_rfl) (by kernel_rfl) (by kernel_rfl) (fun _ _ _ h => h) (Or.inl ⟨Eq.refl true, fun w1 hSw => ?_⟩) hS_4 ?_
      · first | rfl | (clear hSw; go_simp; done) | (clear hSw; go_simp; rfl)
      (try simp only [Act.put, List.setIfInBounds_toArray, List.set_cons_zero, List.set_cons_succ])
      refine wpAnyH_ready (rs := [13]) (by kernel_rfl) (by simp) (AllReadyH.cons rfl (fun K hK => ?_) AllReadyH.nil)
      go_simp
      refine hK.out _ _ ?_ (fun hS_5 => ?_)
      · exact hS_4.setCell (p := ⟨g, 0, none⟩) HBg.out _
      clear hK K
      refine wpAnyH_done (by kernel_rfl) ?_ _
      have BF := hid hS_5
      have hcat : L.flatMap pkC ++ [Value.int .i64 to, .slice a7 xs.length c7] = (L ++ [(⟨to, w.heap.size, a7, c7, xs⟩ : PkT)]).flatMap pkC := by rw [List.flatMap_append]; rfl
      have hlen : (L ++ [(⟨to, w.heap.size, a7, c7, xs⟩ : PkT)]).length = n + 1 := by rw [List.length_append, HN.out]; rfl
      have KF := hid (K5.out.set 0 (.slice a5 (n + 1) c5))
      have OF := hid (O5.out.staysO (sg_set (sg_refl w5 (some g)) 0 (.slice a5 (n + 1) c5)) (.inr (own_ne_blk O5.out K5.out (by decide))))
      have DF := hid (fun (p : PkT) (hp : p ∈ L) => (D5.out p hp).staysO (sg_set (sg_refl w5 (some g)) 0 (.slice a5 (n + 1) c5)) (.inr (own_ne_blk (D5.out p hp) K5.out (by decide))))
      have NF := hid (N5.out.staysO (sg_set (sg_refl w5 (some g)) 0 (.slice a5 (n + 1) c5)) (.inr (own_ne_blk N5.out K5.out (by decide))))
      have TF := hid (T5.out.trans (StayT.of_grown1 K5.out (sg_set (sg_refl w5 (some g)) 0 (.slice a5 (n + 1) c5)))); have HCAT := hid hcat; have HLEN := hid hlen
      clear hS0 hS_0 hS_1 hS_2 hS_3 hS_4 hS_5 c0d c0 c7d cg5 hcat hlen
      go_wp2_with fail
      go_ret
      refine ⟨a5, c5, a7, c7, rfl, ⟨HBg.out, ?_, ?_, ?_⟩, BF.out, TF.out⟩
      · rw [HLEN.out]; exact KF.out
      · rw [HLEN.out, ← HCAT.out]; exact OF.out
      · intro p hp
        rcases List.mem_append.1 hp with hp | hp
        · exact DF.out p hp
        · rw [List.mem_singleton.1 hp]; exact NF.out
    refine AllReadyH.cons rfl (fun K hK => ?_) AllReadyH.nil
    · have c9d := K9.out.cell (i := 0) (by simp)
      simp only [List.getElem_cons_zero] at c9d
      go_simp
      refine hK.out _ _ ?_ (fun hS_3 => ?_)
      · exact hS_2.alloc (Nat.le_trans hB BW7.out.size) _
      clear hK K
      refine wpAnyH_ready (rs := [4]) (by kernel_rfl) (by simp) (AllReadyH.cons rfl (fun K hK => ?_) AllReadyH.nil)
      go_simp
      refine hK.out _ _ ?_ (fun hS_1 => ?_)
      · exact hS_3
      clear hK K c9d
      refine wpAnyH_ready (rs := [10]) (by kernel_rfl) (by simp) (AllReadyH.cons rfl (fun K hK => ?_) AllReadyH.nil)
      refine if_wanted (Eq.refl true) ?_
      refine wpo_append (.tmp 22) (.tmp 27) rfl EPk B rfl rfl O9.out R9.out (pkC_one ⟨to, w.heap.size, a7, c7, xs⟩) (by omega) (by omega) (Nat.le_trans hB BA.out.size) ?_; intro a5 c5 w5 o5 g5 b5; have T5 := hid ((StayT.of_below (T1 := 46) (T2 := 56) BA.out).trans (StayT.of_own O9.out g5)); have O5 := hid o5; have K5 := hid (blk_keeps K9.out g5 (own_ne_blk O9.out K9.out (by decide))); have D5 := hid (fun (p : PkT) (hp : p ∈ L) => (D9.out p hp).staysO g5 (own_apartO (D9.out p hp) O9.out (by decide))); have N5 := hid (N9.out.staysO g5 (own_apartO N9.out O9.out (by decide))); have cg5 := K5.out.cell (i := 0) (by simp); have fg5 := K5.out.frozen 0; simp only [List.getElem_cons_zero] at cg5; clear o5 g5
      refine hK.out _ _ ?_ (fun hS_4 => ?_)
      · exact hS_3.trans b5
      clear hK K
      refine takeR (i := 11) (v := .pointer (some ⟨g, 0, none⟩)) rfl rfl (by kernel_rfl) (by kernel_rfl) (by kernel_rfl) (fun _ _ _ h => h) (Or.inl ⟨Eq.refl true, fun w1 hSw => ?_⟩) hS_4 ?_
      · first | rfl | (clear hSw; go_simp; done) | (clear hSw; go_simp; rfl)
      (try simp only [Act.put, List.setIfInBounds_toArray, List.set_cons_zero, List.set_cons_succ])
      refine takeR (i := 12) (v := .pointer (some ⟨g, 0, none⟩)) rfl rfl (by kernel_rfl) (by kernel_rfl) (by kernel_rfl) (fun _ _ _ h => h) (Or.inl ⟨Eq.refl true, fun w1 hSw => ?_⟩) hS_4 ?_
      · first | rfl | (clear hSw; go_simp; done) | (clear hSw; go_simp; rfl)
      (try simp only [Act.put, List.setIfInBounds_toArray, List.set_cons_zero, List.set_cons_succ])
      refine wpAnyH_ready (rs := [13]) (by kernel_rfl) (by simp) (AllReadyH.cons rfl (fun K hK => ?_) AllReadyH.nil)
      go_simp
      refine hK.out _ _ ?_ (fun hS_5 => ?_)
      · exact hS_4.setCell (p := ⟨g, 0, none⟩) HBg.out _
      clear hK K
      refine wpAnyH_done (by kernel_rfl) ?_ _
      have BF := hid hS_5
      have hcat : L.flatMap pkC ++ [Value.int .i64 to, .slice a7 xs.length c7] = (L ++ [(⟨to, w.heap.size, a7, c7, xs⟩ : PkT)]).flatMap pkC := by rw [List.flatMap_append]; rfl
      have hlen : (L ++ [(⟨to, w.heap.size, a7, c7, xs⟩ : PkT)]).length = n + 1 := by rw [List.length_append, HN.out]; rfl
      have KF := hid (K5.out.set 0 (.slice a5 (n + 1) c5))
      have OF := hid (O5.out.staysO (sg_set (sg_refl w5 (some g)) 0 (.slice a5 (n + 1) c5)) (.inr (own_ne_blk O5.out K5.out (by decide))))
      have DF := hid (fun (p : PkT) (hp : p ∈ L) => (D5.out p hp).staysO (sg_set (sg_refl w5 (some g)) 0 (.slice a5 (n + 1) c5)) (.inr (own_ne_blk (D5.out p hp) K5.out (by decide))))
      have NF := hid (N5.out.staysO (sg_set (sg_refl w5 (some g)) 0 (.slice a5 (n + 1) c5)) (.inr (own_ne_blk N5.out K5.out (by decide))))
      have TF := hid (T5.out.trans (StayT.of_grown1 K5.out (sg_set (sg_refl w5 (some g)) 0 (.slice a5 (n + 1) c5)))); have HCAT := hid hcat; have HLEN := hid hlen
      clear hS0 hS_0 hS_1 hS_2 hS_3 hS_4 hS_5 c0d c0 c7d cg5 hcat hlen
      go_wp2_with fail
      go_ret
      refine ⟨a5, c5, a7, c7, rfl, ⟨HBg.out, ?_, ?_, ?_⟩, BF.out, TF.out⟩
      · rw [HLEN.out]; exact KF.out
      · rw [HLEN.out, ← HCAT.out]; exact OF.out
      · intro p hp
        rcases List.mem_append.1 hp with hp | hp
        · exact DF.out p hp
        · rw [List.mem_singleton.1 hp]; exact NF.out
end Go.Proofs.Ytgigadjohjpdkaa
