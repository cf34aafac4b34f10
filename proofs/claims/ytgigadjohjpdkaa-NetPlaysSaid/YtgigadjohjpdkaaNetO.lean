/- Packets in transit: Lose. -/
import Derived.Test.YtgigadjohjpdkaaNetN
namespace Go.Proofs.Ytgigadjohjpdkaa
open Go.RowKit
set_option linter.unusedSimpArgs false
set_option linter.unusedVariables false

set_option maxHeartbeats 2000000 in
theorem lose_any (B g : Nat) (ra : Option Addr) (rc : Nat) (L : List PkT) (node : Int) (w : World) (h : BagP w B g ra rc L) (hn9 : L.length ≤ 1000) (hB : B ≤ w.heap.size) :
    Calls Try.prog 18 #[.pointer (some ⟨g, 0, none⟩), .int .i64 node] w fun e w' => e = .returned (.tuple #[]) ∧ ∃ ra' rc', BagP w' B g ra' rc' (L.filter (fun p => !decide (p.to = node))) ∧ Below B w w' ∧ StayT 46 56 w w' := by
  obtain ⟨hBg, hk, ho, hd⟩ := h
  have c0 : w.cell? ⟨g, 0, none⟩ = some (.slice ra L.length rc) := hk.cell (i := 0) (by simp)
  have hgl : g < w.heap.size := hk.lt
  have HBg := hid hBg
  obtain ⟨R, hR⟩ : ∃ R, R = L.filter (fun p => !decide (p.to = node)) := ⟨_, rfl⟩
  have HDel := hid (fun (X : World) (b : Below w.heap.size w X) (Nb : Nat) (hb : Blk X Nb 3 [.int .i64 node]) => deletef_pk B ra rc L node Nb X (ho.mono b) hb hn9)
  rw [← hR] at HDel ⊢
  have HSUB := hid (show ∀ p ∈ R, p ∈ L by rw [hR]; intro p hp; exact (List.mem_filter.1 hp).1)
  have HO := hid (fun X (b : Below w.heap.size w X) => ho.mono b)
  have HK := hid (fun X (b : Below w.heap.size w X) => hk.mono b)
  have HD := hid (fun X (b : Below w.heap.size w X) => fun p hp => (hd p hp).mono b)
  have HW := hid (fun k q => (World.ownsRow.lt ho k q).1)
  clear hk ho hd hBg hR
  generalize hn' : L.length = n at *
  clear hn'
  go_enter Try.func18, Try.ntmps18
  go_wp2_with fail
  have hS0 : Below B w w.drew := (Below.refl _ _).drew
  have c0d : w.drew.cell? ⟨g, 0, none⟩ = some (.slice ra n rc) := c0
  refine wp_region_held_drew (S := fun w' => Below B w w') (by kernel_rfl) hS0 (fun hS_0 => ?_)
  refine takeR (i := 0) (v := .pointer (some ⟨g, 0, none⟩)) rfl rfl (by kernel_rfl) (by kernel_rfl) (by kernel_rfl) (fun _ _ _ h => h) (Or.inl ⟨Eq.refl true, fun w1 hSw => ?_⟩) hS_0 ?_
  · first | rfl | (clear hSw; go_simp; done) | (clear hSw; go_simp; rfl)
  (try simp only [Act.put, List.setIfInBounds_toArray, List.set_cons_zero, List.set_cons_succ])
  refine takeR (i := 1) (v := .pointer (some ⟨g, 0, none⟩)) rfl rfl (by kernel_rfl) (by kernel_rfl) (by kernel_rfl) (fun _ _ _ h => h) (Or.inl ⟨Eq.refl true, fun w1 hSw => ?_⟩) hS_0 ?_
  · first | rfl | (clear hSw; go_simp; done) | (clear hSw; go_simp; rfl)
  (try simp only [Act.put, List.setIfInBounds_toArray, List.set_cons_zero, List.set_cons_succ])
  refine takeR (i := 2) (v := .pointer (some ⟨g, 0, none⟩)) rfl rfl (by kernel_rfl) (by kernel_rfl) (by kernel_rfl) (fun _ _ _ h => h) (Or.inl ⟨Eq.refl true, fun w1 hSw => ?_⟩) hS_0 ?_
  · first | rfl | (clear hSw; go_simp; done) | (clear hSw; go_simp; rfl)
  (try simp only [Act.put, List.setIfInBounds_toArray, List.set_cons_zero, List.set_cons_succ])
  refine takeR (i := 3) (v := .pointer (some ⟨g, 0, none⟩)) rfl rfl (by kernel_rfl) (by kernel_rfl) (by kernel_rfl) (fun _ _ _ h => h) (Or.inl ⟨Eq.refl true, fun w1 hSw => ?_⟩) hS_0 ?_
  · first | rfl | (clear hSw; go_simp; done) | (clear hSw; go_simp; rfl)
  (try simp only [Act.put, List.setIfInBounds_toArray, List.set_cons_zero, List.set_cons_succ])
  refine takeR (i := 5) (v := .int .i64 node) rfl rfl (by kernel_rfl) (by kernel_rfl) (by kernel_rfl) (fun _ _ _ h => h) (Or.inl ⟨Eq.refl true, fun w1 hSw => ?_⟩) hS_0 ?_
  · first | rfl | (clear hSw; go_simp; done) | (clear hSw; go_simp; rfl)
  (try simp only [Act.put, List.setIfInBounds_toArray, List.set_cons_zero, List.set_cons_succ])
  refine wpAnyH_ready (rs := [4, 6]) (by kernel_rfl) (by simp) ?_
  refine AllReadyH.cons rfl (fun K hK => ?_) ?_
  · go_simp
    refine hK.out _ _ ?_ (fun hS_1 => ?_)
    · exact hS_0
    clear hK K
    refine wpAnyH_ready (rs := [6]) (by kernel_rfl) (by simp) (AllReadyH.cons rfl (fun K hK => ?_) AllReadyH.nil)
    go_simp
    go_wp2_with (go_at_call 23; refine (to_any node _).mono ?_; rintro e w6 ⟨rfl, k6, b6⟩; have K6 := hid k6; have B6 := hid (kept_trans (Below.refl _ w).drew b6); have c6 := (HK.out _ B6.out).cell (i := 0) (by simp); simp only [List.getElem_cons_zero] at c6; clear k6)
    refine hK.out _ _ ?_ (fun hS_2 => ?_)
    · exact hS_1.trans (b6.mono (by simp; omega))
    clear hK K b6
    refine wpAnyH_ready (rs := [7]) (by kernel_rfl) (by simp) (AllReadyH.cons rfl (fun K hK => ?_) AllReadyH.nil)
    go_simp
    go_wp2_with (go_at_call 26; refine (HDel.out _ B6.out _ K6.out).mono ?_; rintro e w7 ⟨rfl, o7, g7⟩; have O7 := hid o7; have G7 := hid g7; have K7 := hid (blk_keeps (HK.out _ B6.out) g7 (own_ne_blk (HO.out _ B6.out) (HK.out _ B6.out) (by decide))); have D7 := hid (fun (p : PkT) (hp : p ∈ R) => (HD.out _ B6.out p (HSUB.out p hp)).staysO g7 (own_apartO (HD.out _ B6.out p (HSUB.out p hp)) (HO.out _ B6.out) (by decide))); have T7 := hid ((StayT.of_below (T1 := 46) (T2 := 56) B6.out).trans (StayT.of_own (HO.out _ B6.out) g7)); have c7 := K7.out.cell (i := 0) (by simp); have f7 := K7.out.frozen 0; simp only [List.getElem_cons_zero] at c7; clear o7)
    refine hK.out _ _ ?_ (fun hS_3 => ?_)
    · exact hS_2.grown g7 (Nat.le_trans hB B6.out.size) (fun k q => HW.out k q)
    clear hK K g7
    refine takeR (i := 8) (v := .pointer (some ⟨g, 0, none⟩)) rfl rfl (by kernel_rfl) (by kernel_rfl) (by kernel_rfl) (fun _ _ _ h => h) (Or.inl ⟨Eq.refl true, fun w1 hSw => ?_⟩) hS_3 ?_
    · first | rfl | (clear hSw; go_simp; done) | (clear hSw; go_simp; rfl)
    (try simp only [Act.put, List.setIfInBounds_toArray, List.set_cons_zero, List.set_cons_succ])
    refine takeR (i := 9) (v := .pointer (some ⟨g, 0, none⟩)) rfl rfl (by kernel_rfl) (by kernel_rfl) (by kernel_rfl) (fun _ _ _ h => h) (Or.inl ⟨Eq.refl true, fun w1 hSw => ?_⟩) hS_3 ?_
    · first | rfl | (clear hSw; go_simp; done) | (clear hSw; go_simp; rfl)
    (try simp only [Act.put, List.setIfInBounds_toArray, List.set_cons_zero, List.set_cons_succ])
    refine wpAnyH_ready (rs := [10]) (by kernel_rfl) (by simp) (AllReadyH.cons rfl (fun K hK => ?_) AllReadyH.nil)
    go_simp
    refine hK.out _ _ ?_ (fun hS_4 => ?_)
    · exact hS_3.setCell (p := ⟨g, 0, none⟩) HBg.out _
    clear hK K
    refine wpAnyH_done (by kernel_rfl) ?_ _
    have BF := hid hS_4
    have KF := hid (K7.out.set 0 (.slice ra R.length rc))
    have OF := hid (O7.out.staysO (sg_set (sg_refl w7 (some g)) 0 (.slice ra R.length rc)) (.inr (own_ne_blk O7.out K7.out (by decide))))
    have DF := hid (fun (p : PkT) (hp : p ∈ R) => (D7.out p hp).staysO (sg_set (sg_refl w7 (some g)) 0 (.slice ra R.length rc)) (.inr (own_ne_blk (D7.out p hp) K7.out (by decide))))
    have TF := hid (T7.out.trans (StayT.of_grown1 K7.out (sg_set (sg_refl w7 (some g)) 0 (.slice ra R.length rc))))
    clear hS0 hS_0 hS_1 hS_2 hS_3 hS_4 c0d c0 c6 c7
    go_wp2_with fail
    go_end0
    exact ⟨rfl, ra, rc, ⟨HBg.out, KF.out, OF.out, fun p hp => DF.out p hp⟩, BF.out, TF.out⟩
  refine AllReadyH.cons rfl (fun K hK => ?_) AllReadyH.nil
  · go_simp
    go_wp2_with (go_at_call 23; refine (to_any node _).mono ?_; rintro e w6 ⟨rfl, k6, b6⟩; have K6 := hid k6; have B6 := hid (kept_trans (Below.refl _ w).drew b6); have c6 := (HK.out _ B6.out).cell (i := 0) (by simp); simp only [List.getElem_cons_zero] at c6; clear k6)
    refine hK.out _ _ ?_ (fun hS_1 => ?_)
    · exact hS_0.trans (b6.mono (by simp; omega))
    clear hK K b6
    refine wpAnyH_ready (rs := [4]) (by kernel_rfl) (by simp) (AllReadyH.cons rfl (fun K hK => ?_) AllReadyH.nil)
    go_simp
    refine hK.out _ _ ?_ (fun hS_2 => ?_)
    · exact hS_1
    clear hK K
    refine wpAnyH_ready (rs := [7]) (by kernel_rfl) (by simp) (AllReadyH.cons rfl (fun K hK => ?_) AllReadyH.nil)
    go_simp
    go_wp2_with (go_at_call 26; refine (HDel.out _ B6.out _ K6.out).mono ?_; rintro e w7 ⟨rfl, o7, g7⟩; have O7 := hid o7; have G7 := hid g7; have K7 := hid (blk_keeps (HK.out _ B6.out) g7 (own_ne_blk (HO.out _ B6.out) (HK.out _ B6.out) (by decide))); have D7 := hid (fun (p : PkT) (hp : p ∈ R) => (HD.out _ B6.out p (HSUB.out p hp)).staysO g7 (own_apartO (HD.out _ B6.out p (HSUB.out p hp)) (HO.out _ B6.out) (by decide))); have T7 := hid ((StayT.of_below (T1 := 46) (T2 := 56) B6.out).trans (StayT.of_own (HO.out _ B6.out) g7)); have c7 := K7.out.cell (i := 0) (by simp); have f7 := K7.out.frozen 0; simp only [List.getElem_cons_zero] at c7; clear o7)
    refine hK.out _ _ ?_ (fun hS_3 => ?_)
    · exact hS_2.grown g7 (Nat.le_trans hB B6.out.size) (fun k q => HW.out k q)
    clear hK K g7
    refine takeR (i := 8) (v := .pointer (some ⟨g, 0, none⟩)) rfl rfl (by kernel_rfl) (by kernel_rfl) (by kernel_rfl) (fun _ _ _ h => h) (Or.inl ⟨Eq.refl true, fun w1 hSw => ?_⟩) hS_3 ?_
    · first | rfl | (clear hSw; go_simp; done) | (clear hSw; go_simp; rfl)
    (try simp only [Act.put, List.setIfInBounds_toArray, List.set_cons_zero, List.set_cons_succ])
    refine takeR (i := 9) (v := .pointer (some ⟨g, 0, none⟩)) rfl rfl (by kernel_rfl) (by kernel_rfl) (by kernel_rfl) (fun _ _ _ h => h) (Or.inl ⟨Eq.refl true, fun w1 hSw => ?_⟩) hS_3 ?_
    · first | rfl | (clear hSw; go_simp; done) | (clear hSw; go_simp; rfl)
    (try simp only [Act.put, List.setIfInBounds_toArray, List.set_cons_zero, List.set_cons_succ])
    refine wpAnyH_ready (rs := [10]) (by kernel_rfl) (by simp) (AllReadyH.cons rfl (fun K hK => ?_) AllReadyH.nil)
    go_simp
    refine hK.out _ _ ?_ (fun hS_4 => ?_)
    · exact hS_3.setCell (p := ⟨g, 0, none⟩) HBg.out _
    clear hK K
    refine wpAnyH_done (by kernel_rfl) ?_ _
    have BF := hid hS_4
    have KF := hid (K7.out.set 0 (.slice ra R.length rc))
    have OF := hid (O7.out.staysO (sg_set (sg_refl w7 (some g)) 0 (.slice ra R.length rc)) (.inr (own_ne_blk O7.out K7.out (by decide))))
    have DF := hid (fun (p : PkT) (hp : p ∈ R) => (D7.out p hp).staysO (sg_set (sg_refl w7 (some g)) 0 (.slice ra R.length rc)) (.inr (own_ne_blk (D7.out p hp) K7.out (by decide))))
    have TF := hid (T7.out.trans (StayT.of_grown1 K7.out (sg_set (sg_refl w7 (some g)) 0 (.slice ra R.length rc))))
    clear hS0 hS_0 hS_1 hS_2 hS_3 hS_4 c0d c0 c6 c7
    go_wp2_with fail
    go_end0
    exact ⟨rfl, ra, rc, ⟨HBg.out, KF.out, OF.out, fun p hp => DF.out p hp⟩, BF.out, TF.out⟩
end Go.Proofs.Ytgigadjohjpdkaa
