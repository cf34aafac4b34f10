/- Packets in transit: Take, where the packet stays. -/
import Derived.Test.YtgigadjohjpdkaaNetB
namespace Go.Proofs.Ytgigadjohjpdkaa
open Go.RowKit
set_option linter.unusedSimpArgs false
set_option linter.unusedVariables false

theorem take_no (g : Nat) (ra : Option Addr) (n rc : Nat) (k : Int) (st : Bool) (w : World) (h : Blk w g 46 [.slice ra n rc]) (hno : ¬ (0 ≤ k ∧ k < n)) :
    Calls Try.prog 13 #[.pointer (some ⟨g, 0, none⟩), .int .i64 k, .bool st] w fun e w' => e = .returned (.tuple #[.int .i64 0, .slice none 0 0, .bool false]) ∧ w = w' := by
  have HH := has_any g ra n rc k w h
  rw [decide_eq_false hno] at HH
  have HH := hid HH
  clear h hno
  go_enter Try.func13, Try.ntmps13
  go_wp2_with (go_at_call 24; refine HH.out.mono ?_; rintro e w1 ⟨rfl, rfl⟩)
  go_ret3
  exact ⟨rfl, rfl⟩

set_option maxHeartbeats 2000000 in
theorem take_stay (B g : Nat) (ra : Option Addr) (rc : Nat) (L : List PkT) (k : Nat) (w : World) (h : BagP w B g ra rc L) (hk : k < L.length) (hx : L[k].xs.length ≤ 1000) :
    Calls Try.prog 13 #[.pointer (some ⟨g, 0, none⟩), .int .i64 k, .bool true] w fun e w' => ∃ a c, e = .returned (.tuple #[.int .i64 L[k].to, .slice a L[k].xs.length c, .bool true]) ∧ OwnB w' w.heap.size a c L[k].xs ∧ Below w.heap.size w w' := by
  obtain ⟨hBg, hb, ho, hd⟩ := h
  have HH := has_any g ra L.length rc k w hb
  rw [decide_eq_true (by omega)] at HH
  have HH := hid HH
  have c0 : w.cell? ⟨g, 0, none⟩ = some (.slice ra L.length rc) := hb.cell (i := 0) (by simp)
  have hrow : Row w 2 ra L.length rc (L.flatMap pkC) := ho.row
  obtain ⟨b, off, e, hbl, hc⟩ := row_flat (enc := pkC) (fun _ => rfl) hrow (Nat.lt_of_le_of_lt (Nat.zero_le _) hk)
  subst e
  have hrd := (hd _ (List.getElem_mem hk)).row
  have HC := hid (fun X (q : Below w.heap.size w X) => clone_any _ _ _ X (hrd.mono q) hx)
  have ik : (k : Int) < L.length := by omega
  have hcap : L.length ≤ rc := hrow.2.1
  have hc9 := hrow.2.2.1
  have hc0 : w.cell? ⟨b, off + k * 2, none⟩ = some (.int .i64 L[k].to) := hc k hk 0 _ rfl
  have hc1 : w.cell? ⟨b, off + k * 2 + 1, none⟩ = some (.slice L[k].a L[k].xs.length L[k].c) := hc k hk 1 _ rfl
  clear hc hb ho hd hrd hrow
  generalize L[k].to = to at *
  generalize L[k].a = pa at *
  generalize L[k].c = pc at *
  generalize L[k].xs = xs at *
  generalize L.length = n at *
  have B0 := hid (albO w (.cells #[.int .i64 to, .slice pa xs.length pc] 56))
  go_enter Try.func13, Try.ntmps13
  go_wp2_with (go_at_call 24; refine HH.out.mono ?_; rintro e w1 ⟨rfl, rfl⟩)
  have hW0 := blk_newO (W := w) rfl 56 [.int .i64 to, .slice pa xs.length pc]
  have x0 := hW0.cell (i := 0) (by simp)
  have x1 := hW0.cell (i := 1) (by simp)
  simp only [List.getElem_cons_zero, List.getElem_cons_succ] at x0 x1
  have hS0 : ((w.alloc (.cells #[.int .i64 to, .slice pa xs.length pc] 56)).drew.cell? ⟨w.heap.size, 0, none⟩ = some (.int .i64 to) ∧ (w.alloc (.cells #[.int .i64 to, .slice pa xs.length pc] 56)).drew.cell? ⟨w.heap.size, 1, none⟩ = some (.slice pa xs.length pc)) ∧ Below (w.heap.size + 1) (w.alloc (.cells #[.int .i64 to, .slice pa xs.length pc] 56)) (w.alloc (.cells #[.int .i64 to, .slice pa xs.length pc] 56)).drew := ⟨⟨x0, x1⟩, (Below.refl _ _).drew⟩
  have hsw : (w.alloc (.cells #[.int .i64 to, .slice pa xs.length pc] 56)).heap.size = w.heap.size + 1 := by simp
  have HSTEP : Hid (∀ X Y : World, ((X.cell? ⟨w.heap.size, 0, none⟩ = some (.int .i64 to) ∧ X.cell? ⟨w.heap.size, 1, none⟩ = some (.slice pa xs.length pc)) ∧ Below (w.heap.size + 1) (w.alloc (.cells #[.int .i64 to, .slice pa xs.length pc] 56)) X) → Below X.heap.size X Y → ((Y.cell? ⟨w.heap.size, 0, none⟩ = some (.int .i64 to) ∧ Y.cell? ⟨w.heap.size, 1, none⟩ = some (.slice pa xs.length pc)) ∧ Below (w.heap.size + 1) (w.alloc (.cells #[.int .i64 to, .slice pa xs.length pc] 56)) Y)) :=
    hid (fun X Y h b => by
      have hs : w.heap.size + 1 ≤ X.heap.size := by have := h.2.size; rw [hsw] at this; exact this
      exact ⟨⟨(b.cell (p := ⟨w.heap.size, 0, none⟩) (by show w.heap.size < _; omega)).trans h.1.1, (b.cell (p := ⟨w.heap.size, 1, none⟩) (by show w.heap.size < _; omega)).trans h.1.2⟩, h.2.trans (b.mono hs)⟩)
  clear hW0 x0 x1
  refine wp_region_held_drew (S := fun w' => (w'.cell? ⟨w.heap.size, 0, none⟩ = some (.int .i64 to) ∧ w'.cell? ⟨w.heap.size, 1, none⟩ = some (.slice pa xs.length pc)) ∧ Below (w.heap.size + 1) (w.alloc (.cells #[.int .i64 to, .slice pa xs.length pc] 56)) w') (by kernel_rfl) hS0 (fun hS_0 => ?_)
  refine takeR (i := 0) (v := .pointer (some ⟨w.heap.size, 0, none⟩)) rfl rfl (by kernel_rfl) (by kernel_rfl) (by kernel_rfl) (fun _ _ _ h => h) (Or.inl ⟨Eq.refl true, fun w1 hSw => ?_⟩) hS_0 ?_
  · first | rfl | (clear hSw; go_simp; done) | (clear hSw; go_simp; rfl)
  (try simp only [Act.put, List.setIfInBounds_toArray, List.set_cons_zero, List.set_cons_succ])
  refine takeR (i := 1) (v := .int .i64 to) rfl rfl (by kernel_rfl) (by kernel_rfl) (by kernel_rfl) (fun _ _ _ h => h) (Or.inl ⟨Eq.refl true, fun w1 hSw => ?_⟩) hS_0 ?_
  · (obtain ⟨⟨q1, q2⟩, _⟩ := hSw; go_simp; try rfl)
  (try simp only [Act.put, List.setIfInBounds_toArray, List.set_cons_zero, List.set_cons_succ])
  refine takeR (i := 2) (v := .pointer (some ⟨w.heap.size, 1, none⟩)) rfl rfl (by kernel_rfl) (by kernel_rfl) (by kernel_rfl) (fun _ _ _ h => h) (Or.inl ⟨Eq.refl true, fun w1 hSw => ?_⟩) hS_0 ?_
  · first | rfl | (clear hSw; go_simp; done) | (clear hSw; go_simp; rfl)
  (try simp only [Act.put, List.setIfInBounds_toArray, List.set_cons_zero, List.set_cons_succ])
  refine takeR (i := 3) (v := .slice pa xs.length pc) rfl rfl (by kernel_rfl) (by kernel_rfl) (by kernel_rfl) (fun _ _ _ h => h) (Or.inl ⟨Eq.refl true, fun w1 hSw => ?_⟩) hS_0 ?_
  · (obtain ⟨⟨q1, q2⟩, _⟩ := hSw; go_simp; try rfl)
  (try simp only [Act.put, List.setIfInBounds_toArray, List.set_cons_zero, List.set_cons_succ])
  refine wpAnyH_ready (rs := [4]) (by kernel_rfl) (by simp) (AllReadyH.cons rfl (fun K hK => ?_) AllReadyH.nil)
  go_simp
  go_wp2_with (go_at_call 22; refine (HC.out _ B0.out.drew).mono ?_; rintro e w4 ⟨a4, c4, rfl, o4, b4⟩; have O4 := hid o4; have B4 := hid (kept_trans B0.out.drew b4); clear o4)
  refine hK.out _ _ ?_ (fun hS_1 => ?_)
  · exact HSTEP.out _ _ hS_0 b4
  clear hK K
  refine takeR (i := 5) (v := .int .i64 to) rfl rfl (by kernel_rfl) (by kernel_rfl) (by kernel_rfl) (fun _ _ _ h => h) (Or.inl ⟨Eq.refl true, fun w1 hSw => ?_⟩) hS_1 ?_
  · first | rfl | (clear hSw; go_simp; done) | (clear hSw; go_simp; rfl)
  (try simp only [Act.put, List.setIfInBounds_toArray, List.set_cons_zero, List.set_cons_succ])
  refine takeR (i := 6) (v := .slice a4 xs.length c4) rfl rfl (by kernel_rfl) (by kernel_rfl) (by kernel_rfl) (fun _ _ _ h => h) (Or.inl ⟨Eq.refl true, fun w1 hSw => ?_⟩) hS_1 ?_
  · first | rfl | (clear hSw; go_simp; done) | (clear hSw; go_simp; rfl)
  (try simp only [Act.put, List.setIfInBounds_toArray, List.set_cons_zero, List.set_cons_succ])
  refine takeR (i := 7) (v := .bool true) rfl rfl (by kernel_rfl) (by kernel_rfl) (by kernel_rfl) (fun _ _ _ h => h) (Or.inl ⟨Eq.refl true, fun w1 hSw => ?_⟩) hS_1 ?_
  · first | rfl | (clear hSw; go_simp; done) | (clear hSw; go_simp; rfl)
  (try simp only [Act.put, List.setIfInBounds_toArray, List.set_cons_zero, List.set_cons_succ])
  refine wpAnyH_done (by kernel_rfl) ?_ _
  clear hS_0 hS_1 hS0 hsw
  go_wp2_with fail
  go_ret3
  exact ⟨a4, c4, rfl, O4.out.low (by simp), B4.out⟩
end Go.Proofs.Ytgigadjohjpdkaa
