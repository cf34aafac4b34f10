/- Packets in transit: slices.Delete of one packet. -/
import Derived.Test.YtgigadjohjpdkaaNetD
import Derived.Deep.RegionLaw
namespace Go.Proofs.Ytgigadjohjpdkaa
open Go.RowKit
set_option linter.unusedSimpArgs false
set_option linter.unusedVariables false

theorem flat_take {α : Type} (enc : α → List Value) (sz : Nat) (h : ∀ x, (enc x).length = sz) : ∀ (L : List α) (k : Nat), (L.flatMap enc).take (k * sz) = (L.take k).flatMap enc
  | [], k => by simp
  | x :: r, 0 => by simp
  | x :: r, k + 1 => by
    show (enc x ++ r.flatMap enc).take ((k + 1) * sz) = enc x ++ (r.take k).flatMap enc
    rw [Nat.succ_mul, Nat.add_comm, ← h x, List.take_length_add_append, h x, flat_take enc sz h r k]
theorem flat_drop {α : Type} (enc : α → List Value) (sz : Nat) (h : ∀ x, (enc x).length = sz) : ∀ (L : List α) (k : Nat), (L.flatMap enc).drop (k * sz) = (L.drop k).flatMap enc
  | [], k => by simp
  | x :: r, 0 => by simp
  | x :: r, k + 1 => by
    show (enc x ++ r.flatMap enc).drop ((k + 1) * sz) = (r.drop k).flatMap enc
    rw [Nat.succ_mul, Nat.add_comm, ← h x, List.drop_length_add_append, h x, flat_drop enc sz h r k]
/-- the cells behind the deletion of the place k, seen from the front -/
theorem del_cells {α : Type} (enc : α → List Value) (sz : Nat) (h : ∀ x, (enc x).length = sz) (L : List α) (k : Nat) (hk : k < L.length) (C z : List Value) (hC : C.take (L.length * sz) = L.flatMap enc) (hl : L.length * sz ≤ C.length) :
    (splice (splice C (k * sz) ((L.drop (k + 1)).flatMap enc)) ((L.length - 1) * sz) z).take ((L.length - 1) * sz) = (L.eraseIdx k).flatMap enc := by
  have hf : ((L.drop (k + 1)).flatMap enc).length = (L.length - 1 - k) * sz := by rw [flat_len enc sz h, List.length_drop]; congr 1; omega
  have e1 : (L.length - 1) * sz = k * sz + (L.length - 1 - k) * sz := by rw [← Nat.add_mul]; congr 1; omega
  have e2 : k * sz ≤ L.length * sz := Nat.mul_le_mul_right sz (by omega)
  have hle : (L.length - 1) * sz ≤ L.length * sz := Nat.mul_le_mul_right sz (by omega)
  have hT : C.take (k * sz) = (L.take k).flatMap enc := by
    rw [← flat_take enc sz h L k, ← hC, List.take_take, Nat.min_eq_left e2]
  have hTl : (C.take (k * sz)).length = k * sz := by rw [List.length_take]; omega
  have hS : (splice C (k * sz) ((L.drop (k + 1)).flatMap enc)).take ((L.length - 1) * sz) = (L.eraseIdx k).flatMap enc := by
    unfold splice
    rw [← List.append_assoc, List.take_left' (by rw [List.length_append, hTl, hf, e1]), hT, List.eraseIdx_eq_take_drop_succ, List.flatMap_append]
  have hSl : (L.length - 1) * sz ≤ (splice C (k * sz) ((L.drop (k + 1)).flatMap enc)).length := by
    rw [length_splice _ _ _ (by rw [hf, ← e1]; omega)]; omega
  generalize splice C (k * sz) ((L.drop (k + 1)).flatMap enc) = S at hS hSl ⊢
  unfold splice
  rw [List.take_left' (by rw [List.length_take]; omega), hS]

set_option maxHeartbeats 4000000 in
set_option maxRecDepth 1000000 in
theorem delete_any (B g c k : Nat) (L : List PkT) (w : World) (ho : Own w B 56 2 (some ⟨g, 0, none⟩) L.length c (L.flatMap pkC)) (hk : k < L.length) (hn9 : L.length ≤ 1000) :
    Calls Try.prog 25 #[.slice (some ⟨g, 0, none⟩) L.length c, .int .i64 k, .int .i64 ((k + 1 : Nat) : Int)] w fun e w' => e = .returned (.slice (some ⟨g, 0, none⟩) (L.length - 1) c) ∧ Own w' B 56 2 (some ⟨g, 0, none⟩) (L.length - 1) c ((L.eraseIdx k).flatMap pkC) ∧ w.grownBy w' (some g) := by
  obtain ⟨C, hb, hl, hB, ht, hnc, hc⟩ := Own.blk ho
  have hinfo : ∃ i, Try.prog.info? 56 = some i ∧ i.size = 2 := by
    obtain ⟨_, ⟨i, z, hi, hz, hsize, hby, hzs⟩, hsz⟩ := EPk
    exact ⟨i, hi, hsize⟩
  obtain ⟨i0, hi0, hz1⟩ := hinfo
  obtain ⟨n, hn⟩ : ∃ n, n = L.length := ⟨_, rfl⟩
  obtain ⟨j, hj⟩ : ∃ j, j = k + 1 := ⟨_, rfl⟩
  obtain ⟨news, hnews⟩ : ∃ news, news = (L.drop j).flatMap pkC := ⟨_, rfl⟩
  have hlen : news.length = (n - j) * 2 := by rw [hnews, flat_len pkC 2 (fun _ => rfl), List.length_drop, hn]
  have s1 : Hid (news.length = (n - j) * 2) := hid hlen
  have hsub : ∀ t u, news[t]? = some u → (C[j * 2 + t]? = some u) := by
    intro t u hu
    have hlt := (List.getElem?_eq_some_iff.1 hu).1
    rw [hnews, ← flat_drop pkC 2 (fun _ => rfl), List.getElem?_drop, ← ht, List.getElem?_take] at hu
    split at hu
    · exact hu
    · cases hu
  obtain ⟨A, hA, hsrc⟩ : ∃ A : Addr, (if c = j then (some (⟨g, 0, none⟩ : Addr)) else some ⟨g, j * 2, none⟩) = some A ∧ Hid (∀ t u, news[t]? = some u → w.drew.cell? (A.add t) = some u) := by
    by_cases h : c = j
    · refine ⟨⟨g, 0, none⟩, by simp [h], hid fun t u hu => ?_⟩
      have h0 : news.length = 0 := by rw [hlen]; omega
      rw [List.length_eq_zero_iff.1 h0] at hu
      simp at hu
    · refine ⟨⟨g, j * 2, none⟩, by simp [h], hid fun t u hu => ?_⟩
      have q := hsub t u hu
      obtain ⟨q1, q2⟩ := List.getElem?_eq_some_iff.1 q
      rw [Addr.add_lit]
      have := hb.drew.cell q1
      rw [q2] at this
      exact this
  have s2 : Hid (∀ u ∈ news, u.oneCell' = true) := hid (by
    intro u hu
    rw [hnews] at hu
    obtain ⟨p, _, hp⟩ := List.mem_flatMap.1 hu
    exact pkC_one p u hp)
  have hkl : k * 2 + news.length ≤ C.length := by rw [hlen, hl]; omega
  have s3 : Hid (∀ t, t < news.length → (w.drew.cell? ⟨g, 0 + k * 2 + t, none⟩).isSome = true ∧ w.drew.frozen? ⟨g, 0 + k * 2 + t, none⟩ = false) := hid (by
    intro t htt
    rw [Nat.zero_add]
    refine ⟨?_, hb.drew.frozen _⟩
    rw [hb.drew.cell (i := k * 2 + t) (by omega)]; rfl)
  obtain ⟨W1, hW1⟩ : ∃ W1, W1 = w.drew.setCells g (0 + k * 2) news := ⟨_, rfl⟩
  obtain ⟨b1, g1⟩ := Blk.setCells news (k * 2) w.drew C hb.drew hkl
  rw [← Nat.zero_add (k * 2), ← hW1] at b1 g1
  rw [Nat.zero_add] at b1
  have hl1 : (splice C (k * 2) news).length = C.length := length_splice C (k * 2) news hkl
  obtain ⟨m, hm⟩ : ∃ m, m = k + (n - j) := ⟨_, rfl⟩
  have hmn : m + 1 = n := by omega
  have hcl : ∀ ty, (Builtin.clear_ #[44] ty #[.slice (some ⟨g, (k + (n - j)) * 2, none⟩) (n - (k + (n - j))) (c - (k + (n - j)))]).run Try.prog W1 = .ok (.tuple #[]) (W1.setCells g (m * 2) [.int .i64 0, .slice none 0 0]) := by
    intro ty
    rw [← hm, show n - m = 1 by omega]
    exact run_clear_pk W1 ty g (m * 2) (c - m) (fun t ht => by rw [b1.cell (i := m * 2 + t) (by rw [hl1, hl]; omega)]; rfl) (fun t ht => b1.frozen _)
  obtain ⟨b2, g2⟩ := Blk.setCells [.int .i64 0, .slice none 0 0] (m * 2) W1 _ b1 (by rw [hl1, hl]; simp; omega)
  have hG : Hid (w.grownBy (W1.setCells g (m * 2) [.int .i64 0, .slice none 0 0]) (some g)) := hid (by
    have g0 : w.grownBy W1 (some g) := ⟨g1.os, g1.tape, g1.output, g1.size, g1.block⟩
    exact ⟨g2.os.trans g0.os, g2.tape.trans g0.tape, g2.output.trans g0.output, Nat.le_trans g0.size g2.size, fun k hk hne => (g2.block k (Nat.lt_of_lt_of_le hk g0.size) hne).trans (g0.block k hk hne)⟩)
  have hO : Hid (Own (W1.setCells g (m * 2) [.int .i64 0, .slice none 0 0]) B 56 2 (some ⟨g, 0, none⟩) (n - 1) c ((L.eraseIdx k).flatMap pkC)) := hid (by
    have hs : (splice (splice C (k * 2) news) (m * 2) [.int .i64 0, .slice none 0 0]).length = c * 2 := by rw [length_splice _ _ _ (by rw [hl1, hl]; simp; omega), hl1, hl]
    have q := Own.of_blk (B := B) (sz := 2) (n := n - 1) (c := c) b2 hB (by omega) hc hs
    have e : (splice (splice C (k * 2) news) (m * 2) [.int .i64 0, .slice none 0 0]).take ((n - 1) * 2) = (L.eraseIdx k).flatMap pkC := by
      have q2 := del_cells pkC 2 (fun _ => rfl) L k hk C [.int .i64 0, .slice none 0 0] ht (by rw [hl]; exact Nat.mul_le_mul_right 2 hnc)
      rw [show m = L.length - 1 by omega, hn, hnews, hj]; exact q2
    rw [e] at q
    exact q)
  have hW : Hid (W1 = w.drew.setCells g (0 + k * 2) news) := hid hW1
  have hnew := hid hn
  have hkj := hid hj
  have hmm := hid hm
  rw [← hn] at hk hn9 hnc ⊢
  rw [← hj]
  have hc9 : c ≤ 9223372036854775807 := by unfold maxLen at hc; omega
  have hkc : k ≤ c := by omega
  have hjc : j ≤ c := by omega
  have hjn : j ≤ n := by omega
  have hkj' : k ≤ j := by omega
  have hne : k ≠ j := by omega
  have hm1 : n - m = 1 := by omega
  generalize W1.setCells g (m * 2) [.int .i64 0, .slice none 0 0] = W2 at hcl hO hG
  clear hW1 b1 g1 b2 g2 hl hl1 hkl hlen hsub hnews ht hb ho hn hj
  go_enter Try.func25, Try.ntmps25
  go_wp2_with fail
  go_region_law (refine step_append_room rfl (.tmp 22) (.tmp 25) 44 rfl 56 i0 2 Try.underlying44 hi0 hz1 g 0 k c (by simp [Act.eval, Act.put]) A (n - j) (c - j) news (by simp [Act.eval, Act.put]) s1.out hsrc.out s2.out (by omega) s3.out ?_; rw [← hW.out])
  go_wp2
  go_ret
  exact ⟨by rw [show n - 1 = k + (n - j) by omega]; rfl, hO.out, hG.out⟩
end Go.Proofs.Ytgigadjohjpdkaa
