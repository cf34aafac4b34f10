/- Packets in transit: any deed; do the bags look alike? -/
import Derived.Test.YtgigadjohjpdkaaNetQ
namespace Go.Proofs.Ytgigadjohjpdkaa
open Go.RowKit
set_option linter.unusedSimpArgs false
set_option linter.unusedVariables false

theorem does_any (B gb gr : Nat) (L : List PkT) (kind : Int) (n : Int) (a : Option Addr) (c : Nat) (xs : List UInt8) (w : World) (h : Mid w B gb gr L (L.map seenP)) (hr : ∀ X, Below B w X → RowB X a c xs) :
    Calls Try.prog 7 #[.pointer (some ⟨gb, 0, none⟩), .pointer (some ⟨gr, 0, none⟩), .agg #[.int .i64 kind, .int .i64 n, .slice a xs.length c]] w fun e w' => e = .returned (.bool true) ∧ ∃ L', Mid w' B gb gr L' (L'.map seenP) ∧ Below B w w' := by
  by_cases k0 : kind = 0
  · subst k0; exact does_send B gb gr L _ rfl n a c xs w h hr
  by_cases k1 : kind = 1
  · subst k1; exact does_take B gb gr L _ rfl n a c xs w h hr
  by_cases k2 : kind = 2
  · subst k2; exact does_stay B gb gr L _ rfl n a c xs w h hr
  by_cases k3 : kind = 3
  · subst k3; exact does_drop B gb gr L _ rfl n a c xs w h hr
  by_cases k4 : kind = 4
  · subst k4; exact does_lose B gb gr L _ rfl n a c xs w h hr
  exact does_other B gb gr L _ rfl kind ⟨k0, k1, k2, k3, k4⟩ n a c xs w h hr

set_option maxHeartbeats 4000000 in
theorem like_any (B gb gr : Nat) (L : List PkT) (w : World) (h : Mid w B gb gr L (L.map seenP)) :
    Calls Try.prog 8 #[.pointer (some ⟨gb, 0, none⟩), .pointer (some ⟨gr, 0, none⟩)] w fun e w' => e = .returned (.bool true) ∧ Below w.heap.size w w' := by
  obtain ⟨⟨ra, rc, h1⟩, ⟨rb, rd, h2⟩, h3, _, h5, h6⟩ := h
  have H1 := hid (fun X (b : Below w.heap.size w X) => h1.mono b)
  have H2 := hid (fun X (b : Below w.heap.size w X) => h2.mono b)
  have hml : (L.map seenP).length = L.length := List.length_map _
  have hk2 : ∀ X, Below w.heap.size w X → X.cell? ⟨gr, 0, none⟩ = some (.slice rb L.length rd) := by
    intro X b
    have e : (Value.slice rb (L.map seenP).length rd) = .slice rb L.length rd := by rw [hml]
    rw [← e]
    exact (h2.2.1.mono b).cell (i := 0) (by simp)
  have c0 := hk2 w (Below.refl _ _)
  have HK2 := hid hk2
  have HLq := hid (fun (X : World) (b : Below w.heap.size w X) => len_any gb ra L.length rc X (h1.2.1.mono b))
  have HX := hid h5
  clear h1 h2 h5 hml hk2
  go_enter Try.func8, Try.ntmps8
  go_wp2_with fail
  go_quiet (first
    | (go_at_call 11; exact Calls.quiet_of_same (v := .int .i64 L.length) ((HLq.out _ (below_drewN (Below.refl _ _) _)).mono (fun e w6 hh => ⟨hh.1, hh.2.symm⟩))))
  go_wp2_with fail
  go_loopw [5] (fun i wr => ∃ j : Nat, j ≤ L.length ∧ i = .int .i64 j ∧ Below w.heap.size w wr) (fun i _ => L.length - (intOf i).toNat)
  case atStart => exact ⟨0, Nat.zero_le _, rfl, below_drewN (Below.refl _ _) _⟩
  case round =>
    obtain ⟨j, hj, rfl, hbel⟩ := hrel
    have cg := HK2.out wr hbel
    by_cases hlt : j < L.length
    · have ltd : decide ((j : Int) < (L.length : Int)) = true := decide_eq_true (by omega)
      have HTk := hid (take_stay B gb ra rc L j wr (H1.out wr hbel) hlt (by have := HX.out _ (List.getElem_mem hlt); omega))
      have hrow := (H2.out wr hbel).2.2.row
      obtain ⟨b, off, e, hbl, hc⟩ := row_flat (enc := rkC) (fun _ => rfl) hrow (by rw [List.length_map]; omega)
      have hc0 : wr.cell? ⟨b, off + j * 2, none⟩ = some (.int .i64 L[j].to) := by
        have := hc j (by rw [List.length_map]; exact hlt) 0 (.int .i64 L[j].to) (by rw [List.getElem_map]; rfl)
        exact this
      have hc1 : wr.cell? ⟨b, off + j * 2 + 1, none⟩ = some (.string ⟨L[j].xs.toArray⟩) := hc j (by rw [List.length_map]; exact hlt) 1 _ (by rw [List.getElem_map]; rfl)
      have hcap : L.length ≤ rd := by have := hrow.2.1; rw [List.length_map] at this; exact this
      have hc9 := hrow.2.2.1
      subst e
      clear hc hrow
      generalize L[j].to = to at *
      generalize L[j].xs = xs at *
      go_wp2_with fail
      refine HTk.out.mono ?_
      rintro e w3 ⟨a3, c3, rfl, o3, b3⟩
      have e3 : ∀ nq, (convert 30 9 (.slice a3 xs.length c3)).run Try.prog (w3.drewN nq) = .ok (.string ⟨xs.toArray⟩) (w3.drewN nq) := fun nq => run_str (o3.row.mono (below_drewN (Below.refl _ _) nq))
      have y0 := (b3.cell (p := ⟨b, off + j * 2, none⟩) hbl).trans hc0
      have y1 := (b3.cell (p := ⟨b, off + j * 2 + 1, none⟩) hbl).trans hc1
      have B3 := hid (kept_trans hbel b3)
      have yg := HK2.out w3 B3.out
      clear o3 b3 hc0 hc1 cg
      go_wp2_with fail
      go_quiet (fail)
      go_wp2_with fail
      go_roundw
      case rel => exact ⟨j + 1, by omega, by go_num, below_drewN B3.out _⟩
      case measure => simp [intOf]; omega
    · obtain rfl : j = L.length := by omega
      have ltd : decide ((L.length : Int) < (L.length : Int)) = false := decide_eq_false (by omega)
      go_wp2_with fail
      have HB0 := hid hbel
      clear cg hbel
      go_loopw [9] (fun i wq => ∃ z : Int, -1 ≤ z ∧ z ≤ 10 ∧ i = .int .i64 z ∧ Below w.heap.size w wq) (fun i _ => (10 - intOf i).toNat)
      case atStart => exact ⟨-1, by omega, by omega, rfl, HB0.out⟩
      case round =>
        obtain ⟨z, hz1, hz2, rfl, hbq⟩ := hrel
        by_cases hz9 : z ≤ 9
        · have zd : decide (z ≤ 9) = true := decide_eq_true hz9
          have HT1 := hid (To_any B gb ra rc L z _ (H1.out _ hbq) (by omega))
          have HT2 := hid (fun (X : World) (b : Below w.heap.size w X) => rTo_any B gr rb rd (L.map seenP) z X (H2.out X b) (by rw [List.length_map]; omega))
          rw [idxR_map] at HT2
          go_wp2_with fail
          refine HT1.out.mono ?_
          rintro e w5 ⟨a5, c5, rfl, r5, b5⟩
          have R5 := hid r5; have B5 := hid (kept_trans hbq b5)
          clear r5 b5
          go_wp2_with fail
          refine (HT2.out w5 B5.out).mono ?_
          rintro e w6 ⟨a6, c6, rfl, r6, b6⟩
          have hss := sameInts_any a5 a6 c5 c6 _ _ w6 (R5.out.mono b6) r6
          rw [decide_eq_true rfl] at hss
          have HSS := hid hss
          have B6 := hid (kept_trans B5.out b6)
          clear r6 b6 hss
          go_wp2_with fail
          refine HSS.out.mono ?_
          rintro e w7 ⟨rfl, b7⟩
          have B7 := hid (kept_trans B6.out b7)
          clear b7
          go_wp2_with fail
          go_roundw
          case rel => exact ⟨z + 1, by omega, by omega, rfl, B7.out⟩
          case measure => simp [intOf]; omega
        · have zd : decide (z ≤ 9) = false := decide_eq_false hz9
          go_wp2_with fail
          go_ret
          exact ⟨rfl, hbq⟩
end Go.Proofs.Ytgigadjohjpdkaa
