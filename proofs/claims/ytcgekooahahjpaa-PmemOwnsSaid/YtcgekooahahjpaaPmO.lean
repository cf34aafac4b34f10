/- The document's memory: a cell kept, a fence, a line evicted. -/
import Derived.Test.YtcgekooahahjpaaPmN
namespace Go.Proofs.Ytcgekooahahjpaa
open Go.RowKit
set_option linter.unusedSimpArgs false
set_option linter.unusedVariables false

theorem byteV_bAt (V : List UInt8) {i : Nat} (h : i < V.length) : byteV V[i] = .int .u8 (bAt V i : Int) := by simp [byteV, bAt_eq h]
/-- one byte more of a cell -/
theorem splice_step (V D : List UInt8) (q j : Nat) (hV : q + j < V.length) (hD : q + j < D.length) :
    ((splice D q ((V.drop q).take j)).map byteV).set (q + j) (.int .u8 (bAt V (q + j) : Int)) = (splice D q ((V.drop q).take (j + 1))).map byteV := by
  have hl : ((V.drop q).take j).length = j := by simp; omega
  have hs := splice_set D q ((V.drop q).take j) V[q + j] (by rw [hl]; exact hD)
  rw [hl] at hs
  rw [← byteV_bAt V hV, ← List.map_set, hs]
  congr 2
  rw [List.take_add_one, List.getElem?_drop, List.getElem?_eq_getElem hV]
  rfl
theorem blk_bool {w : World} {a : Nat} {A : List Bool} (h : Blk w a 4 (A.map .bool)) {k : Nat} (hk : k < A.length) : w.cell? ⟨a, k, none⟩ = some (.bool (A.getD k false)) := by
  rw [h.cell (i := k) (by simpa using hk)]; simp [hk]
theorem MemR.setD {w w' : World} {g v d a : Nat} {M : MemM} {D : List UInt8} {A : List Bool} (h : MemR w g v d a M) (t : Turns (fun k => k = d ∨ k = a) w w') (hd : Blk w' d 5 (D.map byteV)) (ha : Blk w' a 4 (A.map .bool)) (hD : D.length = M.D.length) (hA : A.length = M.A.length) : MemR w' g v d a ⟨M.V, D, A⟩ := by
  obtain ⟨_, h1, h2, h3, h4, h5, h6, h7, h8, h9⟩ := ref_apart h
  obtain ⟨⟨l1, l2, l3, l4, l5⟩, hne, hg, hv, _, _⟩ := h
  refine ⟨⟨hD.trans l1, by show A.length * 8 = M.V.length; rw [hA]; exact l2, l3, l4, l5⟩, hne, ?_, t.blk hv (by omega), hd, ha⟩
  have := t.blk hg (by omega)
  rw [← hA] at this
  exact this

set_option maxHeartbeats 2000000 in
theorem keepR_any {w : World} {g v d a : Nat} {M : MemM} (h : MemR w g v d a M) (k : Nat) (hk : k < M.A.length) :
    Calls Try.prog 42 #[.pointer (some ⟨g, 0, none⟩), .int .i64 (k : Int)] w fun e w' => (∃ x, e = .returned x) ∧ MemR w' g v d a ⟨M.V, mixF (fun i => i == k) M.V M.D, M.A.set k false⟩ ∧ Turns (fun b => b = d ∨ b = a) w w' := by
  obtain ⟨av, ag1, ag2, ap1, ap2, ap3, gl, vl, dl, al⟩ := ref_apart h
  have hVl := h.1.2.2.2.2
  have hAl := h.1.2.1
  have hDl := h.1.1
  have hk8 : 8 * k + 8 ≤ M.V.length := by omega
  have e0 : IntKind.i64.wrap (8 * (k : Int)) = ((8 * k : Nat) : Int) := by rw [IntWalk.i64_in _ (by omega)]; omega
  have hmx := splice_mix hDl (k := k) (by omega)
  unfold cell8 at hmx
  rw [← hmx]
  have H := hid h; have HDL := hid hDl
  have hst := fun j (hj : j < 8) => splice_step M.V M.D (8 * k) j (by omega) (by omega)
  have HST := hid hst
  clear h hDl hAl hmx hst
  generalize h8 : 8 * k = q at *
  have e1 : IntKind.i64.wrap ((q : Int) + 8) = (q : Int) + 8 := IntWalk.i64_in _ (by omega)
  clear h8
  go_enter Try.func42, Try.ntmps42
  go_wp2
  go_loopw [4] (fun i wr => ∃ j : Nat, j ≤ 8 ∧ i = .int .i64 (q + j : Nat) ∧ Blk wr d 5 ((splice M.D q ((M.V.drop q).take j)).map byteV) ∧ Turns (fun b => b = d) w wr) (fun i _ => q + 8 - (intOf i).toNat)
  case atStart => exact ⟨0, by omega, rfl, by simpa [splice] using H.out.2.2.2.2.1, Turns.refl _ _⟩
  case round =>
    obtain ⟨j, hj, rfl, hb, ht⟩ := hrel
    have hg := ht.blk H.out.2.2.1 ag2
    have hv := ht.blk H.out.2.2.2.1 av
    have c0 : wr.cell? ⟨g, 0, none⟩ = some (.slice (some ⟨v, 0, none⟩) M.V.length M.V.length) := hg.cell (i := 0) (by simp)
    have c1 : wr.cell? ⟨g, 1, none⟩ = some (.slice (some ⟨d, 0, none⟩) M.V.length M.V.length) := hg.cell (i := 1) (by simp)
    have c2 : wr.cell? ⟨g, 2, none⟩ = some (.slice (some ⟨a, 0, none⟩) M.A.length M.A.length) := hg.cell (i := 2) (by simp)
    have c2f := hg.frozen 2
    have i0 : ((q + j : Nat) : Int) = (q : Int) + j := by omega
    by_cases hjc : j < 8
    · have cv := blk_byte hv (i := q + j) (by omega)
      have hlen : (splice M.D q ((M.V.drop q).take j)).length = M.V.length := by
        rw [length_splice _ _ _ (by have := HDL.out; simp; omega)]; exact HDL.out
      have cd := blk_byte hb (i := q + j) (by omega)
      have fd := hb.frozen (q + j)
      have i1 : ((q + j : Nat) : Int) < (q : Int) + 8 := by omega
      have i2 : ((q + j : Nat) : Int) < (M.V.length : Int) := by omega
      have i3 : q + j < M.V.length := by omega
      have e3 : IntKind.i64.wrap (((q + j : Nat) : Int) + 1) = ((q + j : Nat) : Int) + 1 := IntWalk.i64_in _ (by omega)
      have hnew := hb.set (q + j) (.int .u8 (bAt M.V (q + j) : Int))
      rw [HST.out j hjc] at hnew
      have HB := hid hnew; have HT := hid ht
      clear hg hv hb ht i0 hlen hnew
      generalize hx : bAt M.V (q + j) = x at *
      generalize hK : q + j = K at *
      have HK := hid hK
      clear hK hx
      go_wp2_with fail
      go_region
      all_goals
        go_wp2
        go_roundw
        case rel => have hK := HK.out; exact ⟨j + 1, by omega, by go_num, HB.out, (HT.out.setCell (p := ⟨d, K, none⟩) rfl _).drew⟩
        case measure => have hK := HK.out; simp [intOf]; omega
    · obtain rfl : j = 8 := by omega
      have ha := ht.blk H.out.2.2.2.2.2 ap3
      obtain ⟨z, hz⟩ : ∃ z, wr.cell? ⟨a, k, none⟩ = some z := ⟨_, ha.cell (i := k) (by simpa using hk)⟩
      have hf := ha.frozen k
      have i1 : (k : Int) < (M.A.length : Int) := by omega
      have HA := hid ha; have HB := hid hb; have HT := hid ht
      clear ha hb ht hg hv i0
      go_wp2
      go_end0
      have t1 : Turns (fun b => b = a) wr (wr.setCell ⟨a, k, none⟩ (.bool false)) := (Turns.refl (fun b => b = a) wr).setCell (p := ⟨a, k, none⟩) rfl _
      have t2 : Turns (fun b => b = d ∨ b = a) w (wr.setCell ⟨a, k, none⟩ (.bool false)) := (HT.out.mono (fun _ q => .inl q)).trans (t1.mono (fun _ q => .inr q))
      have hA := HA.out.set k (.bool false)
      rw [← List.map_set] at hA
      exact ⟨⟨_, rfl⟩, H.out.setD t2 (t1.blk HB.out ap3.symm) hA (by rw [length_splice _ _ _ (by have := HDL.out; simp; omega)]) (by simp), t2⟩

/-! ### a fence -/
set_option maxHeartbeats 2000000 in
theorem fenceR_any {w : World} {g v d a : Nat} {M : MemM} (h : MemR w g v d a M) :
    Calls Try.prog 26 #[.pointer (some ⟨g, 0, none⟩)] w fun e w' => (∃ x, e = .returned x) ∧ MemR w' g v d a (fenceM M) ∧ Turns (fun b => b = d ∨ b = a) w w' := by
  have hVl := h.1.2.2.2.2
  have hAl := h.1.2.1
  have hN : M.A.length ≤ 200000 := by omega
  have H := hid h
  have hf : fenceM M = ⟨M.V, mixF (fun k => M.A.getD k false) M.V M.D, tabF M.A.length fun _ => false⟩ := rfl
  rw [hf]
  clear h hf hAl
  go_enter Try.func26, Try.ntmps26
  go_wp2
  go_loopw [2] (fun i wr => ∃ k : Nat, k ≤ M.A.length ∧ i = .int .i64 k ∧ MemR wr g v d a ⟨M.V, mixF (fun i => decide (i < k) && M.A.getD i false) M.V M.D, tabF M.A.length fun i => !decide (i < k) && M.A.getD i false⟩ ∧ Turns (fun b => b = d ∨ b = a) w wr) (fun i _ => M.A.length - (intOf i).toNat)
  case atStart =>
    refine ⟨0, by omega, rfl, ?_, Turns.refl _ _⟩
    rw [mixF_congr (g := fun _ => false) (fun k _ => by simp), mixF_none, tabF_congr (g := fun k => M.A.getD k false) (fun k _ => by simp), tabF_self]
    exact H.out
  case round =>
    obtain ⟨k, hk, rfl, hm, ht⟩ := hrel
    obtain ⟨c0, c1, c2⟩ := hm.cells
    have hl : (tabF M.A.length fun i => !decide (i < k) && M.A.getD i false).length = M.A.length := tabF_len _ _
    by_cases hkl : k < M.A.length
    · have ca : wr.cell? ⟨a, k, none⟩ = some (.bool (M.A.getD k false)) := by
        rw [blk_bool hm.2.2.2.2.2 (by show k < (tabF _ _).length; rw [tabF_len]; exact hkl)]
        show some (Value.bool ((tabF _ _).getD k false)) = _
        rw [tabF_get _ hkl]; simp
      simp only [hl] at c2
      have HK := hid (keepR_any hm k (by rw [hl]; exact hkl))
      have HM := hid hm; have HT := hid ht
      have i1 : (k : Int) < (M.A.length : Int) := by omega
      have e3 : IntKind.i64.wrap ((k : Int) + 1) = (k : Int) + 1 := IntWalk.i64_in _ (by omega)
      clear hm ht hl
      by_cases hb : M.A.getD k false = true
      · rw [hb] at ca
        have HBT := hid hb
        clear hb
        go_wp2_with (first
          | (go_at_call 42; refine HK.out.mono ?_; rintro e w2 ⟨⟨z, rfl⟩, m2, t2⟩; have M2 := hid m2; have T2 := hid t2; clear m2 t2))
        go_roundw
        case rel =>
          refine ⟨k + 1, by omega, by go_num, ?_, HT.out.trans T2.out⟩
          have := M2.out
          rw [mixF_setA, tabF_set] at this
          rw [mixF_congr (g := fun i => decide (i < k) && M.A.getD i false || i == k) (fun i _ => ?_), tabF_congr (g := fun i => if i = k then false else !decide (i < k) && M.A.getD i false) (fun i _ => ?_)]
          · exact this
          · by_cases e : i = k
            · subst e; simp
            · have : (i < k + 1) ↔ (i < k) := by omega
              simp [e, this]
          · by_cases e : i = k
            · subst e; rw [HBT.out]; simp
            · have : (i < k + 1) ↔ (i < k) := by omega
              simp [e, this]
        case measure => simp [intOf]; omega
      · rw [show M.A.getD k false = false by simpa using hb] at ca
        have HBT := hid (show M.A.getD k false = false by simpa using hb)
        clear hb
        go_wp2
        go_roundw
        case rel =>
          refine ⟨k + 1, by omega, by go_num, ?_, HT.out⟩
          have := HM.out
          rw [mixF_congr (g := fun i => decide (i < k) && M.A.getD i false) (fun i _ => ?_), tabF_congr (g := fun i => !decide (i < k) && M.A.getD i false) (fun i _ => ?_)]
          · exact this
          · by_cases e : i = k
            · subst e; rw [HBT.out]; simp
            · have : (i < k + 1) ↔ (i < k) := by omega
              simp [this]
          · by_cases e : i = k
            · subst e; rw [HBT.out]; simp
            · have : (i < k + 1) ↔ (i < k) := by omega
              simp [this]
        case measure => simp [intOf]; omega
    · obtain rfl : k = M.A.length := by omega
      simp only [hl] at c2
      have HM := hid hm; have HT := hid ht
      clear hm ht hl
      go_wp2
      go_end0
      refine ⟨⟨_, rfl⟩, ?_, HT.out⟩
      have hm := HM.out
      have h8 := hm.1.1
      rw [mixF_congr (g := fun k => M.A.getD k false) (fun k hk => ?_), tabF_congr (g := fun _ => false) (fun k hk => by simp [hk])] at hm
      · exact hm
      · have : k < M.A.length := by have := H.out.1.2.1; have := H.out.1.1; omega
        simp [this]
end Go.Proofs.Ytcgekooahahjpaa
