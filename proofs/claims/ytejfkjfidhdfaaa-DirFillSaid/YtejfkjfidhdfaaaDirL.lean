/- The statements of stage 12: DirSets. -/
import Derived.Test.YtejfkjfidhdfaaaDirK
namespace Go.Proofs.Ytejfkjfidhdfaaa
open Go.RowKit Go.Shelf Go.WideShapes Go.ChangeShapes Go.Deep
set_option linter.unusedSimpArgs false
set_option linter.unusedVariables false

theorem array2E {α : Type} {cs : Array α} (h : cs.size = 2) : ∃ a b, cs = #[a, b] := by
  match cs, h with
  | ⟨[a, b]⟩, _ => exact ⟨a, b, rfl⟩
theorem trod_atE {α : Type} {o : Option α} {l : List α} {j : Nat} (h : o = l[j]?) (hj : j < l.length) : ∃ y, o = some y := ⟨_, h.trans (List.getElem?_eq_getElem hj)⟩
theorem open_entry {H : Type} {enc : TypeId × Value → H} {W : World} {base base' : Nat} {spare : Nat → Bool} {held : Bool} {v : Value} {d : DataW H} {p : List MemPlace}
    (hv : Value.okWide Try.prog W .any base' 24 v) (h : DataW.Trod enc Try.prog W base spare held 24 v d p) :
    ∃ (n : ByteArray) (i : Int), v = .agg #[.string n, .int .i64 i] ∧ (Lit.int .i64 i).wf = true := by
  obtain ⟨cs, rfl, hsz⟩ := okWide_struct Try.underlying24 hv
  have k5 : Try.prog.cellsOf 24 = 2 := by kernel_rfl
  have k1 : Try.prog.cellsOf 3 = 1 := by kernel_rfl
  have k3 : Try.prog.cellsOf 9 = 1 := by kernel_rfl
  obtain ⟨c0, c1, rfl⟩ := array2E (hsz.trans k5)
  obtain ⟨fuel, hf⟩ := h
  obtain ⟨xs, n, _, hx, hl, hlen, hf⟩ := DataW.trod_struct Try.underlying24 hf
  have hlen' : xs.length = 2 := hlen
  obtain ⟨y0, h0⟩ := trod_atE (hf 0 _ rfl) (by omega)
  obtain ⟨y1, h1⟩ := trod_atE (hf 1 _ rfl) (by omega)
  simp [Value.cells, k1, k3] at h0 h1
  obtain ⟨n0, e0, _⟩ := DataW.trod_string Try.underlying9 h0
  obtain ⟨n1, e1, _, w1⟩ := DataW.trod_int Try.underlying3 h1
  simp only [List.cons.injEq, and_true] at e0 e1
  subst e0 e1
  exact ⟨n0, n1, rfl, w1⟩

/-- an entry stored into a list -/
theorem wpl_storeEl {w : World} {ops : Array Oper} {rest : List Oper} {o : Oper} {act : Act} {Q : Exit → Act → World → Prop} (hgd : o.guard = none) (x y : Operand)
    (ho : o.op = .store 24 x y) (g k : Nat) (hx : act.eval x = .pointer (some ⟨g, k * 2, none⟩)) (n : ByteArray) (i : Int) (hy : act.eval y = .agg #[.string n, .int .i64 i]) {e : TypeId} {L : List Value} (hb : Blk w g e L) (hk : k * 2 + 2 ≤ L.length)
    (h : ∀ w', Blk w' g e (splice L (k * 2) (entC ⟨n, i⟩)) → w.grownBy w' (some g) → wpList Try.prog ops Q rest (act.put o.dst undef) w') : wpList Try.prog ops Q (o :: rest) act w :=
  wpl_storeM hgd 24 x y ho g (k * 2) hx [.string n, .int .i64 i] hy (by rw [infoEnt]; rfl) (entC_one ⟨n, i⟩) hb (by simp; omega) h

set_option maxHeartbeats 2000000 in
set_option maxRecDepth 100000 in
theorem DirSets_walk (w : World) (a : Option Addr) (c : Nat) (L : List EntT) (r : RowE w a c L) (x : Int) (wx : (Lit.int .i64 x).wf = true) (n : ByteArray) (i : Int) (wi : (Lit.int .i64 i).wf = true) :
    Calls Try.prog 4 #[.slice a L.length c, .int .i64 x, .agg #[.string n, .int .i64 i]] w fun e w' => e = .returned (.bool true) ∧ Below w.heap.size w w' := by
  obtain ⟨z, hz⟩ : ∃ z, z = zeroT := ⟨_, rfl⟩
  have HZE := hid hz
  have HZ := hid (show z.length = 16 by rw [hz]; exact zero_len)
  have HL := hid (tab_len HZ.out)
  have HT := hid (tabE_len L)
  have HTab := hid (table_any a c L (w.alloc (.cells #[.string n, .int .i64 i] 24)) (r.alloc _))
  have HSh := hid (fun w1 => short_any n w1)
  have KE := hid (blk_newO (W := w) rfl 24 [.string n, .int .i64 i])
  have BE := hid (albO w (.cells #[.string n, .int .i64 i] 24))
  have SE := hid (show (w.alloc (.cells #[.string n, .int .i64 i] 24)).heap.size = w.heap.size + 1 by simp)
  clear hz r wx wi
  generalize tabE L = t at *
  generalize shortB n = q at *
  have HS := hid (fun w1 => setT_any t x q i HT.out w1)
  have HSL := hid (show (setT t x ⟨q, i⟩).length = 16 by rw [setT_len]; exact HT.out)
  obtain ⟨u, hu⟩ : ∃ u, u = setT t x ⟨q, i⟩ := ⟨_, rfl⟩
  rw [← hu] at HS HSL
  have HU := hid hu
  clear hu
  have HM1 := hid (fun w1 => dirMay_any q i w1)
  have HM2 := hid (fun w1 => refMay12_any q i w1)
  generalize mayE q i = mm at *
  go_enter Try.func4, Try.ntmps4
  go_wp2_with (go_at_call 10; fail)
  refine (HTab.out).mono ?_
  rintro e w1 ⟨g, c1, rfl, o1, b1⟩
  rw [SE.out] at o1 b1
  have O1 := hid o1; have B1 := hid (BE.out.trans (b1.mono (by omega))); have KE1 := hid (KE.out.below b1 (by omega))
  have hs1 : w.heap.size + 1 ≤ w1.heap.size := by have := b1.size; rw [SE.out] at this; exact this
  have hg1 : g < w1.heap.size := (own_entAt HT.out o1).1
  have hg0 : w.heap.size < g := by obtain ⟨_, _, _, h, _⟩ := own_splice o1; omega
  clear o1 b1
  go_wp2_with (first
    | ((with_reducible refine wpl_allocT (z := z) HZE.out rfl rfl ?_); intro w2 k2 b2 s2; have K2 := hid k2; have B2 := hid (kept_trans B1.out b2); have O2 := hid (O1.out.mono b2); have KE2 := hid (KE1.out.mono b2); clear k2 b2 s2)
    | ((with_reducible refine wpl_storeT rfl _ _ rfl w1.heap.size rfl t HT.out rfl K2.out HL.out ?_); intro w3 k3 g3; have K3 := hid k3; have B3 := hid (below_grownS B2.out g3 B1.out.size B2.out.size); have G3 := hid g3; clear k3 g3
       have KE3 := hid (KE2.out.grownS G3.out (by omega)); have O3 := hid (O2.out.staysO G3.out (.inr (by simp [Value.ownBlock]; omega))); have H3 := hid (Nat.lt_of_lt_of_le K2.out.lt G3.out.size)
       have ce0 := KE3.out.cell (i := 0) (by simp); have ce1 := KE3.out.cell (i := 1) (by simp); have cf0 := KE3.out.frozen 0
       simp only [List.getElem_cons_zero, List.getElem_cons_succ] at ce0 ce1)
    | (go_at_call 11; fail))
  refine (HSh.out w3).mono ?_
  rintro e w4 ⟨rfl, rfl⟩
  obtain ⟨w4, hw4⟩ : ∃ w4, w4 = w3.setCell ⟨w.heap.size, 0, none⟩ (.string q) := ⟨_, rfl⟩
  have K4 : Hid (Blk w4 w1.heap.size 26 (tabC t)) := by rw [hw4]; exact K3.out.setOtherS (by omega) 0 _
  have KE4 : Hid (Blk w4 w.heap.size 24 [.string q, .int .i64 i]) := by rw [hw4]; exact KE3.out.set 0 _
  have G4 : w3.grownBy w4 (some w.heap.size) := by rw [hw4]; exact sg_set (sg_refl _ _) 0 _
  have O4 := hid (own_grownO O3.out G4 (by omega))
  have B4 := hid (below_grownS B3.out G4 (Nat.le_refl _) B3.out.size)
  have H4 := hid (Nat.lt_of_lt_of_le H3.out G4.size)
  have HW := hid hw4
  clear hw4 G4
  go_wp2_with (first
    | (rw [← HW.out]; with_reducible refine wpl_loadT rfl _ rfl w1.heap.size rfl t HT.out K4.out ?_)
    | (with_reducible refine wpl_loadEn rfl _ rfl w.heap.size rfl q i KE4.out ?_)
    | (go_at_call 17; fail))
  clear ce0 ce1 cf0
  refine (HS.out w4).mono ?_
  rintro e w5 ⟨rfl, b5⟩
  have K5 := hid (K4.out.mono b5); have KE5 := hid (KE4.out.mono b5); have O5 := hid (O4.out.mono b5); have B5 := hid (kept_trans B4.out b5); have H5 := hid (Nat.lt_of_lt_of_le H4.out b5.size)
  clear b5
  by_cases hin : 0 ≤ x ∧ x < 16
  · obtain ⟨k, rfl⟩ : ∃ k : Nat, x = k := ⟨x.toNat, by omega⟩
    have hk16 : k < 16 := by omega
    have hr : u = t.set k ⟨q, i⟩ := by rw [HU.out]; unfold setT; rw [if_pos hin]; rfl
    have HR := hid hr
    have d1 : decide ((0 : Int) ≤ k) = true := decide_eq_true (by omega)
    have d2 : decide ((k : Int) < 16) = true := decide_eq_true (by omega)
    have d3 : (k : Int) < 16 := hin.2
    clear hr hin
    go_wp2_with (first
      | ((with_reducible refine wpl_allocT (z := z) HZE.out rfl rfl ?_); intro w6 k6 b6 s6; have K6 := hid k6; have B6 := hid (kept_trans B5.out b6); have O6 := hid (O5.out.mono b6); have KE6 := hid (KE5.out.mono b6); clear k6 b6 s6)
      | ((with_reducible refine wpl_storeT rfl _ _ rfl w5.heap.size rfl u HSL.out rfl K6.out HL.out ?_); intro w7 k7 g7; have K7 := hid k7; have B7 := hid (below_grownS B6.out g7 B5.out.size B6.out.size); have G7 := hid g7; clear k7 g7
         have q5 := O5.out.row.at (by omega)
         have hlt5 : g < w5.heap.size := by obtain ⟨_, _, e5, h5, _⟩ := q5; cases e5; exact h5
         have KE7 := hid (KE6.out.grownS G7.out (by have := H5.out; omega)); have O7 := hid (O6.out.staysO G7.out (.inr (by simp [Value.ownBlock]; omega)))
         obtain ⟨L7, hb7, hl7, hB7, hs7⟩ := own_splice O7.out
         have HB7 := hid hb7; have HS7 := hid hs7; have HK7 := hid (show k * 2 + 2 ≤ L7.length by omega)
         clear hb7 hs7 q5)
      | (with_reducible refine wpl_loadEn rfl _ rfl w.heap.size rfl q i KE7.out ?_)
      | ((with_reducible refine wpl_storeEl rfl _ _ rfl g k rfl q i rfl HB7.out HK7.out ?_); intro w8 k8 g8; have O8 := hid (HS7.out w8 (k * 2) (entC ⟨q, i⟩) (by simp [entC]; omega) k8); have G8 := hid g8; clear k8 g8
         have K8 := hid (K7.out.grownS G8.out (by omega)); have KE8 := hid (KE7.out.grownS G8.out (by omega)); have B8 := hid (below_grownS B7.out G8.out (by omega) B7.out.size))
      | (with_reducible refine wpl_loadT rfl _ rfl w5.heap.size rfl u HSL.out K8.out ?_)
      | (go_at_call 19; fail))
    have o8 : Own w8 (w.heap.size + 1) 24 2 (some ⟨g, 0, none⟩) 16 c1 (tabC u) := by
      rw [HR.out]; unfold tabC; rw [flat_set entC 2 (fun _ => rfl) t k ⟨q, i⟩ (by rw [HT.out]; exact hk16)]; exact O8.out
    refine (entries_any u HSL.out w8).mono ?_
    rintro e w9 ⟨g9, c9, rfl, o9, b9⟩
    have O9 := hid o9; have R9 := hid (o8.mono b9).row; have KE9 := hid (KE8.out.mono b9); have B9 := hid (kept_trans B8.out b9)
    clear o9 b9 o8
    go_wp2_with (go_at_call 18; fail)
    refine (sameE_any u HSL.out _ _ _ _ w9 O9.out.row R9.out).mono ?_
    rintro e w10 ⟨rfl, b10⟩
    have KE10 := hid (KE9.out.mono b10); have B10 := hid (kept_trans B9.out b10)
    clear b10
    have hS0 : w10.drew.rangeAt w.heap.size 0 [.string q, .int .i64 i] ∧ Below w10.heap.size w10 w10.drew := ⟨Blk.range (Blk.drew KE10.out), (Below.refl _ _).drew⟩
    go_wp2_with fail
    refine wp_region_held_drew (S := fun w' => w'.rangeAt w.heap.size 0 [.string q, .int .i64 i] ∧ Below w10.heap.size w10 w') (by kernel_rfl) hS0 (fun hS_0 => ?_)
    refine takeR (i := 0) (v := .bool true) rfl rfl (by kernel_rfl) (by kernel_rfl) (by kernel_rfl) (fun _ _ _ h => h) (Or.inl ⟨Eq.refl true, fun w1 hSw => ?_⟩) hS_0 ?_
    · first | rfl | (clear hSw; go_simp; done) | (clear hSw; go_simp; rfl)
    (try simp only [Act.put, List.setIfInBounds_toArray, List.set_cons_zero, List.set_cons_succ])
    refine takeR (i := 1) (v := .bool true) rfl rfl (by kernel_rfl) (by kernel_rfl) (by kernel_rfl) (fun _ _ _ h => h) (Or.inl ⟨Eq.refl true, fun w1 hSw => ?_⟩) hS_0 ?_
    · first | rfl | (clear hSw; go_simp; done) | (clear hSw; go_simp; rfl)
    (try simp only [Act.put, List.setIfInBounds_toArray, List.set_cons_zero, List.set_cons_succ])
    refine wpAnyH_loadC (i := 2) 24 _ (w.heap.size) 0 [.string q, .int .i64 i] _ rfl rfl rfl rfl (Eq.refl true) Try.underlying24 rfl (by rw [infoEnt]; rfl) (by kernel_rfl) (by kernel_rfl) (by kernel_rfl) (fun _ _ _ h => h) (fun w' h' => h'.1) hS_0 ?_
    (try simp only [Act.put, List.setIfInBounds_toArray, List.set_cons_zero, List.set_cons_succ])
    refine wpAnyH_loadC (i := 4) 24 _ (w.heap.size) 0 [.string q, .int .i64 i] _ rfl rfl rfl rfl (Eq.refl true) Try.underlying24 rfl (by rw [infoEnt]; rfl) (by kernel_rfl) (by kernel_rfl) (by kernel_rfl) (fun _ _ _ h => h) (fun w' h' => h'.1) hS_0 ?_
    (try simp only [Act.put, List.setIfInBounds_toArray, List.set_cons_zero, List.set_cons_succ])
    refine wpAnyH_ready (rs := [3]) (by kernel_rfl) (by simp) (AllReadyH.cons rfl (fun K hK => ?_) AllReadyH.nil)
    go_simp
    go_wp2_with (go_at_call 20; refine (HM1.out _).mono ?_; rintro e w11 ⟨rfl, b11⟩)
    refine hK.out _ _ ?_ (fun hS_1 => ?_)
    · exact At.step hS_0 b11
    clear hK K
    refine wpAnyH_ready (rs := [5]) (by kernel_rfl) (by simp) (AllReadyH.cons rfl (fun K hK => ?_) AllReadyH.nil)
    go_simp
    go_wp2_with (go_at_call 21; refine (HM2.out _).mono ?_; rintro e w12 ⟨rfl, b12⟩)
    refine hK.out _ _ ?_ (fun hS_2 => ?_)
    · exact At.step hS_1 b12
    clear hK K
    refine takeR (i := 6) (v := .bool true) rfl rfl (by kernel_rfl) (by kernel_rfl) (by kernel_rfl) (fun _ _ _ h => h) (Or.inl ⟨Eq.refl true, fun w1 hSw => ?_⟩) hS_2 ?_
    · first | rfl | (clear hSw; go_simp; done) | (clear hSw; go_simp; rfl)
    (try simp only [Act.put, List.setIfInBounds_toArray, List.set_cons_zero, List.set_cons_succ])
    refine takeR (i := 7) (v := .bool true) rfl rfl (by kernel_rfl) (by kernel_rfl) (by kernel_rfl) (fun _ _ _ h => h) (Or.inl ⟨Eq.refl true, fun w1 hSw => ?_⟩) hS_2 ?_
    · first | rfl | (clear hSw; go_simp; done) | (clear hSw; go_simp; rfl)
    (try simp only [Act.put, List.setIfInBounds_toArray, List.set_cons_zero, List.set_cons_succ])
    refine takeR (i := 8) (v := .bool true) rfl rfl (by kernel_rfl) (by kernel_rfl) (by kernel_rfl) (fun _ _ _ h => h) (Or.inl ⟨Eq.refl true, fun w1 hSw => ?_⟩) hS_2 ?_
    · first | rfl | (clear hSw; go_simp; done) | (clear hSw; go_simp; rfl)
    (try simp only [Act.put, List.setIfInBounds_toArray, List.set_cons_zero, List.set_cons_succ])
    refine wpAnyH_ready (rs := [9]) (by kernel_rfl) (by simp) (AllReadyH.cons rfl (fun K hK => ?_) AllReadyH.nil)
    go_simp
    go_wp2_with (go_at_call 16; refine (lives12_any _).mono ?_; rintro e w13 ⟨rfl, b13⟩)
    refine hK.out _ _ ?_ (fun hS_3 => ?_)
    · exact At.step hS_2 b13
    clear hK K
    refine takeR (i := 10) (v := .bool true) rfl rfl (by kernel_rfl) (by kernel_rfl) (by kernel_rfl) (fun _ _ _ h => h) (Or.inl ⟨Eq.refl true, fun w1 hSw => ?_⟩) hS_3 ?_
    · first | rfl | (clear hSw; go_simp; done) | (clear hSw; go_simp; rfl)
    (try simp only [Act.put, List.setIfInBounds_toArray, List.set_cons_zero, List.set_cons_succ])
    refine takeR (i := 11) (v := .bool true) rfl rfl (by kernel_rfl) (by kernel_rfl) (by kernel_rfl) (fun _ _ _ h => h) (Or.inl ⟨Eq.refl true, fun w1 hSw => ?_⟩) hS_3 ?_
    · first | rfl | (clear hSw; go_simp; done) | (clear hSw; go_simp; rfl)
    (try simp only [Act.put, List.setIfInBounds_toArray, List.set_cons_zero, List.set_cons_succ])
    refine wpAnyH_done (by kernel_rfl) ?_ _
    go_wp2_with fail
    go_ret
    exact ⟨rfl, kept_trans B10.out hS_3.2⟩
  · have hr : u = t := by rw [HU.out]; unfold setT; rw [if_neg hin]
    have hc : (decide (0 ≤ x) = true ∧ decide (x < 16) = false) ∨ decide (0 ≤ x) = false := by
      by_cases h0 : 0 ≤ x
      · exact .inl ⟨decide_eq_true h0, decide_eq_false (fun h => hin ⟨h0, h⟩)⟩
      · exact .inr (decide_eq_false h0)
    have HR := hid hr
    clear hr hin
    rcases hc with ⟨d1, d2⟩ | d1
    all_goals
      go_wp2_with (first
        | ((with_reducible refine wpl_allocT (z := z) HZE.out rfl rfl ?_); intro w6 k6 b6 s6; have K6 := hid k6; have B6 := hid (kept_trans B5.out b6); have O6 := hid (O5.out.mono b6); have KE6 := hid (KE5.out.mono b6); clear k6 b6 s6)
        | ((with_reducible refine wpl_storeT rfl _ _ rfl w5.heap.size rfl u HSL.out rfl K6.out HL.out ?_); intro w8 k7 g7; have K8 := hid k7; have B8 := hid (below_grownS B6.out g7 B5.out.size B6.out.size); have G7 := hid g7; clear k7 g7
           have q5 := O5.out.row.at (by omega)
           have hlt5 : g < w5.heap.size := by obtain ⟨_, _, e5, h5, _⟩ := q5; cases e5; exact h5
           have KE8 := hid (KE6.out.grownS G7.out (by have := H5.out; omega)); have O7 := hid (O6.out.staysO G7.out (.inr (by simp [Value.ownBlock]; omega)))
           clear q5)
        | (with_reducible refine wpl_loadT rfl _ rfl w5.heap.size rfl u HSL.out K8.out ?_)
        | (go_at_call 19; fail))
      have o8 : Own w8 (w.heap.size + 1) 24 2 (some ⟨g, 0, none⟩) 16 c1 (tabC u) := by rw [HR.out]; exact O7.out
      refine (entries_any u HSL.out w8).mono ?_
      rintro e w9 ⟨g9, c9, rfl, o9, b9⟩
      have O9 := hid o9; have R9 := hid (o8.mono b9).row; have KE9 := hid (KE8.out.mono b9); have B9 := hid (kept_trans B8.out b9)
      clear o9 b9 o8
      go_wp2_with (go_at_call 18; fail)
      refine (sameE_any u HSL.out _ _ _ _ w9 O9.out.row R9.out).mono ?_
      rintro e w10 ⟨rfl, b10⟩
      have KE10 := hid (KE9.out.mono b10); have B10 := hid (kept_trans B9.out b10)
      clear b10
      have hS0 : w10.drew.rangeAt w.heap.size 0 [.string q, .int .i64 i] ∧ Below w10.heap.size w10 w10.drew := ⟨Blk.range (Blk.drew KE10.out), (Below.refl _ _).drew⟩
      go_wp2_with fail
      refine wp_region_held_drew (S := fun w' => w'.rangeAt w.heap.size 0 [.string q, .int .i64 i] ∧ Below w10.heap.size w10 w') (by kernel_rfl) hS0 (fun hS_0 => ?_)
      refine takeR (i := 0) (v := .bool true) rfl rfl (by kernel_rfl) (by kernel_rfl) (by kernel_rfl) (fun _ _ _ h => h) (Or.inl ⟨Eq.refl true, fun w1 hSw => ?_⟩) hS_0 ?_
      · first | rfl | (clear hSw; go_simp; done) | (clear hSw; go_simp; rfl)
      (try simp only [Act.put, List.setIfInBounds_toArray, List.set_cons_zero, List.set_cons_succ])
      refine takeR (i := 1) (v := .bool true) rfl rfl (by kernel_rfl) (by kernel_rfl) (by kernel_rfl) (fun _ _ _ h => h) (Or.inl ⟨Eq.refl true, fun w1 hSw => ?_⟩) hS_0 ?_
      · first | rfl | (clear hSw; go_simp; done) | (clear hSw; go_simp; rfl)
      (try simp only [Act.put, List.setIfInBounds_toArray, List.set_cons_zero, List.set_cons_succ])
      refine wpAnyH_loadC (i := 2) 24 _ (w.heap.size) 0 [.string q, .int .i64 i] _ rfl rfl rfl rfl (Eq.refl true) Try.underlying24 rfl (by rw [infoEnt]; rfl) (by kernel_rfl) (by kernel_rfl) (by kernel_rfl) (fun _ _ _ h => h) (fun w' h' => h'.1) hS_0 ?_
      (try simp only [Act.put, List.setIfInBounds_toArray, List.set_cons_zero, List.set_cons_succ])
      refine wpAnyH_loadC (i := 4) 24 _ (w.heap.size) 0 [.string q, .int .i64 i] _ rfl rfl rfl rfl (Eq.refl true) Try.underlying24 rfl (by rw [infoEnt]; rfl) (by kernel_rfl) (by kernel_rfl) (by kernel_rfl) (fun _ _ _ h => h) (fun w' h' => h'.1) hS_0 ?_
      (try simp only [Act.put, List.setIfInBounds_toArray, List.set_cons_zero, List.set_cons_succ])
      refine wpAnyH_ready (rs := [3]) (by kernel_rfl) (by simp) (AllReadyH.cons rfl (fun K hK => ?_) AllReadyH.nil)
      go_simp
      go_wp2_with (go_at_call 20; refine (HM1.out _).mono ?_; rintro e w11 ⟨rfl, b11⟩)
      refine hK.out _ _ ?_ (fun hS_1 => ?_)
      · exact At.step hS_0 b11
      clear hK K
      refine wpAnyH_ready (rs := [5]) (by kernel_rfl) (by simp) (AllReadyH.cons rfl (fun K hK => ?_) AllReadyH.nil)
      go_simp
      go_wp2_with (go_at_call 21; refine (HM2.out _).mono ?_; rintro e w12 ⟨rfl, b12⟩)
      refine hK.out _ _ ?_ (fun hS_2 => ?_)
      · exact At.step hS_1 b12
      clear hK K
      refine takeR (i := 6) (v := .bool true) rfl rfl (by kernel_rfl) (by kernel_rfl) (by kernel_rfl) (fun _ _ _ h => h) (Or.inl ⟨Eq.refl true, fun w1 hSw => ?_⟩) hS_2 ?_
      · first | rfl | (clear hSw; go_simp; done) | (clear hSw; go_simp; rfl)
      (try simp only [Act.put, List.setIfInBounds_toArray, List.set_cons_zero, List.set_cons_succ])
      refine takeR (i := 7) (v := .bool true) rfl rfl (by kernel_rfl) (by kernel_rfl) (by kernel_rfl) (fun _ _ _ h => h) (Or.inl ⟨Eq.refl true, fun w1 hSw => ?_⟩) hS_2 ?_
      · first | rfl | (clear hSw; go_simp; done) | (clear hSw; go_simp; rfl)
      (try simp only [Act.put, List.setIfInBounds_toArray, List.set_cons_zero, List.set_cons_succ])
      refine takeR (i := 8) (v := .bool true) rfl rfl (by kernel_rfl) (by kernel_rfl) (by kernel_rfl) (fun _ _ _ h => h) (Or.inl ⟨Eq.refl true, fun w1 hSw => ?_⟩) hS_2 ?_
      · first | rfl | (clear hSw; go_simp; done) | (clear hSw; go_simp; rfl)
      (try simp only [Act.put, List.setIfInBounds_toArray, List.set_cons_zero, List.set_cons_succ])
      refine wpAnyH_ready (rs := [9]) (by kernel_rfl) (by simp) (AllReadyH.cons rfl (fun K hK => ?_) AllReadyH.nil)
      go_simp
      go_wp2_with (go_at_call 16; refine (lives12_any _).mono ?_; rintro e w13 ⟨rfl, b13⟩)
      refine hK.out _ _ ?_ (fun hS_3 => ?_)
      · exact At.step hS_2 b13
      clear hK K
      refine takeR (i := 10) (v := .bool true) rfl rfl (by kernel_rfl) (by kernel_rfl) (by kernel_rfl) (fun _ _ _ h => h) (Or.inl ⟨Eq.refl true, fun w1 hSw => ?_⟩) hS_3 ?_
      · first | rfl | (clear hSw; go_simp; done) | (clear hSw; go_simp; rfl)
      (try simp only [Act.put, List.setIfInBounds_toArray, List.set_cons_zero, List.set_cons_succ])
      refine takeR (i := 11) (v := .bool true) rfl rfl (by kernel_rfl) (by kernel_rfl) (by kernel_rfl) (fun _ _ _ h => h) (Or.inl ⟨Eq.refl true, fun w1 hSw => ?_⟩) hS_3 ?_
      · first | rfl | (clear hSw; go_simp; done) | (clear hSw; go_simp; rfl)
      (try simp only [Act.put, List.setIfInBounds_toArray, List.set_cons_zero, List.set_cons_succ])
      refine wpAnyH_done (by kernel_rfl) ?_ _
      go_wp2_with fail
      go_ret
      exact ⟨rfl, kept_trans B10.out hS_3.2⟩
end Go.Proofs.Ytejfkjfidhdfaaa
