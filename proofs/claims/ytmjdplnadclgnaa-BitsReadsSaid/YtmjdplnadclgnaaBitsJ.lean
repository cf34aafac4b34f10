import Derived.Test.YtmjdplnadclgnaaBitsH
import Derived.Deep.RegionHeld
namespace Go.Proofs.Ytmjdplnadclgnaa
open Go.RowKit Go.WideShapes Go.ChangeShapes
set_option linter.unusedSimpArgs false
set_option linter.unusedVariables false

/-- what a region that loads maps needs of the world: the map's cells, behind a world -/
def MapAt (w0 : World) (g : Nat) (xs : List UInt8) (w : World) : Prop := w.rangeAt g 0 (xs.map byteV) ∧ Below w0.heap.size w0 w
theorem rangeAt_below {w w' : World} {g : Nat} {cs : List Value} (h : w.rangeAt g 0 cs) (hb : Below w.heap.size w w') : w'.rangeAt g 0 cs := fun j v hv => by
  have := h j v hv
  exact (hb.cell (World.block_lt_of_cell? w _ this)).trans this
theorem put_some {a : Act} {d : Option Tmp} {n : Tmp} {v : Value} (h : d = some n) : a.put d v = { a with tmps := a.tmps.setIfInBounds n v } := by subst h; rfl
theorem wpAnyH_takeY {P : Program} {ops : Array Oper} {Q : Exit → Act → World → Prop} {md : Region.Mode} {S : World → Prop} {i : Nat} {oi : Oper} {d : Tmp} {v : Value} {fuel : Nat} {listed : Array Bool} {a : Act} {w : World}
    (hi : ops[i]? = some oi) (hd : oi.dst = some d)
    (hs : Region.noSelect ops = true) (hf : Region.free md ops listed i = true) (hr : (Region.ready md ops listed).contains i = true)
    (hQ : ∀ c a w, Q (.panic c) (a.put oi.dst v) w → Q (.panic c) a w) (hy : YieldsIf P ops S oi v a) (hS : S w)
    (h : wpAnyH P md ops Q S fuel (listed.setIfInBounds i true) { tmps := a.tmps.setIfInBounds d v, defers := a.defers } w) : wpAnyH P md ops Q S (fuel + 1) listed a w :=
  wpAnyH_take hi hs hf hr hQ hy hS (by rw [put_some hd]; exact h)
/-- a whole map loaded first, in a region that draws its order -/
theorem wpAnyH_loadM {ops : Array Oper} {Q : Exit → Act → World → Prop} {md : Region.Mode} {S : World → Prop} {i : Nat} {oi : Oper} {d : Tmp} {fuel : Nat} {listed : Array Bool} {a : Act} {w : World}
    (x : Operand) (g : Nat) (xs : List UInt8) (hl : xs.length = 16) (hi : ops[i]? = some oi) (hd : oi.dst = some d) (ho : oi.op = .load 24 x) (hx : a.eval x = .pointer (some ⟨g, 0, none⟩)) (hw : Region.wanted oi (yielded ops a.tmps) = true)
    (hs : Region.noSelect ops = true) (hf : Region.free md ops listed i = true) (hr : (Region.ready md ops listed).contains i = true)
    (hQ : ∀ c a w, Q (.panic c) (a.put oi.dst (.agg (mapC xs))) w → Q (.panic c) a w) (hc : ∀ w', S w' → w'.rangeAt g 0 (xs.map byteV)) (hS : S w)
    (h : wpAnyH Try.prog md ops Q S fuel (listed.setIfInBounds i true) { tmps := a.tmps.setIfInBounds d (.agg (mapC xs)), defers := a.defers } w) : wpAnyH Try.prog md ops Q S (fuel + 1) listed a w :=
  wpAnyH_takeY hi hd hs hf hr hQ (yieldsIf_load_mid hw 24 x ho g 0 hx (xs.map byteV) _ hc Try.underlying24 rfl (by rw [infoM]; simp [hl])) hS h

theorem MapAt.step {w0 : World} {g : Nat} {xs : List UInt8} {w w' : World} (h : w.rangeAt g 0 (xs.map byteV) ∧ Below w0.heap.size w0 w) (hb : Below w.heap.size w w') : w'.rangeAt g 0 (xs.map byteV) ∧ Below w0.heap.size w0 w' :=
  ⟨rangeAt_below h.1 hb, kept_trans h.2 hb⟩

set_option maxHeartbeats 4000000 in
set_option maxRecDepth 100000 in
theorem BitsWithout_walk (w : World) (xs : List UInt8) (hx : xs.length = 16) (ys : List UInt8) (hy : ys.length = 16) :
    Calls Try.prog 8 #[.agg (mapC xs), .agg (mapC ys)] w fun e w' => e = .returned (.bool true) ∧ Below w.heap.size w w' := by
  have K0 : Blk ((w.alloc (.cells (mapC xs) 24)).alloc (.cells (mapC ys) 24)) w.heap.size 24 (xs.map byteV) := box_blk w xs _
  have K1 : Blk ((w.alloc (.cells (mapC xs) 24)).alloc (.cells (mapC ys) 24)) (w.heap.size + 1) 24 (ys.map byteV) := by
    have := heap_alloc_new (w.alloc (.cells (mapC xs) 24)) (.cells (mapC ys) 24)
    rw [show (w.alloc (.cells (mapC xs) 24)).heap.size = w.heap.size + 1 from by simp] at this
    exact this
  have B0 : Below w.heap.size w ((w.alloc (.cells (mapC xs) 24)).alloc (.cells (mapC ys) 24)) := ((Below.refl _ w).alloc (Nat.le_refl _) _).alloc (by simp) _
  have hlw : (withoutL xs ys).length = 16 := withoutP_length _ _ _
  have hbw := bitB_without xs ys
  have HW := hid (fun w1 => without_any xs ys w1 hx hy)
  generalize withoutL xs ys = zs at *
  have HBW := hid hbw
  clear hbw
  go_enter Try.func8, Try.ntmps8
  go_wp2_with (first
    | ((with_reducible refine wpl_loadM rfl _ rfl w.heap.size rfl xs hx (by assumption) ?_))
    | ((with_reducible refine wpl_loadM rfl _ rfl (w.heap.size + 1) rfl ys hy (by assumption) ?_))
    | (go_at_call_of 14 (Value.agg (mapC xs)); refine (truths_any xs _ hx).mono ?_; rintro e w1 ⟨a1, c1, rfl, o1, b1⟩; have k1 := Blk.mono K0 b1; have l1 := Blk.mono K1 b1; obtain ⟨bb, off, rfl, hbb, hc⟩ := (o1.row.at (by omega)))
    | (go_at_call_of 14 (Value.agg (mapC ys)); refine (truths_any ys _ hy).mono ?_; rintro e w2 ⟨a2, c2, rfl, o2, b2⟩; have k2 := Blk.mono k1 b2; have l2 := Blk.mono l1 b2; obtain ⟨bb2, off2, rfl, hbb2, hc2⟩ := (o2.row.at (by omega)))
    | (go_at_call 23; refine (HW.out _).mono ?_; rintro e w3 ⟨rfl, b3⟩; have k3 := Blk.mono k2 b3)
    | (go_at_call_of 14 (Value.agg (mapC zs)); refine (truths_any zs _ hlw).mono ?_; rintro e w4 ⟨a4, c4, rfl, o4, b4⟩; have k4 := Blk.mono k3 b4; obtain ⟨bb4, off4, rfl, hbb4, hc4⟩ := (o4.row.at (by omega))))
  have b4' := kept_trans (kept_trans (kept_trans (kept_trans B0 b1) b2) b3) b4
  have d1 : ∀ j, j < 128 → w4.cell? ⟨bb, off + j, none⟩ = some (.bool (bitB xs j)) := fun j hj => ((kept_trans (kept_trans b2 b3) b4).cell (p := ⟨bb, off + j, none⟩) hbb).trans (hc j _ (truthsV_get xs hj))
  have d2 : ∀ j, j < 128 → w4.cell? ⟨bb2, off2 + j, none⟩ = some (.bool (bitB ys j)) := fun j hj => ((kept_trans b3 b4).cell (p := ⟨bb2, off2 + j, none⟩) hbb2).trans (hc2 j _ (truthsV_get ys hj))
  have d4 : ∀ j, j < 128 → w4.cell? ⟨bb4, off4 + j, none⟩ = some (.bool (bitB xs j && !bitB ys j)) := fun j hj => by rw [← HBW.out j hj]; exact hc4 j _ (truthsV_get zs hj)
  clear o1 o2 o4 b1 b2 b3 b4 hc hc2 hc4 k1 k2 k3 l1 l2 K0 K1 B0 hbb hbb2 hbb4
  go_loopw [8] (fun i wr => ∃ j : Nat, j ≤ 128 ∧ i = .int .i64 j ∧ Below w4.heap.size w4 wr ∧ (∀ k v, w4.cell? k = some v → wr.cell? k = some v))
    (fun i _ => 128 - (intOf i).toNat)
  case atStart => exact ⟨0, by omega, rfl, Below.refl _ _, fun _ _ h => h⟩
  case round =>
    obtain ⟨j, hj, rfl, br, hk⟩ := hrel
    by_cases hlt : j < 128
    · have e1 := hk _ _ (d1 j hlt)
      have e2 := hk _ _ (d2 j hlt)
      have e4 := hk _ _ (d4 j hlt)
      have hltd : decide ((j : Int) < 128) = true := decide_eq_true (by omega)
      have hK := hid hk
      clear d1 d2 d4 hk
      generalize bitB ys j = y at *
      generalize bitB xs j = x at *
      cases x <;> cases y
      all_goals
        simp only [Bool.true_and, Bool.false_and, Bool.not_true, Bool.not_false] at e4
        go_wp2_with fail
        first
        | go_quiet (fail)
        | go_region
        | fail
        all_goals
          go_wp2_with fail
          go_roundw
          case rel => exact ⟨j + 1, by omega, by go_num, bel_drewN br _, hK.out⟩
          case measure => simp [intOf]; omega
    · obtain rfl : j = 128 := by omega
      clear d1 d2 d4
      have hz : ∀ k, k < 128 → bitB zeros16 k = false := by decide +kernel
      have lv : (withoutL xs xs).length = 16 := withoutP_length _ _ _
      have hv : (allX (withoutL xs xs) 128).length = 0 := by
        unfold allX
        rw [List.length_eq_zero_iff, List.filter_eq_nil_iff]
        intro k hk
        rw [bitB_without _ _ _ (by simpa using hk)]
        simp
      have hw0 : withoutL xs zeros16 = xs := bits_ext _ _ (withoutP_length _ _ _) hx (fun k hk => by rw [bitB_without _ _ _ hk, hz k hk]; simp)
      have HA := hid (fun w1 => without_any xs xs w1 hx hx)
      have HN := fun w1 => count_any (withoutL xs xs) w1 lv
      rw [hv] at HN
      have HZ := fun w1 => without_any xs zeros16 w1 hx rfl
      rw [hw0] at HZ
      have HN := hid HN; have HZ := hid HZ
      generalize withoutL xs xs = vs at *
      have heq := fun w1 => run_eqM xs xs w1 hx hx
      rw [decide_eq_true rfl] at heq
      have kr := Blk.mono k4 br
      have hbr := kept_trans b4' br
      have hS0 : wr.drew.rangeAt w.heap.size 0 (xs.map byteV) ∧ Below wr.heap.size wr wr.drew := ⟨blk_range (Blk.drew kr), (Below.refl _ _).drew⟩
      clear hz hv hw0 hk br b4' HW HBW hlw
      go_wp2_with fail
      refine wp_region_held_drew (S := fun w' => w'.rangeAt w.heap.size 0 (xs.map byteV) ∧ Below wr.heap.size wr w') (by kernel_rfl) hS0 (fun hS_0 => ?_)
      refine wpAnyH_loadM (i := 0) _ (w.heap.size) xs hx rfl rfl rfl rfl (Eq.refl true) (by kernel_rfl) (by kernel_rfl) (by kernel_rfl) (fun _ _ _ h => h) (fun w' h' => h'.1) hS_0 ?_
      (try simp only [Act.put, List.setIfInBounds_toArray, List.set_cons_zero, List.set_cons_succ])
      refine wpAnyH_loadM (i := 1) _ (w.heap.size) xs hx rfl rfl rfl rfl (Eq.refl true) (by kernel_rfl) (by kernel_rfl) (by kernel_rfl) (fun _ _ _ h => h) (fun w' h' => h'.1) hS_0 ?_
      (try simp only [Act.put, List.setIfInBounds_toArray, List.set_cons_zero, List.set_cons_succ])
      refine wpAnyH_ready (rs := [2]) (by kernel_rfl) (by simp) (AllReadyH.cons rfl (fun K hK => ?_) AllReadyH.nil)
      go_simp
      go_wp2_with (go_at_call 23; refine (HA.out _).mono ?_; rintro e w5 ⟨rfl, b5⟩)
      refine hK.out _ _ ?_ (fun hS_1 => ?_)
      · exact MapAt.step hS_0 b5
      clear hK K
      refine wpAnyH_ready (rs := [3]) (by kernel_rfl) (by simp) (AllReadyH.cons rfl (fun K hK => ?_) AllReadyH.nil)
      go_simp
      go_wp2_with (go_at_call 22; refine (HN.out _).mono ?_; rintro e w6 ⟨rfl, b6⟩)
      refine hK.out _ _ ?_ (fun hS_2 => ?_)
      · exact MapAt.step hS_1 b6
      clear hK K
      refine wpAnyH_takeY (i := 4) (v := .bool true) rfl rfl (by kernel_rfl) (by kernel_rfl) (by kernel_rfl) (fun _ _ _ h => h) (Or.inl ⟨Eq.refl true, fun w1 _ => ?_⟩) hS_2 ?_
      · first | rfl | (go_simp; done) | (go_simp; rfl)
      (try simp only [Act.put, List.setIfInBounds_toArray, List.set_cons_zero, List.set_cons_succ])
      refine wpAnyH_takeY (i := 5) (v := .bool true) rfl rfl (by kernel_rfl) (by kernel_rfl) (by kernel_rfl) (fun _ _ _ h => h) (Or.inl ⟨Eq.refl true, fun w1 _ => ?_⟩) hS_2 ?_
      · first | rfl | (go_simp; done) | (go_simp; rfl)
      (try simp only [Act.put, List.setIfInBounds_toArray, List.set_cons_zero, List.set_cons_succ])
      refine wpAnyH_loadM (i := 6) _ (w.heap.size) xs hx rfl rfl rfl rfl (Eq.refl true) (by kernel_rfl) (by kernel_rfl) (by kernel_rfl) (fun _ _ _ h => h) (fun w' h' => h'.1) hS_2 ?_
      (try simp only [Act.put, List.setIfInBounds_toArray, List.set_cons_zero, List.set_cons_succ])
      refine wpAnyH_takeY (i := 7) (v := .agg (mapC zeros16)) rfl rfl (by kernel_rfl) (by kernel_rfl) (by kernel_rfl) (fun _ _ _ h => h) (Or.inl ⟨Eq.refl true, fun w1 _ => ?_⟩) hS_2 ?_
      · first | rfl | (go_simp; done) | (go_simp; rfl)
      (try simp only [Act.put, List.setIfInBounds_toArray, List.set_cons_zero, List.set_cons_succ])
      refine wpAnyH_loadM (i := 9) _ (w.heap.size) xs hx rfl rfl rfl rfl (Eq.refl true) (by kernel_rfl) (by kernel_rfl) (by kernel_rfl) (fun _ _ _ h => h) (fun w' h' => h'.1) hS_2 ?_
      (try simp only [Act.put, List.setIfInBounds_toArray, List.set_cons_zero, List.set_cons_succ])
      refine wpAnyH_ready (rs := [8]) (by kernel_rfl) (by simp) (AllReadyH.cons rfl (fun K hK => ?_) AllReadyH.nil)
      go_simp
      go_wp2_with (go_at_call 23; refine (HZ.out _).mono ?_; rintro e w7 ⟨rfl, b7⟩)
      refine hK.out _ _ ?_ (fun hS_3 => ?_)
      · exact MapAt.step hS_2 b7
      clear hK K
      refine wpAnyH_takeY (i := 10) (v := .bool true) rfl rfl (by kernel_rfl) (by kernel_rfl) (by kernel_rfl) (fun _ _ _ h => h) (Or.inl ⟨Eq.refl true, fun w1 _ => ?_⟩) hS_3 ?_
      · first | rfl | (go_simp; done) | (go_simp; rfl)
      (try simp only [Act.put, List.setIfInBounds_toArray, List.set_cons_zero, List.set_cons_succ])
      refine wpAnyH_takeY (i := 11) (v := .bool true) rfl rfl (by kernel_rfl) (by kernel_rfl) (by kernel_rfl) (fun _ _ _ h => h) (Or.inl ⟨Eq.refl true, fun w1 _ => ?_⟩) hS_3 ?_
      · first | rfl | (go_simp; done) | (go_simp; rfl)
      (try simp only [Act.put, List.setIfInBounds_toArray, List.set_cons_zero, List.set_cons_succ])
      refine wpAnyH_takeY (i := 12) (v := .bool true) rfl rfl (by kernel_rfl) (by kernel_rfl) (by kernel_rfl) (fun _ _ _ h => h) (Or.inl ⟨Eq.refl true, fun w1 _ => ?_⟩) hS_3 ?_
      · first | rfl | (go_simp; done) | (go_simp; rfl)
      (try simp only [Act.put, List.setIfInBounds_toArray, List.set_cons_zero, List.set_cons_succ])
      refine wpAnyH_ready (rs := [13]) (by kernel_rfl) (by simp) (AllReadyH.cons rfl (fun K hK => ?_) AllReadyH.nil)
      go_simp
      go_wp2_with (go_at_call 11; refine (lives10_any _).mono ?_; rintro e w8 ⟨rfl, b8⟩)
      refine hK.out _ _ ?_ (fun hS_4 => ?_)
      · exact MapAt.step hS_3 b8
      clear hK K
      refine wpAnyH_takeY (i := 14) (v := .bool true) rfl rfl (by kernel_rfl) (by kernel_rfl) (by kernel_rfl) (fun _ _ _ h => h) (Or.inl ⟨Eq.refl true, fun w1 _ => ?_⟩) hS_4 ?_
      · first | rfl | (go_simp; done) | (go_simp; rfl)
      (try simp only [Act.put, List.setIfInBounds_toArray, List.set_cons_zero, List.set_cons_succ])
      refine wpAnyH_takeY (i := 15) (v := .bool true) rfl rfl (by kernel_rfl) (by kernel_rfl) (by kernel_rfl) (fun _ _ _ h => h) (Or.inl ⟨Eq.refl true, fun w1 _ => ?_⟩) hS_4 ?_
      · first | rfl | (go_simp; done) | (go_simp; rfl)
      (try simp only [Act.put, List.setIfInBounds_toArray, List.set_cons_zero, List.set_cons_succ])
      refine wpAnyH_done (by kernel_rfl) ?_ _
      go_wp2_with fail
      go_ret
      exact ⟨rfl, kept_trans hbr hS_4.2⟩

end Go.Proofs.Ytmjdplnadclgnaa
