/- The document's Read; DirReads. -/
import Derived.Test.YtejfkjfidhdfaaaDirR
namespace Go.Proofs.Ytejfkjfidhdfaaa
open Go.RowKit Go.Shelf
set_option linter.unusedSimpArgs false
set_option linter.unusedVariables false

theorem all_drop {X : List UInt8} {m : Nat} : (X.drop m).all (fun b => b == 0) = true ↔ ∀ i, m ≤ i → i < X.length → bAt X i = 0 := by
  rw [List.all_eq_true]
  constructor
  · intro h i h1 h2
    have := h X[i] (List.mem_of_getElem? (i := i - m) (by rw [List.getElem?_drop, show m + (i - m) = i by omega, List.getElem?_eq_getElem h2]))
    have e : X[i] = 0 := by simpa using this
    rw [bAt_eq h2, e]; rfl
  · intro h b hb
    obtain ⟨i, hi, rfl⟩ := List.getElem_of_mem hb
    rw [List.length_drop] at hi
    rw [List.getElem_drop]
    have := h (m + i) (by omega) (by omega)
    rw [bAt_eq (by omega)] at this
    have : X[m + i]'(by omega) = 0 := UInt8.toNat_inj.1 this
    simpa using this
theorem bAt_chunk {bs : List UInt8} (h : 64 ≤ bs.length) {j i : Nat} (hj : j < 4) (hi : i < 16) : bAt (chunk bs j) i = bAt bs (16 * j + i) := by
  unfold chunk
  rw [bAt_take_drop bs hi]
theorem decR_may {X : List UInt8} (h : mayE (nmR X) (bAt X 0) = false) : decR X = none := if_neg (fun q => by rw [h] at q; cases q.2.1)
theorem decR_zero {X : List UInt8} (h : (X.drop (2 + bAt X 1)).all (fun b => b == 0) = false) : decR X = none := if_neg (fun q => by rw [h] at q; cases q.2.2)
theorem decR_good {X : List UInt8} (h1 : bAt X 1 ≤ 12) (h2 : mayE (nmR X) (bAt X 0) = true) (h3 : (X.drop (2 + bAt X 1)).all (fun b => b == 0) = true) : decR X = some ⟨nmR X, bAt X 0⟩ := if_pos ⟨h1, h2, h3⟩

theorem own_newO {w w' : World} {B : Nat} {e : TypeId} {sz : Nat} {a : Option Addr} {n c : Nat} {cs : List Value} {o : Obj} (h : Own w B e sz a n c cs) (g : (w.alloc o).grownBy w' (some w.heap.size)) : Own w' B e sz a n c cs := by
  refine World.ownsRow.kept (h.alloc o) g ?_
  cases ha : (Value.slice a n c).ownBlock with
  | none => exact .inl rfl
  | some q => exact .inr (by have := (World.ownsRow.lt h q ha).2; simp; omega)
def RetL (w : World) (l : List EntT) (er : Int) (e : Ending) (w' : World) : Prop :=
  ∃ a c, e = .returned (.tuple #[.slice a l.length c, .int .i64 er]) ∧ Own w' w.heap.size 24 2 a l.length c (tabC l) ∧ Below w.heap.size w w'
theorem RetL_nil {w w' : World} {er : Int} {e : Ending} (he : e = .returned (.tuple #[.slice none 0 0, .int .i64 er])) (hb : Below w.heap.size w w') : RetL w [] er e w' := ⟨none, 0, he, Own.nil _ _ _ _, hb⟩
/-- what the document's Read tells -/
def readL (bs : List UInt8) : List EntT × Int := if bs.length < 64 then ([], 3) else match rdF bs 4 with | some l => (l, 0) | none => ([], 2)
theorem readL_short {bs : List UInt8} (h : bs.length < 64) : readL bs = ([], 3) := if_pos h
theorem readL_none {bs : List UInt8} (h : ¬ bs.length < 64) (hn : rdF bs 4 = none) : readL bs = ([], 2) := by unfold readL; rw [if_neg h, hn]
theorem readL_some {bs : List UInt8} {l : List EntT} (h : ¬ bs.length < 64) (hn : rdF bs 4 = some l) : readL bs = (l, 0) := by unfold readL; rw [if_neg h, hn]

set_option maxHeartbeats 2000000 in
set_option maxRecDepth 100000 in
theorem rread_any (a : Option Addr) (c : Nat) (bs : List UInt8) (w : World) (hr : RowB w a c bs) : Calls Try.prog 30 #[.slice a bs.length c] w (RetL w (readL bs).1 (readL bs).2) := by
  have hb9 := rowB_len hr
  have HROW := hid hr
  clear hr
  by_cases hlen : bs.length < 64
  · have d1 : decide ((bs.length : Int) < 64) = true := decide_eq_true (by omega)
    rw [readL_short hlen]
    clear hlen
    go_enter Try.func30, Try.ntmps30
    go_wp2_with fail
    go_ret2
    exact RetL_nil rfl (Below.refl _ _)
  · have d1 : decide ((bs.length : Int) < 64) = false := decide_eq_false (by omega)
    have hbp : 0 < bs.length := by omega
    obtain ⟨b, off, rfl, hblt, _⟩ := HROW.out.at hbp
    have hc64 : 64 ≤ c := by have := HROW.out.2.1; omega
    have hcb : bs.length ≤ c := HROW.out.2.1
    have h64 : 64 ≤ bs.length := by omega
    have HLN := hid hlen
    clear hlen hbp
    go_enter Try.func30, Try.ntmps30
    go_wp2_with fail
    go_loopw [4, 5] (fun o i wr => ∃ (j v m : Nat) (l : List EntT) (a1 : Option Addr) (c1 : Nat), j ≤ 4 ∧ v = 16 * j ∧ m = j ∧ i = .int .i64 v ∧ o = .slice a1 m c1 ∧ rdF bs j = some l ∧ Own wr w.heap.size 24 2 a1 m c1 (tabC l) ∧ Below w.heap.size w wr) (fun _ i _ => 64 - (intOf i).toNat)
    case atStart => exact ⟨0, 0, 0, [], none, 0, by omega, rfl, rfl, by first | rfl | go_num, rfl, rfl, Own.nil _ _ _ _, Below.refl _ _⟩
    case round =>
      obtain ⟨j, v, m, l, a1, c1, hj, hv, hmj, rfl, rfl, hrd, ho, hbl⟩ := hrel
      have HRD := hid hrd; have HO := hid ho; have HBL := hid hbl; have HV := hid hv; have HMJ := hid hmj
      have hll := rdF_len j l hrd
      have HLL := hid hll
      have hm4 : m ≤ 4 := by omega
      have hv64 : v ≤ 64 := by omega
      clear hrd ho hbl hll
      by_cases hj4 : j < 4
      · have iv : (v : Int) < 64 := by omega
        have iv1 : v + 16 ≤ 64 := by omega
        have dj : decide ((v : Int) < 64) = true := decide_eq_true iv
        have hX := chunk_len h64 hj4
        have hcell : ∀ (w1 : World), Below w.heap.size w w1 → ∀ i, i < 16 → w1.cell? ⟨b, off + (v + i), none⟩ = some (.int .u8 (bAt (chunk bs j) i : Int)) := fun w1 hb i hi => by
          obtain ⟨b', off', e', _, hc⟩ := (HROW.out.mono hb).bytes (by omega)
          cases e'
          rw [bAt_chunk h64 hj4 hi, ← HV.out]
          exact hc (v + i) (by omega)
        have hbad := fun h => rdF_bad (bs := bs) hj4 h
        have hgood := fun e h => rdF_ok (e := e) HRD.out h
        have hnb := bAt_lt (chunk bs j) 1
        have hxb := bAt_lt (chunk bs j) 0
        have h12 := fun h => decR_bad (bs := chunk bs j) h
        have hmy := fun h => decR_may (X := chunk bs j) h
        have hzr := fun h => decR_zero (X := chunk bs j) h
        have hgd := fun h1 h2 h3 => decR_good (X := chunk bs j) h1 h2 h3
        have hnm : nmR (chunk bs j) = ⟨((bs.drop (v + 2)).take (bAt (chunk bs j) 1)).toArray⟩ ∨ ¬ bAt (chunk bs j) 1 ≤ 12 := by
          by_cases h : bAt (chunk bs j) 1 ≤ 12
          · left
            unfold nmR chunk
            rw [List.drop_take, List.take_take, List.drop_drop, HV.out]
            unfold chunk at h
            rw [Nat.min_eq_left (by omega)]
          · exact .inr h
        have hal := all_drop (X := chunk bs j) (m := 2 + bAt (chunk bs j) 1)
        have hsz := fun h => nmR_size hX (show bAt (chunk bs j) 1 ≤ 14 from h)
        have hc1 := hcell wr HBL.out 1 (by omega)
        generalize chunk bs j = X at *
        have HCELL := hid hcell; have HBAD := hid hbad; have HGOOD := hid hgood; have H12 := hid h12; have HMY := hid hmy; have HZR := hid hzr; have HGD := hid hgd; have HNM := hid hnm; have HAL := hid hal; have HXL := hid hX
        clear hcell hbad hgood h12 hmy hzr hgd hnm hal hX hv hmj hsz
        generalize hn0 : bAt X 1 = n at *
        generalize hx0 : bAt X 0 = x at *
        have HN0 := hid hn0; have HX00 := hid hx0
        clear hn0 hx0
        obtain ⟨wo, hwo⟩ : ∃ y, y = wr := ⟨_, rfl⟩
        subst hwo
        by_cases hn12 : n ≤ 12
        · have dn : decide (12 < (n : Int)) = false := decide_eq_false (by omega)
          have hnm2 : nmR X = ⟨((bs.drop (v + 2)).take n).toArray⟩ := by rcases HNM.out with h | h; exact h; exact absurd hn12 h
          have hln : ((bs.drop (v + 2)).take n).length = n := by rw [List.length_take, List.length_drop]; omega
          have HCV : Hid (∀ w1 : World, Below w.heap.size w w1 → (convert 45 9 (.slice (some ⟨b, off + (v + 2), none⟩) n (c - (v + 2)))).run Try.prog w1 = .ok (.string (nmR X)) w1) := hid (fun w1 hb => by
            have := run_str (rowB_sub (HROW.out.mono hb) (v + 2) n (by omega))
            rw [hln, ← hnm2] at this
            exact this)
          have HX0 : Hid (∀ w1 : World, Below w.heap.size w w1 → w1.cell? ⟨b, off + v, none⟩ = some (.int .u8 (x : Int))) := hid (fun w1 hb => by have := HCELL.out w1 hb 0 (by omega); rw [HX00.out] at this; exact this)
          have HM := fun w1 => refMay12_any (nmR X) (x : Int) w1
          clear hnm2 hln
          generalize hnmx : nmR X = nm at *
          have HNMX := hid hnmx
          clear hnmx
          have hcv2 : ¬ c = v + 2 := by omega
          have e1 : IntKind.i64.wrap ((v : Int) + 1) = v + 1 := IntWalk.i64_in _ (by omega)
          go_wp2_with fail
          clear hc1
          have hS0 : Below w.heap.size w wo.drew ∧ wo.heap.size ≤ wo.drew.heap.size := ⟨HBL.out.drew, Nat.le_refl _⟩
          have HNEW := hid (blk_newO (W := wo.drew) rfl 24 [.string ⟨#[]⟩, .int .i64 0])
          have HW9 := hid HBL.out.size
          have i1 : (v : Int) + 2 + n ≤ bs.length := by omega
          have i1c : (v : Int) + 2 + n ≤ c := by omega
          have i2 : (v : Int) + 2 ≤ (v : Int) + 2 + n := by omega
          have i3 : (v : Int) < bs.length := by omega
          have e2 : IntKind.i64.wrap ((v : Int) + 2) = v + 2 := IntWalk.i64_in _ (by omega)
          have e3 : IntKind.i64.wrap ((v : Int) + 2 + n) = v + 2 + n := IntWalk.i64_in _ (by omega)
          have e7 : IntKind.i64.wrap (x : Int) = x := IntWalk.i64_in _ (by omega)
          have e4 : ((v : Int) + 2).toNat = v + 2 := by omega
          have e5 : ((v : Int) + 2 + n).toNat = v + 2 + n := by omega
          have e6 : v + 2 + n - (v + 2) = n := by omega
          refine wp_region_held_drew (S := fun w' => Below w.heap.size w w' ∧ wo.heap.size ≤ w'.heap.size) (by kernel_rfl) hS0 (fun hS_0 => ?_)
          refine takeR (i := 0) (v := .slice (some ⟨b, off, none⟩) bs.length c) rfl rfl (by kernel_rfl) (by kernel_rfl) (by kernel_rfl) (fun _ _ _ h => h) (Or.inl ⟨Eq.refl true, fun w1 hSw => ?_⟩) hS_0 ?_
          · first | rfl | (clear hSw; go_simp; done) | (clear hSw; go_simp; rfl)
          (try simp only [Act.put, List.setIfInBounds_toArray, List.set_cons_zero, List.set_cons_succ])
          refine takeR (i := 1) (v := .int .i64 v) rfl rfl (by kernel_rfl) (by kernel_rfl) (by kernel_rfl) (fun _ _ _ h => h) (Or.inl ⟨Eq.refl true, fun w1 hSw => ?_⟩) hS_0 ?_
          · first | rfl | (clear hSw; go_simp; done) | (clear hSw; go_simp; rfl)
          (try simp only [Act.put, List.setIfInBounds_toArray, List.set_cons_zero, List.set_cons_succ])
          refine takeR (i := 2) (v := .int .i64 ((v : Int) + 2)) rfl rfl (by kernel_rfl) (by kernel_rfl) (by kernel_rfl) (fun _ _ _ h => h) (Or.inl ⟨Eq.refl true, fun w1 hSw => ?_⟩) hS_0 ?_
          · first | rfl | (clear hSw; go_simp; done) | (clear hSw; go_simp; rfl)
          (try simp only [Act.put, List.setIfInBounds_toArray, List.set_cons_zero, List.set_cons_succ])
          refine takeR (i := 3) (v := .int .i64 v) rfl rfl (by kernel_rfl) (by kernel_rfl) (by kernel_rfl) (fun _ _ _ h => h) (Or.inl ⟨Eq.refl true, fun w1 hSw => ?_⟩) hS_0 ?_
          · first | rfl | (clear hSw; go_simp; done) | (clear hSw; go_simp; rfl)
          (try simp only [Act.put, List.setIfInBounds_toArray, List.set_cons_zero, List.set_cons_succ])
          refine takeR (i := 4) (v := .int .i64 ((v : Int) + 2)) rfl rfl (by kernel_rfl) (by kernel_rfl) (by kernel_rfl) (fun _ _ _ h => h) (Or.inl ⟨Eq.refl true, fun w1 hSw => ?_⟩) hS_0 ?_
          · first | rfl | (clear hSw; go_simp; done) | (clear hSw; go_simp; rfl)
          (try simp only [Act.put, List.setIfInBounds_toArray, List.set_cons_zero, List.set_cons_succ])
          refine takeR (i := 5) (v := .int .i64 n) rfl rfl (by kernel_rfl) (by kernel_rfl) (by kernel_rfl) (fun _ _ _ h => h) (Or.inl ⟨Eq.refl true, fun w1 hSw => ?_⟩) hS_0 ?_
          · first | rfl | (clear hSw; go_simp; done) | (clear hSw; go_simp; rfl)
          (try simp only [Act.put, List.setIfInBounds_toArray, List.set_cons_zero, List.set_cons_succ])
          refine takeR (i := 6) (v := .int .i64 ((v : Int) + 2 + n)) rfl rfl (by kernel_rfl) (by kernel_rfl) (by kernel_rfl) (fun _ _ _ h => h) (Or.inl ⟨Eq.refl true, fun w1 hSw => ?_⟩) hS_0 ?_
          · first | rfl | (clear hSw; go_simp; done) | (clear hSw; go_simp; rfl)
          (try simp only [Act.put, List.setIfInBounds_toArray, List.set_cons_zero, List.set_cons_succ])
          refine takeR (i := 7) (v := .slice (some ⟨b, off + (v + 2), none⟩) n (c - (v + 2))) rfl rfl (by kernel_rfl) (by kernel_rfl) (by kernel_rfl) (fun _ _ _ h => h) (Or.inl ⟨Eq.refl true, fun w1 hSw => ?_⟩) hS_0 ?_
          · first | rfl | (clear hSw; go_simp; done) | (clear hSw; go_simp; rfl)
          (try simp only [Act.put, List.setIfInBounds_toArray, List.set_cons_zero, List.set_cons_succ])
          refine takeR (i := 8) (v := .string nm) rfl rfl (by kernel_rfl) (by kernel_rfl) (by kernel_rfl) (fun _ _ _ h => h) (Or.inl ⟨Eq.refl true, fun w1 hSw => ?_⟩) hS_0 ?_
          · (have hcv := HCV.out w1 hSw.1; go_simp)
          (try simp only [Act.put, List.setIfInBounds_toArray, List.set_cons_zero, List.set_cons_succ])
          refine takeR (i := 9) (v := .slice (some ⟨b, off, none⟩) bs.length c) rfl rfl (by kernel_rfl) (by kernel_rfl) (by kernel_rfl) (fun _ _ _ h => h) (Or.inl ⟨Eq.refl true, fun w1 hSw => ?_⟩) hS_0 ?_
          · first | rfl | (clear hSw; go_simp; done) | (clear hSw; go_simp; rfl)
          (try simp only [Act.put, List.setIfInBounds_toArray, List.set_cons_zero, List.set_cons_succ])
          refine takeR (i := 10) (v := .int .i64 v) rfl rfl (by kernel_rfl) (by kernel_rfl) (by kernel_rfl) (fun _ _ _ h => h) (Or.inl ⟨Eq.refl true, fun w1 hSw => ?_⟩) hS_0 ?_
          · first | rfl | (clear hSw; go_simp; done) | (clear hSw; go_simp; rfl)
          (try simp only [Act.put, List.setIfInBounds_toArray, List.set_cons_zero, List.set_cons_succ])
          refine takeR (i := 11) (v := .pointer (some ⟨b, off + v, none⟩)) rfl rfl (by kernel_rfl) (by kernel_rfl) (by kernel_rfl) (fun _ _ _ h => h) (Or.inl ⟨Eq.refl true, fun w1 hSw => ?_⟩) hS_0 ?_
          · first | rfl | (clear hSw; go_simp; done) | (clear hSw; go_simp; rfl)
          (try simp only [Act.put, List.setIfInBounds_toArray, List.set_cons_zero, List.set_cons_succ])
          refine takeR (i := 12) (v := .int .u8 x) rfl rfl (by kernel_rfl) (by kernel_rfl) (by kernel_rfl) (fun _ _ _ h => h) (Or.inl ⟨Eq.refl true, fun w1 hSw => ?_⟩) hS_0 ?_
          · (have hcx := HX0.out w1 hSw.1; go_simp)
          (try simp only [Act.put, List.setIfInBounds_toArray, List.set_cons_zero, List.set_cons_succ])
          refine takeR (i := 13) (v := .int .i64 x) rfl rfl (by kernel_rfl) (by kernel_rfl) (by kernel_rfl) (fun _ _ _ h => h) (Or.inl ⟨Eq.refl true, fun w1 hSw => ?_⟩) hS_0 ?_
          · first | rfl | (clear hSw; go_simp; done) | (clear hSw; go_simp; rfl)
          (try simp only [Act.put, List.setIfInBounds_toArray, List.set_cons_zero, List.set_cons_succ])
          refine takeR (i := 14) (v := .agg #[.string nm, .int .i64 x]) rfl rfl (by kernel_rfl) (by kernel_rfl) (by kernel_rfl) (fun _ _ _ h => h) (Or.inl ⟨Eq.refl true, fun w1 hSw => ?_⟩) hS_0 ?_
          · first | rfl | (clear hSw; go_simp; done) | (clear hSw; go_simp; rfl)
          (try simp only [Act.put, List.setIfInBounds_toArray, List.set_cons_zero, List.set_cons_succ])
          refine wpAnyH_ready (rs := [15]) (by kernel_rfl) (by simp) (AllReadyH.cons rfl (fun K hK => ?_) AllReadyH.nil)
          go_simp
          refine hK.out _ _ ?_ (fun hS_1 => ?_)
          · exact ⟨hS_0.1.alloc hS_0.1.size _, Nat.le_trans hS_0.2 (by simp)⟩
          clear hK K
          refine wpAnyH_ready (rs := [16]) (by kernel_rfl) (by simp) (AllReadyH.cons rfl (fun K hK => ?_) AllReadyH.nil)
          refine if_wanted (Eq.refl true) ?_
          refine wpo_storeM 24 _ _ rfl wo.heap.size 0 rfl [.string nm, .int .i64 (x : Int)] rfl (by rw [infoEnt]; rfl) (entC_one ⟨nm, x⟩) HNEW.out (Nat.le_refl 2) ?_; intro w9 k9 g9; rw [splice_all (show [Value.string ⟨#[]⟩, .int .i64 0].length = [Value.string nm, .int .i64 (x : Int)].length from rfl)] at k9; have K9 := hid k9; have G9 := hid g9
          refine hK.out _ _ ?_ (fun hS_2 => ?_)
          · exact ⟨below_grown0 hS_1.1 g9 HW9.out hS_1.1.size, Nat.le_trans hS_1.2 g9.size⟩
          clear hK K
          refine wpAnyH_done (by kernel_rfl) ?_ _
          have O9 := hid (own_newO HO.out.drew G9.out)
          have B9 := hid hS_2.1
          clear hS0 hS_0 hS_1 hS_2 HNEW HW9 e2 e3 e4 e5 e6 e7 i1 i1c i2 G9
          cases hmm : mayE nm (x : Int) with
          | false =>
            rw [hmm] at HM
            have HRN := hid (readL_none HLN.out (HBAD.out (HMY.out hmm)))
            have HM := hid HM
            clear hmm
            go_wp2_with (first
              | (with_reducible refine wpl_loadEn rfl _ rfl wo.heap.size rfl nm x K9.out ?_)
              | (go_at_call 21; refine (HM.out _).mono ?_; rintro e w10 ⟨rfl, b10⟩; have B10 := hid (kept_trans B9.out b10); clear b10))
            go_ret2
            rw [HRN.out]
            exact RetL_nil rfl B10.out
          | true =>
            rw [hmm] at HM
            have HMM := hid hmm
            have HM := hid HM
            clear hmm
            have e8 : IntKind.i64.wrap ((v : Int) + 2) = v + 2 := IntWalk.i64_in _ (by omega)
            have e9 : IntKind.i64.wrap ((v : Int) + 2 + n) = v + 2 + n := IntWalk.i64_in _ (by omega)
            go_wp2_with (first
              | (with_reducible refine wpl_loadEn rfl _ rfl wo.heap.size rfl nm x K9.out ?_)
              | (go_at_call 21; refine (HM.out _).mono ?_; rintro e w10 ⟨rfl, b10⟩; have B10 := hid (kept_trans B9.out b10); have K10 := hid (K9.out.mono b10); have O10 := hid (O9.out.mono b10); clear b10))
            clear e8 e9
            go_loopw [9] (fun i wr2 => ∃ (p k : Nat), p ≤ 14 - n ∧ k = v + 2 + n + p ∧ i = .int .i64 k ∧ (∀ i, 2 + n ≤ i → i < 2 + n + p → bAt X i = 0) ∧ wr2 = w10) (fun i _ => v + 16 - (intOf i).toNat)
            case atStart => exact ⟨0, v + 2 + n, by omega, rfl, by first | rfl | go_num, (fun i h1 h2 => absurd h1 (by omega)), by first | rfl | trivial⟩
            case round =>
              obtain ⟨p, k, hp, hk, rfl, hz, rfl⟩ := hrel
              have HK := hid hk; have HZ := hid hz
              have hk64 : k ≤ 64 := by omega
              by_cases hpl : p < 14 - n
              · have ik : (k : Int) < (v : Int) + 16 := by omega
                have ikb : (k : Int) < bs.length := by omega
                have dk : decide ((k : Int) < (v : Int) + 16) = true := decide_eq_true ik
                have hck := HCELL.out wr B10.out (2 + n + p) (by omega)
                rw [show v + (2 + n + p) = k by omega] at hck
                clear hk hz
                by_cases hz0 : bAt X (2 + n + p) = 0
                · rw [hz0] at hck
                  have HZ0 := hid hz0
                  clear hz0
                  go_wp2_with fail
                  go_roundw
                  case rel => exact ⟨p + 1, k + 1, by omega, by have := HK.out; omega, by go_num, (fun i h1 h2 => by
                    rcases (by omega : i < 2 + n + p ∨ i = 2 + n + p) with h | rfl
                    · exact HZ.out i h1 h
                    · exact HZ0.out), by first | rfl | trivial⟩
                  case measure => simp [intOf]; have := HK.out; omega
                · have hbf : (X.drop (2 + n)).all (fun b => b == 0) = false := by
                    cases hq : (X.drop (2 + n)).all (fun b => b == 0) with
                    | false => rfl
                    | true => exact absurd (HAL.out.1 hq (2 + n + p) (by omega) (by rw [HXL.out]; omega)) hz0
                  have HRN := hid (readL_none HLN.out (HBAD.out (HZR.out hbf)))
                  have hb256 := bAt_lt X (2 + n + p)
                  clear hbf
                  generalize bAt X (2 + n + p) = y at *
                  have hy : ((y : Int) == 0) = false := by simp; omega
                  go_wp2_with fail
                  go_ret2
                  rw [HRN.out]
                  exact RetL_nil rfl B10.out
              · have hp14 : p = 14 - n := by omega
                have dk : decide ((k : Int) < (v : Int) + 16) = false := decide_eq_false (by omega)
                have ik : ¬ (k : Int) < (v : Int) + 16 := by omega
                have hall : (X.drop (2 + n)).all (fun b => b == 0) = true := HAL.out.2 (fun i h1 h2 => hz i h1 (by rw [HXL.out] at h2; omega))
                have hok := HGOOD.out _ (HGD.out hn12 HMM.out hall)
                have HOK := hid hok
                clear hk hz hall hok hp14
                have R11 := hid (row_blkO (blk_newO (W := wr) rfl 24 [.string nm, .int .i64 (x : Int)]) 2 1 rfl (by omega))
                go_wp2_with (first
                  | (with_reducible refine wpl_loadEn rfl _ rfl wo.heap.size rfl nm x K10.out ?_)
                  | (at_builtin; (refine wpl_append rfl (.tmp 59) (.tmp 61) rfl ET w.heap.size rfl rfl (O10.out.alloc (.cells #[.string nm, .int .i64 (x : Int)] 24)) R11.out (entC_one ⟨nm, x⟩) (by omega) (by omega) (Nat.le_trans B10.out.size (by simp)) ?_); intro a12 c12 w12 o12 g12 b12; have O12 := hid o12; have B12 := hid ((B10.out.alloc B10.out.size (.cells #[.string nm, .int .i64 (x : Int)] 24)).trans b12); clear o12 g12 b12))
                go_roundw
                case rel => exact ⟨j + 1, v + 16, m + 1, l ++ [⟨nm, x⟩], a12, c12, by omega, by have := HV.out; omega, by have := HMJ.out; omega, by go_num, rfl, HOK.out, by rw [tabC_append, tabC_one']; exact O12.out, B12.out⟩
                case measure => simp [intOf]; omega
        · have dn : decide (12 < (n : Int)) = true := decide_eq_true (by omega)
          have HRN := hid (readL_none HLN.out (HBAD.out (H12.out hn12)))
          have e1 : IntKind.i64.wrap ((v : Int) + 1) = v + 1 := IntWalk.i64_in _ (by omega)
          go_wp2_with fail
          go_ret2
          rw [HRN.out]
          exact RetL_nil rfl HBL.out
      · obtain rfl : j = 4 := by omega
        have dj : decide ((v : Int) < 64) = false := decide_eq_false (by omega)
        have iv : ¬ (v : Int) < 64 := by omega
        have HRS := hid (readL_some HLN.out HRD.out)
        have hml : m = l.length := by rw [HLL.out]; exact hmj
        have HML := hid hml
        clear hml hmj hv
        go_wp2_with fail
        go_ret2
        rw [HRS.out]
        exact ⟨a1, c1, by rw [HML.out]; rfl, by rw [← HML.out]; exact HO.out, HBL.out⟩
end Go.Proofs.Ytejfkjfidhdfaaa
