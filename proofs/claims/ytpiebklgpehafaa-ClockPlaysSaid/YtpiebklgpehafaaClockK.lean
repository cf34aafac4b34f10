import Derived.Test.YtpiebklgpehafaaClockJ
namespace Go.Proofs.Ytpiebklgpehafaa
open Go.RowKit Go.WideShapes
set_option linter.unusedSimpArgs false
set_option linter.unusedVariables false

def Kk (l : Bool) (S : List Int) (τ : Nat) : Bool := if τ = 0 then l else (l && !S.any (byB 1))
theorem Kk_step (l : Bool) (S : List Int) (τ : Nat) : (Kk l S τ && !S.any (byB 1)) = Kk l S (τ + 1) := by
  unfold Kk
  rw [if_neg (show ¬ τ + 1 = 0 by omega)]
  by_cases h : τ = 0
  · rw [if_pos h]
  · rw [if_neg h]; cases l <;> cases S.any (byB 1) <;> rfl
theorem passE_step (E : Nat → Int) (τ : Nat) (S : List Int) (i : Nat) : passE E ((τ + 1 : Nat) : Int) S i = passE E τ S i + 8 + S.getD i 0 := by
  unfold passE
  rw [show ((τ + 1 : Nat) : Int) = (τ : Int) + 1 by omega, Int.add_mul]; omega
theorem take_any {S : List Int} {q : Nat} (h : q < S.length) : (S.take (q + 1)).any (byB 1) = ((S.take q).any (byB 1) || byB 1 (S.getD q 0)) := by
  rw [List.take_succ_eq_append_getElem h, List.any_append]; simp [h]
theorem getD_over {S : List Int} {q : Nat} (h : ¬ q < S.length) : S.getD q 0 = 0 := by simp [List.getD_eq_getElem?_getD, List.getElem?_eq_none (show S.length ≤ q by omega)]

/-- what holds while the document's pass is made -/
structure RInv (w0 : World) (h g n : Nat) (T : Int) (F : Nat → Int) (l : Bool) (a : Option Addr) (c : Nat) (S : List Int) (w : World) : Prop where
  b : Blk w h 36 [.slice (some ⟨g, 0, none⟩) n n, .int .i64 T, .bool l]
  e : Blk w g 3 (arr n F)
  r : RowI w a c S
  k : Keep h g w0 w
theorem RInv.drew {w0 : World} {h g n : Nat} {T : Int} {F : Nat → Int} {l : Bool} {a : Option Addr} {c : Nat} {S : List Int} {w : World} (I : RInv w0 h g n T F l a c S w) : RInv w0 h g n T F l a c S w.drew := ⟨I.b.drew, I.e.drew, I.r.drew, I.k.drew⟩
theorem RInv.congr {w0 : World} {h g n : Nat} {T : Int} {F F' : Nat → Int} {l : Bool} {a : Option Addr} {c : Nat} {S : List Int} {w : World} (I : RInv w0 h g n T F l a c S w) (hF : ∀ i, i < n → F i = F' i) : RInv w0 h g n T F' l a c S w := ⟨I.b, by rw [← arr_congr hF]; exact I.e, I.r, I.k⟩
theorem RInv.setE {w0 : World} {h g n : Nat} {T : Int} {F F' : Nat → Int} {l : Bool} {a : Option Addr} {c : Nat} {S : List Int} {w : World} (I : RInv w0 h g n T F l a c S w) (hap : Apart a S.length h g) (hne : h ≠ g) {j : Nat} {v : Int} (hj : j < n) (hF : ∀ i, i < n → F' i = if i = j then v else F i) :
    RInv w0 h g n T F' l a c S (w.setCell ⟨g, j, none⟩ (.int .i64 v)) :=
  ⟨I.b.setOtherC hne _ _, by have := Blk.set I.e j (.int .i64 v); rw [arr_set hj hF] at this; exact this, (Keep.refl h g w).setG j _ |>.row I.r hap, I.k.setG _ _⟩
theorem RInv.setT {w0 : World} {h g n : Nat} {T T' : Int} {F : Nat → Int} {l : Bool} {a : Option Addr} {c : Nat} {S : List Int} {w : World} (I : RInv w0 h g n T F l a c S w) (hap : Apart a S.length h g) (hne : h ≠ g) :
    RInv w0 h g n T' F l a c S (w.setCell ⟨h, 1, none⟩ (.int .i64 T')) :=
  ⟨Blk.set I.b 1 _, I.e.setOtherC hne.symm _ _, (Keep.refl h g w).setH 1 _ |>.row I.r hap, I.k.setH _ _⟩
theorem RInv.setK {w0 : World} {h g n : Nat} {T : Int} {F : Nat → Int} {l l' : Bool} {a : Option Addr} {c : Nat} {S : List Int} {w : World} (I : RInv w0 h g n T F l a c S w) (hap : Apart a S.length h g) (hne : h ≠ g) :
    RInv w0 h g n T F l' a c S (w.setCell ⟨h, 2, none⟩ (.bool l')) :=
  ⟨Blk.set I.b 2 _, I.e.setOtherC hne.symm _ _, (Keep.refl h g w).setH 2 _ |>.row I.r hap, I.k.setH _ _⟩

set_option maxHeartbeats 8000000 in
set_option maxRecDepth 100000 in
theorem rpass_ok (h g n : Nat) (T : Int) (E : Nat → Int) (l : Bool) (t : Int) (a : Option Addr) (c : Nat) (S : List Int) (w : World) (k : RClk w h g n T E l) (ha : RowI w a c S) (hap : Apart a S.length h g) (hok : okP T t n S = true) :
    Calls Try.prog 12 #[.pointer (some ⟨h, 0, none⟩), .int .i64 t, .slice a S.length c] w fun e w' => e = .returned (.int .i64 0) ∧ RClk w' h g n (T + t) (passE E t S) (l && !S.any (byB 1)) ∧ Keep h g w w' := by
  have hl := rowI_len ha
  have hn := k.n9
  have hT := k.t
  have hE := k.bd
  have hne := k.ne
  have c0 := k.c0
  have c1 := k.c1
  have I0 : RInv w h g n T E l a c S w := ⟨k.b, k.e, ha, Keep.refl _ _ _⟩
  obtain ⟨h1, h2, h3, hS8, h6⟩ := okP_parts hok
  obtain ⟨tn, rfl⟩ := Int.eq_ofNat_of_zero_le (by omega : 0 ≤ t)
  have d1 : decide ((tn : Int) < 1) = false := decide_eq_false (by omega)
  have d2 : decide (64 < (tn : Int)) = false := decide_eq_false (by omega)
  have d3 : decide ((n : Int) < (S.length : Int)) = false := decide_eq_false (by omega)
  have d3' : decide (n < S.length) = false := decide_eq_false (by omega)
  have d5 : decide (1099511627776 < T + (tn : Int)) = false := decide_eq_false (by omega)
  have e5 : IntKind.i64.wrap (T + (tn : Int)) = T + (tn : Int) := IntWalk.i64_in _ (by omega)
  have hEb : ∀ τ : Nat, τ ≤ tn → ∀ i, i < n → 0 ≤ passE E τ S i ∧ passE E τ S i ≤ 16 * (T + τ) := fun τ hτ i hi => by
    have q1 := hE i hi
    unfold passE
    by_cases h : i < S.length
    · have hm : S.getD i 0 ∈ S := by simp [h]
      have q2 := hS8 _ hm
      by_cases h0 : τ = 0
      · subst h0; simp; omega
      · have q3 := mul_bd (t := (τ : Int)) (by omega) (by omega) q2.1 q2.2
        omega
    · rw [getD_over h]; omega
  have hHS8 := hid hS8; have HEb := hid hEb
  clear k ha hok hS8 hEb hE
  go_enter Try.func12, Try.ntmps12
  go_wp2_with fail
  go_loopw [7] (fun i wr => ∃ j : Nat, j ≤ S.length ∧ i = .int .i64 j ∧ wr = w) (fun i _ => S.length - (intOf i).toNat)
  case atStart => exact ⟨0, by omega, rfl, rfl⟩
  case round =>
  obtain ⟨j, hj, rfl, rfl⟩ := hrel
  by_cases hlt : j < S.length
  · obtain ⟨ba, oa, rfl, hba, hca⟩ := rowI_cells I0.r (by omega)
    have cj := hca j hlt
    have hmem : S.getD j 0 ∈ S := by simp [hlt]
    have hs := hHS8.out _ hmem
    have hltd : decide ((j : Int) < (S.length : Int)) = true := decide_eq_true (by omega)
    have hltd' : decide (j < S.length) = true := decide_eq_true hlt
    clear hca hmem I0
    generalize S.getD j 0 = s at *
    have g1 : decide (s < -8) = false := decide_eq_false (by omega)
    have g2 : decide (8 < s) = false := decide_eq_false (by omega)
    go_wp2_with fail
    go_roundw
    case rel => exact ⟨j + 1, by omega, by go_num, by first | rfl | trivial⟩
    case measure => simp [intOf]; omega
  · have hltd : decide ((j : Int) < (S.length : Int)) = false := decide_eq_false (by omega)
    have hltd' : decide (j < S.length) = false := decide_eq_false hlt
    clear c0 c1 d3 d3'
    obtain ⟨w0, hw0⟩ : ∃ x, x = wr := ⟨_, rfl⟩
    subst hw0
    go_wp2_with fail
    go_loopw [8] (fun i w2 => ∃ τ : Nat, τ ≤ tn ∧ i = .int .i64 τ ∧ RInv w0 h g n (T + τ) (passE E τ S) (Kk l S τ) a c S w2) (fun i _ => tn - (intOf i).toNat)
    case atStart => exact ⟨0, by omega, rfl, by
      have : RInv w0 h g n T E l a c S w0 := I0
      have e : passE E ((0 : Nat) : Int) S = E := funext (fun i => by unfold passE; simp)
      rw [e, show T + ((0 : Nat) : Int) = T by simp]
      exact this⟩
    case round =>
    obtain ⟨τ, hτ, rfl, I⟩ := hrel
    by_cases hlt2 : τ < tn
    · have hl2 : decide ((τ : Int) < (tn : Int)) = true := decide_eq_true (by omega)
      have hl2' : decide (τ < tn) = true := decide_eq_true hlt2
      have cT : wr.cell? ⟨h, 1, none⟩ = some (.int .i64 (T + τ)) := Blk.cell I.b (i := 1) (by simp)
      have fT : wr.frozen? ⟨h, 1, none⟩ = false := Blk.frozen I.b 1
      have ew : IntKind.i64.wrap (T + (τ : Int) + 1) = T + (τ : Int) + 1 := IntWalk.i64_in _ (by omega)
      have I1 := I.setT (T' := T + (τ : Int) + 1) hap hne
      have HI1 := hid I1
      clear I I1 I0
      go_wp2_with fail
      have I1 := HI1.out
      clear HI1 cT fT
      generalize World.setCell _ _ _ = w3 at *
      go_loopw [9] (fun i w2 => ∃ q : Nat, q ≤ n ∧ i = .int .i64 q ∧ RInv w0 h g n (T + (τ : Int) + 1) (fun j => if j < q then passE E ((τ + 1 : Nat) : Int) S j else passE E τ S j) (Kk l S τ && !(S.take q).any (byB 1)) a c S w2) (fun i _ => n - (intOf i).toNat)
      case atStart => exact ⟨0, by omega, rfl, by simpa using I1⟩
      case round =>
      obtain ⟨q, hq, rfl, I⟩ := hrel
      have c0 : wr.cell? ⟨h, 0, none⟩ = some (.slice (some ⟨g, 0, none⟩) n n) := Blk.cell I.b (i := 0) (by simp)
      by_cases hlt3 : q < n
      · have hl3 : decide ((q : Int) < (n : Int)) = true := decide_eq_true (by omega)
        have hl3' : decide (q < n) = true := decide_eq_true hlt3
        have hxb := HEb.out τ (by omega) q hlt3
        have hps := passE_step E τ S q
        have ce : wr.cell? ⟨g, q, none⟩ = some (.int .i64 (passE E τ S q)) := by
          rw [Blk.cell I.e (i := q) (by rw [arr_length]; exact hlt3), arr_get _ _ hlt3, if_neg (by omega)]
        have fe : wr.frozen? ⟨g, q, none⟩ = false := Blk.frozen I.e q
        have I2 := I.drew.setE (F' := fun j => if j = q then passE E τ S q + 8 else if j < q then passE E ((τ + 1 : Nat) : Int) S j else passE E τ S j) (v := passE E τ S q + 8) hap hne hlt3 (fun i hi => rfl)
        have HI2 := hid I2
        have HPS := hid hps
        clear I1 I2 hps
        generalize hxx : passE E τ S q = x at *
        have HX := hid hxx
        clear hxx
        have ex : IntKind.i64.wrap (x + 8) = x + 8 := IntWalk.i64_in _ (by omega)
        have hS0 : wr.drew.cell? ⟨h, 0, none⟩ = some (.slice (some ⟨g, 0, none⟩) n n) := c0
        go_wp2_with fail
        refine wp_region_held_drew (S := fun w' => w'.cell? ⟨h, 0, none⟩ = some (.slice (some ⟨g, 0, none⟩) n n)) (by kernel_rfl) hS0 (fun hS_0 => ?_)
        refine takeR (i := 0) (v := .pointer (some ⟨h, 0, none⟩)) rfl rfl (by kernel_rfl) (by kernel_rfl) (by kernel_rfl) (fun _ _ _ h => h) (Or.inl ⟨Eq.refl true, fun w1 hSw => ?_⟩) hS_0 ?_
        · first | rfl | (clear hSw; go_simp; done) | (clear hSw; go_simp; rfl)
        (try simp only [Act.put, List.setIfInBounds_toArray, List.set_cons_zero, List.set_cons_succ])
        refine takeR (i := 1) (v := .pointer (some ⟨h, 0, none⟩)) rfl rfl (by kernel_rfl) (by kernel_rfl) (by kernel_rfl) (fun _ _ _ h => h) (Or.inl ⟨Eq.refl true, fun w1 hSw => ?_⟩) hS_0 ?_
        · first | rfl | (clear hSw; go_simp; done) | (clear hSw; go_simp; rfl)
        (try simp only [Act.put, List.setIfInBounds_toArray, List.set_cons_zero, List.set_cons_succ])
        refine takeR (i := 2) (v := .pointer (some ⟨h, 0, none⟩)) rfl rfl (by kernel_rfl) (by kernel_rfl) (by kernel_rfl) (fun _ _ _ h => h) (Or.inl ⟨Eq.refl true, fun w1 hSw => ?_⟩) hS_0 ?_
        · first | rfl | (clear hSw; go_simp; done) | (clear hSw; go_simp; rfl)
        (try simp only [Act.put, List.setIfInBounds_toArray, List.set_cons_zero, List.set_cons_succ])
        refine takeR (i := 3) (v := .slice (some ⟨g, 0, none⟩) n n) rfl rfl (by kernel_rfl) (by kernel_rfl) (by kernel_rfl) (fun _ _ _ h => h) (Or.inl ⟨Eq.refl true, fun w1 hSw => ?_⟩) hS_0 ?_
        · (obtain q1 := hSw; go_simp; try rfl)
        (try simp only [Act.put, List.setIfInBounds_toArray, List.set_cons_zero, List.set_cons_succ])
        refine takeR (i := 4) (v := .int .i64 q) rfl rfl (by kernel_rfl) (by kernel_rfl) (by kernel_rfl) (fun _ _ _ h => h) (Or.inl ⟨Eq.refl true, fun w1 hSw => ?_⟩) hS_0 ?_
        · first | rfl | (clear hSw; go_simp; done) | (clear hSw; go_simp; rfl)
        (try simp only [Act.put, List.setIfInBounds_toArray, List.set_cons_zero, List.set_cons_succ])
        refine takeR (i := 5) (v := .pointer (some ⟨h, 0, none⟩)) rfl rfl (by kernel_rfl) (by kernel_rfl) (by kernel_rfl) (fun _ _ _ h => h) (Or.inl ⟨Eq.refl true, fun w1 hSw => ?_⟩) hS_0 ?_
        · first | rfl | (clear hSw; go_simp; done) | (clear hSw; go_simp; rfl)
        (try simp only [Act.put, List.setIfInBounds_toArray, List.set_cons_zero, List.set_cons_succ])
        refine takeR (i := 6) (v := .pointer (some ⟨h, 0, none⟩)) rfl rfl (by kernel_rfl) (by kernel_rfl) (by kernel_rfl) (fun _ _ _ h => h) (Or.inl ⟨Eq.refl true, fun w1 hSw => ?_⟩) hS_0 ?_
        · first | rfl | (clear hSw; go_simp; done) | (clear hSw; go_simp; rfl)
        (try simp only [Act.put, List.setIfInBounds_toArray, List.set_cons_zero, List.set_cons_succ])
        refine takeR (i := 7) (v := .pointer (some ⟨h, 0, none⟩)) rfl rfl (by kernel_rfl) (by kernel_rfl) (by kernel_rfl) (fun _ _ _ h => h) (Or.inl ⟨Eq.refl true, fun w1 hSw => ?_⟩) hS_0 ?_
        · first | rfl | (clear hSw; go_simp; done) | (clear hSw; go_simp; rfl)
        (try simp only [Act.put, List.setIfInBounds_toArray, List.set_cons_zero, List.set_cons_succ])
        refine takeR (i := 8) (v := .slice (some ⟨g, 0, none⟩) n n) rfl rfl (by kernel_rfl) (by kernel_rfl) (by kernel_rfl) (fun _ _ _ h => h) (Or.inl ⟨Eq.refl true, fun w1 hSw => ?_⟩) hS_0 ?_
        · (obtain q1 := hSw; go_simp; try rfl)
        (try simp only [Act.put, List.setIfInBounds_toArray, List.set_cons_zero, List.set_cons_succ])
        refine takeR (i := 9) (v := .int .i64 q) rfl rfl (by kernel_rfl) (by kernel_rfl) (by kernel_rfl) (fun _ _ _ h => h) (Or.inl ⟨Eq.refl true, fun w1 hSw => ?_⟩) hS_0 ?_
        · first | rfl | (clear hSw; go_simp; done) | (clear hSw; go_simp; rfl)
        (try simp only [Act.put, List.setIfInBounds_toArray, List.set_cons_zero, List.set_cons_succ])
        refine takeR (i := 10) (v := .pointer (some ⟨g, q, none⟩)) rfl rfl (by kernel_rfl) (by kernel_rfl) (by kernel_rfl) (fun _ _ _ h => h) (Or.inl ⟨Eq.refl true, fun w1 hSw => ?_⟩) hS_0 ?_
        · first | rfl | (clear hSw; go_simp; done) | (clear hSw; go_simp; rfl)
        (try simp only [Act.put, List.setIfInBounds_toArray, List.set_cons_zero, List.set_cons_succ])
        refine wpAnyH_ready (rs := [11]) (by kernel_rfl) (by simp) (AllReadyH.cons rfl (fun K hK => ?_) AllReadyH.nil)
        go_simp
        refine hK.out _ _ ?_ (fun hS_1 => ?_)
        · exact hS_0
        clear hK K
        refine takeR (i := 12) (v := .int .i64 (x + 8)) rfl rfl (by kernel_rfl) (by kernel_rfl) (by kernel_rfl) (fun _ _ _ h => h) (Or.inl ⟨Eq.refl true, fun w1 hSw => ?_⟩) hS_1 ?_
        · first | rfl | (clear hSw; go_simp; done) | (clear hSw; go_simp; rfl)
        (try simp only [Act.put, List.setIfInBounds_toArray, List.set_cons_zero, List.set_cons_succ])
        refine takeR (i := 13) (v := .pointer (some ⟨g, q, none⟩)) rfl rfl (by kernel_rfl) (by kernel_rfl) (by kernel_rfl) (fun _ _ _ h => h) (Or.inl ⟨Eq.refl true, fun w1 hSw => ?_⟩) hS_1 ?_
        · first | rfl | (clear hSw; go_simp; done) | (clear hSw; go_simp; rfl)
        (try simp only [Act.put, List.setIfInBounds_toArray, List.set_cons_zero, List.set_cons_succ])
        refine wpAnyH_ready (rs := [14]) (by kernel_rfl) (by simp) (AllReadyH.cons rfl (fun K hK => ?_) AllReadyH.nil)
        go_simp
        refine hK.out _ _ ?_ (fun hS_2 => ?_)
        · exact Blk.cell (Blk.setOtherC (Blk.drew I.b) hne q _) (i := 0) (by simp)
        clear hK K
        refine wpAnyH_done (by kernel_rfl) ?_ _
        have I3 : RInv w0 h g n (T + (τ : Int) + 1) _ (Kk l S τ && !(S.take q).any (byB 1)) a c S (wr.setCell ⟨g, q, none⟩ (.int .i64 (x + 8))).drew := HI2.out
        clear HI2 I hS0 hS_0 hS_1 hS_2 ce fe c0
        generalize (wr.setCell ⟨g, q, none⟩ (.int .i64 (x + 8))).drew = w4 at *
        by_cases hqS : q < S.length
        · have g1 : decide ((q : Int) < (S.length : Int)) = true := decide_eq_true (by omega)
          have g1' : decide (q < S.length) = true := decide_eq_true hqS
          obtain ⟨bs, os, rfl, hbs, hcs⟩ := rowI_cells I3.r (by omega)
          have cs := hcs q hqS
          obtain ⟨ap1, ap2⟩ := hap (by omega) bs os rfl
          have hmem : S.getD q 0 ∈ S := by simp [hqS]
          have hs8 := hHS8.out _ hmem
          have hta := take_any hqS
          have c0 : w4.cell? ⟨h, 0, none⟩ = some (.slice (some ⟨g, 0, none⟩) n n) := Blk.cell I3.b (i := 0) (by simp)
          have ce : w4.cell? ⟨g, q, none⟩ = some (.int .i64 (x + 8)) := by
            rw [Blk.cell I3.e (i := q) (by rw [arr_length]; exact hlt3), arr_get _ _ hlt3, if_pos rfl]
          have fe : w4.frozen? ⟨g, q, none⟩ = false := Blk.frozen I3.e q
          clear hcs hmem
          generalize hss : S.getD q 0 = s at *
          have ex2 : IntKind.i64.wrap (x + 8 + s) = x + 8 + s := IntWalk.i64_in _ (by omega)
          have hS0 : w4.drew.cell? ⟨h, 0, none⟩ = some (.slice (some ⟨g, 0, none⟩) n n) ∧ w4.drew.cell? ⟨bs, os + q, none⟩ = some (.int .i64 s) := ⟨c0, cs⟩
          have I5 := I3.drew.setE (F' := fun j => if j < q + 1 then passE E ((τ + 1 : Nat) : Int) S j else passE E τ S j) (v := x + 8 + s) hap hne hlt3 (fun i hi => by
            by_cases e : i = q
            · subst e
              rw [if_pos (by omega), if_pos rfl, HPS.out]
            · by_cases h2 : i < q
              · rw [if_pos (by omega), if_neg e, if_neg e, if_pos h2]
              · rw [if_neg (by omega), if_neg e, if_neg e, if_neg h2])
          have HI5 := hid I5
          have HSS := hid hss
          clear I5 hss
          have I3d := I3
          go_wp2_with fail
          refine wp_region_held_drew (S := fun w' => w'.cell? ⟨h, 0, none⟩ = some (.slice (some ⟨g, 0, none⟩) n n) ∧ w'.cell? ⟨bs, os + q, none⟩ = some (.int .i64 s)) (by kernel_rfl) hS0 (fun hS_0 => ?_)
          refine takeR (i := 0) (v := .pointer (some ⟨h, 0, none⟩)) rfl rfl (by kernel_rfl) (by kernel_rfl) (by kernel_rfl) (fun _ _ _ h => h) (Or.inl ⟨Eq.refl true, fun w1 hSw => ?_⟩) hS_0 ?_
          · first | rfl | (clear hSw; go_simp; done) | (clear hSw; go_simp; rfl)
          (try simp only [Act.put, List.setIfInBounds_toArray, List.set_cons_zero, List.set_cons_succ])
          refine takeR (i := 1) (v := .pointer (some ⟨h, 0, none⟩)) rfl rfl (by kernel_rfl) (by kernel_rfl) (by kernel_rfl) (fun _ _ _ h => h) (Or.inl ⟨Eq.refl true, fun w1 hSw => ?_⟩) hS_0 ?_
          · first | rfl | (clear hSw; go_simp; done) | (clear hSw; go_simp; rfl)
          (try simp only [Act.put, List.setIfInBounds_toArray, List.set_cons_zero, List.set_cons_succ])
          refine takeR (i := 2) (v := .pointer (some ⟨h, 0, none⟩)) rfl rfl (by kernel_rfl) (by kernel_rfl) (by kernel_rfl) (fun _ _ _ h => h) (Or.inl ⟨Eq.refl true, fun w1 hSw => ?_⟩) hS_0 ?_
          · first | rfl | (clear hSw; go_simp; done) | (clear hSw; go_simp; rfl)
          (try simp only [Act.put, List.setIfInBounds_toArray, List.set_cons_zero, List.set_cons_succ])
          refine takeR (i := 3) (v := .slice (some ⟨g, 0, none⟩) n n) rfl rfl (by kernel_rfl) (by kernel_rfl) (by kernel_rfl) (fun _ _ _ h => h) (Or.inl ⟨Eq.refl true, fun w1 hSw => ?_⟩) hS_0 ?_
          · (obtain ⟨q1, q2⟩ := hSw; go_simp; try rfl)
          (try simp only [Act.put, List.setIfInBounds_toArray, List.set_cons_zero, List.set_cons_succ])
          refine takeR (i := 4) (v := .int .i64 q) rfl rfl (by kernel_rfl) (by kernel_rfl) (by kernel_rfl) (fun _ _ _ h => h) (Or.inl ⟨Eq.refl true, fun w1 hSw => ?_⟩) hS_0 ?_
          · first | rfl | (clear hSw; go_simp; done) | (clear hSw; go_simp; rfl)
          (try simp only [Act.put, List.setIfInBounds_toArray, List.set_cons_zero, List.set_cons_succ])
          refine takeR (i := 5) (v := .pointer (some ⟨h, 0, none⟩)) rfl rfl (by kernel_rfl) (by kernel_rfl) (by kernel_rfl) (fun _ _ _ h => h) (Or.inl ⟨Eq.refl true, fun w1 hSw => ?_⟩) hS_0 ?_
          · first | rfl | (clear hSw; go_simp; done) | (clear hSw; go_simp; rfl)
          (try simp only [Act.put, List.setIfInBounds_toArray, List.set_cons_zero, List.set_cons_succ])
          refine takeR (i := 6) (v := .pointer (some ⟨h, 0, none⟩)) rfl rfl (by kernel_rfl) (by kernel_rfl) (by kernel_rfl) (fun _ _ _ h => h) (Or.inl ⟨Eq.refl true, fun w1 hSw => ?_⟩) hS_0 ?_
          · first | rfl | (clear hSw; go_simp; done) | (clear hSw; go_simp; rfl)
          (try simp only [Act.put, List.setIfInBounds_toArray, List.set_cons_zero, List.set_cons_succ])
          refine takeR (i := 7) (v := .pointer (some ⟨h, 0, none⟩)) rfl rfl (by kernel_rfl) (by kernel_rfl) (by kernel_rfl) (fun _ _ _ h => h) (Or.inl ⟨Eq.refl true, fun w1 hSw => ?_⟩) hS_0 ?_
          · first | rfl | (clear hSw; go_simp; done) | (clear hSw; go_simp; rfl)
          (try simp only [Act.put, List.setIfInBounds_toArray, List.set_cons_zero, List.set_cons_succ])
          refine takeR (i := 8) (v := .slice (some ⟨g, 0, none⟩) n n) rfl rfl (by kernel_rfl) (by kernel_rfl) (by kernel_rfl) (fun _ _ _ h => h) (Or.inl ⟨Eq.refl true, fun w1 hSw => ?_⟩) hS_0 ?_
          · (obtain ⟨q1, q2⟩ := hSw; go_simp; try rfl)
          (try simp only [Act.put, List.setIfInBounds_toArray, List.set_cons_zero, List.set_cons_succ])
          refine takeR (i := 9) (v := .int .i64 q) rfl rfl (by kernel_rfl) (by kernel_rfl) (by kernel_rfl) (fun _ _ _ h => h) (Or.inl ⟨Eq.refl true, fun w1 hSw => ?_⟩) hS_0 ?_
          · first | rfl | (clear hSw; go_simp; done) | (clear hSw; go_simp; rfl)
          (try simp only [Act.put, List.setIfInBounds_toArray, List.set_cons_zero, List.set_cons_succ])
          refine takeR (i := 10) (v := .pointer (some ⟨g, q, none⟩)) rfl rfl (by kernel_rfl) (by kernel_rfl) (by kernel_rfl) (fun _ _ _ h => h) (Or.inl ⟨Eq.refl true, fun w1 hSw => ?_⟩) hS_0 ?_
          · first | rfl | (clear hSw; go_simp; done) | (clear hSw; go_simp; rfl)
          (try simp only [Act.put, List.setIfInBounds_toArray, List.set_cons_zero, List.set_cons_succ])
          refine takeR (i := 12) (v := .slice (some ⟨bs, os, none⟩) S.length c) rfl rfl (by kernel_rfl) (by kernel_rfl) (by kernel_rfl) (fun _ _ _ h => h) (Or.inl ⟨Eq.refl true, fun w1 hSw => ?_⟩) hS_0 ?_
          · first | rfl | (clear hSw; go_simp; done) | (clear hSw; go_simp; rfl)
          (try simp only [Act.put, List.setIfInBounds_toArray, List.set_cons_zero, List.set_cons_succ])
          refine takeR (i := 13) (v := .int .i64 q) rfl rfl (by kernel_rfl) (by kernel_rfl) (by kernel_rfl) (fun _ _ _ h => h) (Or.inl ⟨Eq.refl true, fun w1 hSw => ?_⟩) hS_0 ?_
          · first | rfl | (clear hSw; go_simp; done) | (clear hSw; go_simp; rfl)
          (try simp only [Act.put, List.setIfInBounds_toArray, List.set_cons_zero, List.set_cons_succ])
          refine takeR (i := 14) (v := .pointer (some ⟨bs, os + q, none⟩)) rfl rfl (by kernel_rfl) (by kernel_rfl) (by kernel_rfl) (fun _ _ _ h => h) (Or.inl ⟨Eq.refl true, fun w1 hSw => ?_⟩) hS_0 ?_
          · first | rfl | (clear hSw; go_simp; done) | (clear hSw; go_simp; rfl)
          (try simp only [Act.put, List.setIfInBounds_toArray, List.set_cons_zero, List.set_cons_succ])
          refine takeR (i := 15) (v := .int .i64 s) rfl rfl (by kernel_rfl) (by kernel_rfl) (by kernel_rfl) (fun _ _ _ h => h) (Or.inl ⟨Eq.refl true, fun w1 hSw => ?_⟩) hS_0 ?_
          · (obtain ⟨q1, q2⟩ := hSw; go_simp; try rfl)
          (try simp only [Act.put, List.setIfInBounds_toArray, List.set_cons_zero, List.set_cons_succ])
          refine wpAnyH_ready (rs := [11]) (by kernel_rfl) (by simp) (AllReadyH.cons rfl (fun K hK => ?_) AllReadyH.nil)
          go_simp
          refine hK.out _ _ ?_ (fun hS_1 => ?_)
          · exact hS_0
          clear hK K
          refine takeR (i := 16) (v := .int .i64 (x + 8 + s)) rfl rfl (by kernel_rfl) (by kernel_rfl) (by kernel_rfl) (fun _ _ _ h => h) (Or.inl ⟨Eq.refl true, fun w1 hSw => ?_⟩) hS_1 ?_
          · first | rfl | (clear hSw; go_simp; done) | (clear hSw; go_simp; rfl)
          (try simp only [Act.put, List.setIfInBounds_toArray, List.set_cons_zero, List.set_cons_succ])
          refine takeR (i := 17) (v := .pointer (some ⟨g, q, none⟩)) rfl rfl (by kernel_rfl) (by kernel_rfl) (by kernel_rfl) (fun _ _ _ h => h) (Or.inl ⟨Eq.refl true, fun w1 hSw => ?_⟩) hS_1 ?_
          · first | rfl | (clear hSw; go_simp; done) | (clear hSw; go_simp; rfl)
          (try simp only [Act.put, List.setIfInBounds_toArray, List.set_cons_zero, List.set_cons_succ])
          refine wpAnyH_ready (rs := [18]) (by kernel_rfl) (by simp) (AllReadyH.cons rfl (fun K hK => ?_) AllReadyH.nil)
          go_simp
          refine hK.out _ _ ?_ (fun hS_2 => ?_)
          · exact ⟨Blk.cell (Blk.setOtherC (Blk.drew I3.b) hne q _) (i := 0) (by simp), ((Keep.refl h g w4).drew.setG q _ |>.cell (p := ⟨bs, os + q, none⟩) hbs ap1 ap2).trans cs⟩
          clear hK K
          refine wpAnyH_done (by kernel_rfl) ?_ _
          have I5 : RInv w0 h g n (T + (τ : Int) + 1) _ (Kk l S τ && !(S.take q).any (byB 1)) (some ⟨bs, os, none⟩) c S (w4.setCell ⟨g, q, none⟩ (.int .i64 (x + 8 + s))).drew := HI5.out
          have cs5 : (w4.setCell ⟨g, q, none⟩ (.int .i64 (x + 8 + s))).drew.cell? ⟨bs, os + q, none⟩ = some (.int .i64 s) := hS_2.2
          clear HI5 I3 I3d hS0 hS_0 hS_1 hS_2 ce fe c0 cs
          generalize (w4.setCell ⟨g, q, none⟩ (.int .i64 (x + 8 + s))).drew = w5 at *
          have c2 : w5.cell? ⟨h, 2, none⟩ = some (.bool (Kk l S τ && !(S.take q).any (byB 1))) := Blk.cell I5.b (i := 2) (by simp)
          have f2 : w5.frozen? ⟨h, 2, none⟩ = false := Blk.frozen I5.b 2
          have I6 := hid (I5.setK (l' := false) hap hne)
          have HI5 := hid I5
          clear I5
          rcases (by omega : s < -1 ∨ (-1 ≤ s ∧ 1 < s) ∨ (-1 ≤ s ∧ s ≤ 1)) with q1 | ⟨q1, q2⟩ | ⟨q1, q2⟩
          · have k1 : decide (s < -1) = true := decide_eq_true q1
            have hby : byB 1 s = true := by unfold byB; rw [k1]; rfl
            have hkeep : (Kk l S τ && !(S.take (q + 1)).any (byB 1)) = false := by rw [hta, hby]; simp
            have HKe := hid hkeep
            clear hkeep hby hta
            generalize (Kk l S τ && !(S.take q).any (byB 1)) = kq at *
            go_wp2_with fail
            go_roundw
            case rel => exact ⟨q + 1, by omega, by go_num, by rw [HKe.out]; exact I6.out⟩
            case measure => simp [intOf]; omega
          · have k1 : decide (s < -1) = false := decide_eq_false (by omega)
            have k2 : decide (1 < s) = true := decide_eq_true q2
            have hby : byB 1 s = true := by unfold byB; rw [k2]; simp
            have hkeep : (Kk l S τ && !(S.take (q + 1)).any (byB 1)) = false := by rw [hta, hby]; simp
            have HKe := hid hkeep
            clear hkeep hby hta
            generalize (Kk l S τ && !(S.take q).any (byB 1)) = kq at *
            go_wp2_with fail
            go_roundw
            case rel => exact ⟨q + 1, by omega, by go_num, by rw [HKe.out]; exact I6.out⟩
            case measure => simp [intOf]; omega
          · have k1 : decide (s < -1) = false := decide_eq_false (by omega)
            have k2 : decide (1 < s) = false := decide_eq_false (by omega)
            have hby : byB 1 s = false := by unfold byB; rw [k1, k2]; rfl
            have hkeep : (Kk l S τ && !(S.take (q + 1)).any (byB 1)) = (Kk l S τ && !(S.take q).any (byB 1)) := by rw [hta, hby]; simp
            have HKe := hid hkeep
            clear hkeep hby hta
            generalize (Kk l S τ && !(S.take q).any (byB 1)) = kq at *
            go_wp2_with fail
            go_roundw
            case rel => exact ⟨q + 1, by omega, by go_num, by rw [HKe.out]; exact HI5.out⟩
            case measure => simp [intOf]; omega
        · have g1 : decide ((q : Int) < (S.length : Int)) = false := decide_eq_false (by omega)
          have g1' : decide (q < S.length) = false := decide_eq_false hqS
          have hz := getD_over hqS
          have ht1 : S.take (q + 1) = S.take q := by rw [List.take_of_length_le (by omega), List.take_of_length_le (by omega)]
          have I5 := I3.congr (F' := fun j => if j < q + 1 then passE E ((τ + 1 : Nat) : Int) S j else passE E τ S j) (fun i hi => by
            by_cases e : i = q
            · subst e
              rw [if_pos rfl, if_pos (by omega), HPS.out, hz]; omega
            · by_cases h2 : i < q
              · rw [if_neg e, if_pos h2, if_pos (by omega)]
              · rw [if_neg e, if_neg h2, if_neg (by omega)])
          rw [← ht1] at I5
          have HI5 := hid I5
          clear I5 I3 ht1 hz
          go_wp2_with fail
          go_roundw
          case rel => exact ⟨q + 1, by omega, by go_num, HI5.out⟩
          case measure => simp [intOf]; omega
      · obtain rfl : n = q := by omega
        have hl3 : decide ((n : Int) < (n : Int)) = false := decide_eq_false (by omega)
        have ht1 : S.take n = S := List.take_of_length_le (by omega)
        have I5 := I.congr (F' := passE E ((τ + 1 : Nat) : Int) S) (fun i hi => by rw [if_pos hi])
        rw [ht1, Kk_step, show T + (τ : Int) + 1 = T + ((τ + 1 : Nat) : Int) by omega] at I5
        have HI5 := hid I5
        clear I5 I I1 ht1
        go_wp2_with fail
        go_roundw
        case rel => exact ⟨τ + 1, by omega, by go_num, HI5.out⟩
        case measure => simp [intOf]; omega
    · obtain rfl : tn = τ := by omega
      have hl2 : decide ((tn : Int) < (tn : Int)) = false := decide_eq_false (by omega)
      have hkk : Kk l S tn = (l && !S.any (byB 1)) := if_neg (by omega)
      rw [hkk] at I
      have hbd := HEb.out tn (Nat.le_refl _)
      have hfin : RClk wr h g n (T + (tn : Int)) (passE E (tn : Int) S) (l && !S.any (byB 1)) := ⟨I.b, I.e, hne, hn, by omega, hbd⟩
      have hkeep := I.k
      have HF := hid hfin; have HKp := hid hkeep
      clear I hfin hkeep hbd hkk I0
      go_wp2_with fail
      go_ret
      exact ⟨rfl, HF.out, HKp.out⟩

end Go.Proofs.Ytpiebklgpehafaa
