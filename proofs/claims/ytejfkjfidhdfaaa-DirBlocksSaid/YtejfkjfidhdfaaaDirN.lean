/- The document's Block; DirBlocks. -/
import Derived.Test.YtejfkjfidhdfaaaDirM
import Derived.StillTailTactics
namespace Go.Proofs.Ytejfkjfidhdfaaa
open Go.RowKit Go.Shelf
set_option linter.unusedSimpArgs false
set_option linter.unusedVariables false

def lenV : Value → Nat
  | .slice _ n _ => n
  | _ => 0
theorem byteV_of {i : Int} (h : 0 ≤ i ∧ i ≤ 255) : byteV (UInt8.ofNat i.toNat) = .int .u8 i := by
  unfold byteV
  congr 1
  have : i.toNat % 256 = i.toNat := Nat.mod_eq_of_lt (by omega)
  rw [UInt8.toNat_ofNat', this]; omega
theorem two_bytes {i : Int} (n : Nat) (h : 0 ≤ i ∧ i ≤ 255) (hn : n ≤ 255) : [Value.int .u8 i, .int .u8 (n : Int)] = ([UInt8.ofNat i.toNat, UInt8.ofNat n].map byteV) := by
  rw [List.map_cons, List.map_cons, List.map_nil, byteV_of h, ← byteV_of (i := (n : Int)) ⟨by omega, by omega⟩]; rfl

set_option maxHeartbeats 1000000 in
set_option maxRecDepth 100000 in
theorem rblock_any (t : List EntT) (ht : t.length = 16) (k : Int) (g c : Nat) (w : World) (hE : EntAt w g 0 t) : Calls Try.prog 27 #[.slice (some ⟨g, 0, none⟩) 16 c, .int .i64 k] w (RetO w (blockF t k)) := by
  have HT := hid ht
  have HE := hid hE; have HGW := hid hE.1; have HEW := hid hE.2
  clear ht hE
  by_cases hk : 0 ≤ k ∧ k < 4
  · obtain ⟨q, rfl⟩ : ∃ q : Nat, k = q := ⟨k.toNat, by omega⟩
    have hq : q < 4 := by omega
    have HR : Hid (blockF t (q : Int) = blkO ((t.drop (4 * q)).take 4)) := if_pos hk
    have q4 : (q : Int) < 4 := by omega
    have d1 : decide ((q : Int) < 0) = false := decide_eq_false (by omega)
    have d2 : decide (3 < (q : Int)) = false := decide_eq_false (by omega)
    clear hk
    obtain ⟨es, hes⟩ : ∃ es, es = (t.drop (4 * q)).take 4 := ⟨_, rfl⟩
    rw [← hes] at HR
    have hel : es.length = 4 := by rw [hes, List.length_take, List.length_drop, HT.out]; omega
    have hget : ∀ j (h : j < es.length), ∃ h' : 4 * q + j < t.length, es[j] = t[4 * q + j] := fun j h => ⟨by rw [HT.out]; omega, by subst hes; simp⟩
    have HG := hid hget; have HEL := hid hel
    clear hes hget hel
    go_enter Try.func27, Try.ntmps27
    go_wp2_with fail
    go_loopw [6, 7] (fun b i wr => ∃ (j : Nat) (a1 : Option Addr) (c1 m v : Nat), j ≤ 4 ∧ v = 4 * q + j ∧ i = .int .i64 v ∧ b = .slice a1 m c1 ∧ m = 16 * j ∧ (es.take j).all (fun e => mayE e.nm e.ino) = true ∧ Own wr w.heap.size 5 1 a1 m c1 (((es.take j).flatMap fun e => entB e.nm e.ino).map byteV) ∧ EntAt wr g 0 t ∧ Below w.heap.size w wr) (fun _ i _ => 4 * q + 4 - (intOf i).toNat)
    case atStart => exact ⟨0, none, 0, 0, 4 * q, by omega, by omega, by go_num, rfl, rfl, rfl, Own.nil _ _ _ _, HE.out, Below.refl _ _⟩
    case round =>
      obtain ⟨j, a1, c1, m, v, hj, hv, rfl, rfl, hm, hall, ho, hb0, hbl⟩ := hrel
      have HO := hid ho; have HB0 := hid hb0; have HBL := hid hbl; have HALL := hid hall; have HM := hid hm; have HV := hid hv
      have hm64 : m ≤ 64 := by omega
      have hv16 : v ≤ 16 := by omega
      have hv0 : (4 : Int) * q ≤ v := by omega
      clear ho hb0 hbl hall hm HE
      by_cases hj4 : j < 4
      · have ij : (v : Int) < 4 * (q : Int) + 4 := by omega
        have iv : (v : Int) < 16 := by omega
        have dj : decide ((v : Int) < 4 * (q : Int) + 4) = true := decide_eq_true ij
        have hje : j < es.length := by rw [HEL.out]; exact hj4
        obtain ⟨ht4, hte⟩ := HG.out j hje
        have hvt : v < t.length := by rw [HT.out]; omega
        have htv : es[j] = t[v] := by rw [hte]; congr 1; exact hv.symm
        obtain ⟨c0, c1'⟩ := HB0.out.2 v hvt
        rw [← htv] at c0 c1'
        rw [Nat.zero_add] at c0 c1'
        have hcells : ∀ wx : World, EntAt wx g 0 t → wx.cell? ⟨g, v * 2, none⟩ = some (.string es[j].nm) ∧ wx.cell? ⟨g, v * 2 + 1, none⟩ = some (.int .i64 es[j].ino) := fun wx h => by
          have := h.2 v hvt
          rw [← htv, Nat.zero_add] at this
          exact this
        have HCE := hid hcells
        clear hcells
        have hlt := HB0.out.1
        have hbad := fun hm => blkO_bad hje hm
        have hgood := fun hm => all_snocE hje HALL.out hm
        have hfl := flat_snocE hje
        have hHM := fun w1 => refMay12_any es[j].nm es[j].ino w1
        have HBAD := hid hbad; have HGOOD := hid hgood; have HFL := hid hfl; have HHM := hid hHM
        clear hbad hgood hfl hHM hte htv hv
        generalize es[j].nm = nm at *
        generalize es[j].ino = ino at *
        cases hmm : mayE nm ino with
        | false =>
          rw [hmm] at HHM
          have HN := hid (HBAD.out hmm)
          clear hmm
          go_wp2_with (go_at_call 21; refine (HHM.out _).mono ?_; rintro e w3 ⟨rfl, b3⟩; have B3 := hid (kept_trans HBL.out b3); clear b3)
          go_ret2
          exact RetO_none (by rw [HR.out, HN.out]) rfl B3.out
        | true =>
          rw [hmm] at HHM
          have hbd := mayE_bd hmm
          have HG2 := hid (HGOOD.out hmm)
          have hel := entB_len nm ino (by omega)
          have HE16 := hid hel
          have HTB := hid (two_bytes nm.size (i := ino) ⟨hbd.1, by omega⟩ (by omega))
          have HEB : Hid (entB nm ino = [UInt8.ofNat ino.toNat, UInt8.ofNat nm.size] ++ nm.data.toList ++ List.replicate (14 - nm.size) 0) := rfl
          have w8a : IntKind.u8.wrap ino = ino := IntWalk.u8_in _ (by omega)
          have w8b : IntKind.u8.wrap (nm.size : Int) = nm.size := IntWalk.u8_in _ (by omega)
          have hns : nm.size ≤ 12 := hbd.2.2
          clear hmm hbd hel
          go_wp2_with (first
            | (go_at_call 21; refine (HHM.out _).mono ?_; rintro e w3 ⟨rfl, b3⟩; have B3 := hid (kept_trans HBL.out b3); have HO3 := hid (HO.out.mono b3); have HB3 := hid (HB0.out.mono b3)
               clear b3
               clear c0 c1'
               obtain ⟨c0, c1'⟩ := HCE.out _ HB3.out))
          have hgw : g < w.heap.size := HGW.out
          have HSTEP : Hid (∀ X Y : World, ((X.cell? ⟨g, v * 2, none⟩ = some (.string nm) ∧ X.cell? ⟨g, v * 2 + 1, none⟩ = some (.int .i64 ino)) ∧ Below w.heap.size w X) → Below w.heap.size X Y → ((Y.cell? ⟨g, v * 2, none⟩ = some (.string nm) ∧ Y.cell? ⟨g, v * 2 + 1, none⟩ = some (.int .i64 ino)) ∧ Below w.heap.size w Y)) :=
            hid (fun X Y h b => ⟨⟨(b.cell (p := ⟨g, v * 2, none⟩) hgw).trans h.1.1, (b.cell (p := ⟨g, v * 2 + 1, none⟩) hgw).trans h.1.2⟩, h.2.trans b⟩)
          have hS0 : (w3.drew.cell? ⟨g, v * 2, none⟩ = some (.string nm) ∧ w3.drew.cell? ⟨g, v * 2 + 1, none⟩ = some (.int .i64 ino)) ∧ Below w.heap.size w w3.drew := ⟨⟨c0, c1'⟩, B3.out.drew⟩
          have R2 := hid (row_blkO (blk_newO (W := w3.drew) rfl 5 [.int .u8 ino, .int .u8 (nm.size : Int)]) 1 2 rfl (by omega))
          have TW : Hid (∀ u ∈ [Value.int .u8 ino, .int .u8 (nm.size : Int)], u.oneCell' = true) := hid (by intro u hu; simp only [List.mem_cons, List.not_mem_nil, or_false] at hu; rcases hu with rfl | rfl <;> rfl)
          refine wp_region_held_drew (S := fun w' => (w'.cell? ⟨g, v * 2, none⟩ = some (.string nm) ∧ w'.cell? ⟨g, v * 2 + 1, none⟩ = some (.int .i64 ino)) ∧ Below w.heap.size w w') (by kernel_rfl) hS0 (fun hS_0 => ?_)
          refine takeR (i := 0) (v := .slice a1 m c1) rfl rfl (by kernel_rfl) (by kernel_rfl) (by kernel_rfl) (fun _ _ _ h => h) (Or.inl ⟨Eq.refl true, fun w1 hSw => ?_⟩) hS_0 ?_
          · first | rfl | (clear hSw; go_simp; done) | (clear hSw; go_simp; rfl)
          (try simp only [Act.put, List.setIfInBounds_toArray, List.set_cons_zero, List.set_cons_succ])
          refine takeR (i := 1) (v := .slice (some ⟨g, 0, none⟩) 16 c) rfl rfl (by kernel_rfl) (by kernel_rfl) (by kernel_rfl) (fun _ _ _ h => h) (Or.inl ⟨Eq.refl true, fun w1 hSw => ?_⟩) hS_0 ?_
          · first | rfl | (clear hSw; go_simp; done) | (clear hSw; go_simp; rfl)
          (try simp only [Act.put, List.setIfInBounds_toArray, List.set_cons_zero, List.set_cons_succ])
          refine takeR (i := 2) (v := .int .i64 v) rfl rfl (by kernel_rfl) (by kernel_rfl) (by kernel_rfl) (fun _ _ _ h => h) (Or.inl ⟨Eq.refl true, fun w1 hSw => ?_⟩) hS_0 ?_
          · first | rfl | (clear hSw; go_simp; done) | (clear hSw; go_simp; rfl)
          (try simp only [Act.put, List.setIfInBounds_toArray, List.set_cons_zero, List.set_cons_succ])
          refine takeR (i := 3) (v := .pointer (some ⟨g, v * 2, none⟩)) rfl rfl (by kernel_rfl) (by kernel_rfl) (by kernel_rfl) (fun _ _ _ h => h) (Or.inl ⟨Eq.refl true, fun w1 hSw => ?_⟩) hS_0 ?_
          · first | rfl | (clear hSw; go_simp; done) | (clear hSw; go_simp; rfl)
          (try simp only [Act.put, List.setIfInBounds_toArray, List.set_cons_zero, List.set_cons_succ])
          refine takeR (i := 4) (v := .pointer (some ⟨g, v * 2 + 1, none⟩)) rfl rfl (by kernel_rfl) (by kernel_rfl) (by kernel_rfl) (fun _ _ _ h => h) (Or.inl ⟨Eq.refl true, fun w1 hSw => ?_⟩) hS_0 ?_
          · first | rfl | (clear hSw; go_simp; done) | (clear hSw; go_simp; rfl)
          (try simp only [Act.put, List.setIfInBounds_toArray, List.set_cons_zero, List.set_cons_succ])
          refine takeR (i := 5) (v := .int .i64 ino) rfl rfl (by kernel_rfl) (by kernel_rfl) (by kernel_rfl) (fun _ _ _ h => h) (Or.inl ⟨Eq.refl true, fun w1 hSw => ?_⟩) hS_0 ?_
          · (obtain ⟨⟨q1, q2⟩, _⟩ := hSw; go_simp; try rfl)
          (try simp only [Act.put, List.setIfInBounds_toArray, List.set_cons_zero, List.set_cons_succ])
          refine takeR (i := 6) (v := .int .u8 ino) rfl rfl (by kernel_rfl) (by kernel_rfl) (by kernel_rfl) (fun _ _ _ h => h) (Or.inl ⟨Eq.refl true, fun w1 hSw => ?_⟩) hS_0 ?_
          · first | rfl | (clear hSw; go_simp; done) | (clear hSw; go_simp; rfl)
          (try simp only [Act.put, List.setIfInBounds_toArray, List.set_cons_zero, List.set_cons_succ])
          refine takeR (i := 7) (v := .slice (some ⟨g, 0, none⟩) 16 c) rfl rfl (by kernel_rfl) (by kernel_rfl) (by kernel_rfl) (fun _ _ _ h => h) (Or.inl ⟨Eq.refl true, fun w1 hSw => ?_⟩) hS_0 ?_
          · first | rfl | (clear hSw; go_simp; done) | (clear hSw; go_simp; rfl)
          (try simp only [Act.put, List.setIfInBounds_toArray, List.set_cons_zero, List.set_cons_succ])
          refine takeR (i := 8) (v := .int .i64 v) rfl rfl (by kernel_rfl) (by kernel_rfl) (by kernel_rfl) (fun _ _ _ h => h) (Or.inl ⟨Eq.refl true, fun w1 hSw => ?_⟩) hS_0 ?_
          · first | rfl | (clear hSw; go_simp; done) | (clear hSw; go_simp; rfl)
          (try simp only [Act.put, List.setIfInBounds_toArray, List.set_cons_zero, List.set_cons_succ])
          refine takeR (i := 9) (v := .pointer (some ⟨g, v * 2, none⟩)) rfl rfl (by kernel_rfl) (by kernel_rfl) (by kernel_rfl) (fun _ _ _ h => h) (Or.inl ⟨Eq.refl true, fun w1 hSw => ?_⟩) hS_0 ?_
          · first | rfl | (clear hSw; go_simp; done) | (clear hSw; go_simp; rfl)
          (try simp only [Act.put, List.setIfInBounds_toArray, List.set_cons_zero, List.set_cons_succ])
          refine takeR (i := 10) (v := .pointer (some ⟨g, v * 2, none⟩)) rfl rfl (by kernel_rfl) (by kernel_rfl) (by kernel_rfl) (fun _ _ _ h => h) (Or.inl ⟨Eq.refl true, fun w1 hSw => ?_⟩) hS_0 ?_
          · first | rfl | (clear hSw; go_simp; done) | (clear hSw; go_simp; rfl)
          (try simp only [Act.put, List.setIfInBounds_toArray, List.set_cons_zero, List.set_cons_succ])
          refine takeR (i := 11) (v := .string nm) rfl rfl (by kernel_rfl) (by kernel_rfl) (by kernel_rfl) (fun _ _ _ h => h) (Or.inl ⟨Eq.refl true, fun w1 hSw => ?_⟩) hS_0 ?_
          · (obtain ⟨⟨q1, q2⟩, _⟩ := hSw; go_simp; try rfl)
          (try simp only [Act.put, List.setIfInBounds_toArray, List.set_cons_zero, List.set_cons_succ])
          refine takeR (i := 12) (v := .int .i64 nm.size) rfl rfl (by kernel_rfl) (by kernel_rfl) (by kernel_rfl) (fun _ _ _ h => h) (Or.inl ⟨Eq.refl true, fun w1 hSw => ?_⟩) hS_0 ?_
          · first | rfl | (clear hSw; go_simp; done) | (clear hSw; go_simp; rfl)
          (try simp only [Act.put, List.setIfInBounds_toArray, List.set_cons_zero, List.set_cons_succ])
          refine takeR (i := 13) (v := .int .u8 nm.size) rfl rfl (by kernel_rfl) (by kernel_rfl) (by kernel_rfl) (fun _ _ _ h => h) (Or.inl ⟨Eq.refl true, fun w1 hSw => ?_⟩) hS_0 ?_
          · first | rfl | (clear hSw; go_simp; done) | (clear hSw; go_simp; rfl)
          (try simp only [Act.put, List.setIfInBounds_toArray, List.set_cons_zero, List.set_cons_succ])
          refine wpAnyH_ready (rs := [14]) (by kernel_rfl) (by simp) (AllReadyH.cons rfl (fun K hK => ?_) AllReadyH.nil)
          go_simp
          refine hK.out _ _ ?_ (fun hS_1 => ?_)
          · exact HSTEP.out _ _ hS_0 ((Below.refl _ _).alloc hS_0.2.size _)
          clear hK K
          refine wpAnyH_ready (rs := [15]) (by kernel_rfl) (by simp) (AllReadyH.cons rfl (fun K hK => ?_) AllReadyH.nil)
          refine if_wanted (Eq.refl true) ?_
          refine wpo_append (.tmp 31) (.tmp 45) rfl E8 w.heap.size rfl rfl (HO3.out.drew.alloc (.cells #[.int .u8 ino, .int .u8 nm.size] 5)) (R2.out) (TW.out) (by omega) (by omega) (Nat.le_trans B3.out.size (by simp)) ?_; intro a5 c5 w5 o5 g5 b5; have O5 := hid o5; clear o5 g5
          refine hK.out _ _ ?_ (fun hS_2 => ?_)
          · exact HSTEP.out _ _ hS_1 b5
          clear hK K
          refine takeR (i := 16) (v := .slice a5 (m + 2) c5) rfl rfl (by kernel_rfl) (by kernel_rfl) (by kernel_rfl) (fun _ _ _ h => h) (Or.inl ⟨Eq.refl true, fun w1 hSw => ?_⟩) hS_2 ?_
          · first | rfl | (clear hSw; go_simp; done) | (clear hSw; go_simp; rfl)
          (try simp only [Act.put, List.setIfInBounds_toArray, List.set_cons_zero, List.set_cons_succ])
          refine wpAnyH_done (by kernel_rfl) ?_ _
          obtain ⟨⟨z0, z1⟩, hb5⟩ := hS_2
          have B5 := hid hb5
          have o5 := O5.out
          rw [HTB.out, ← List.map_append] at o5
          have O5 := hid o5
          clear hb5 o5
          have hm76 : m ≤ 48 := by have := HM.out; omega
          clear c0 c1' hS0 hS_0 hS_1
          go_wp2_with (first
            | (at_builtin; (refine wpl_append_str rfl (.tmp 47) (.tmp 52) rfl Try.underlying45 Try.underlying9 (by kernel_rfl) w.heap.size rfl rfl O5.out (by omega) B5.out.size ?_); intro a6 c6 w6 o6 g6 b6; have O6 := hid o6; have B6 := hid (B5.out.trans b6); clear o6 g6 b6))
          have o6 := O6.out
          rw [← List.map_append] at o6
          have O6 := hid o6
          clear o6 z0 z1
          obtain ⟨wo, hwo⟩ : ∃ x, x = wr := ⟨_, rfl⟩
          subst hwo
          have HGW2 := hid hgw
          clear hgw
          generalize hP : (List.take j es).flatMap (fun e => entB e.nm e.ino) ++ [UInt8.ofNat ino.toNat, UInt8.ofNat nm.size] ++ nm.data.toList = PB at *
          have HP := hid hP
          clear hP
          obtain ⟨M, hM⟩ : ∃ M, M = m + 2 + nm.size := ⟨_, rfl⟩
          rw [← hM] at O6 ⊢
          have HMM := hid hM
          have hM16 : M ≤ m + 14 := by omega
          clear hM
          go_loopw [6] (fun b wr2 => ∃ (p N : Nat) (a7 : Option Addr) (c7 : Nat), p ≤ 14 - nm.size ∧ N = M + p ∧ b = .slice a7 N c7 ∧ Own wr2 w.heap.size 5 1 a7 N c7 ((PB ++ List.replicate p 0).map byteV) ∧ Below w.heap.size w wr2) (fun b _ => m + 16 - lenV b)
          case atStart => exact ⟨0, M, a6, c6, by omega, rfl, rfl, by rw [List.replicate_zero, List.append_nil]; exact O6.out, B6.out⟩
          case round =>
            obtain ⟨p, N, a7, c7, hp, hN, rfl, ho7, hb7⟩ := hrel
            have O7 := hid ho7; have B7 := hid hb7; have HN := hid hN
            clear ho7 hb7
            by_cases hpl : p < 14 - nm.size
            · have hr : N % 16 ≠ 0 := by have h1 := HM.out; have h2 := HMM.out; omega
              have e2 : (N : Int).tmod 16 = ((N % 16 : Nat) : Int) := rfl
              have e3 : (N : Int) % 16 = ((N % 16 : Nat) : Int) := by omega
              have hN62 : N ≤ m + 16 := by have h2 := HMM.out; omega
              clear hN
              generalize N % 16 = r at *
              have er : (((r : Nat) : Int) == 0) = false := by simp; omega
              have R1 := hid (row_blkO (blk_newO (W := wr) rfl 5 [.int .u8 0]) 1 1 rfl (by omega))
              go_wp2_with (first
                | (at_builtin; (refine wpl_append rfl (.tmp 58) (.tmp 59) rfl E8 w.heap.size rfl rfl (O7.out.alloc (.cells #[.int .u8 0] 5)) R1.out (byteV_one [0]) (by omega) (by omega) (Nat.le_trans B7.out.size (by simp)) ?_); intro a8 c8 w8 o8 g8 b8; have O8 := hid o8; have B8 := hid ((B7.out.alloc B7.out.size (.cells #[.int .u8 0] 5)).trans b8); clear o8 g8 b8))
              go_roundw
              case rel => exact ⟨p + 1, N + 1, a8, c8, by omega, by have := HN.out; omega, rfl, by rw [List.replicate_succ', ← List.append_assoc, List.map_append]; exact O8.out, B8.out⟩
              case measure => simp [lenV]; have h1 := HN.out; have h2 := HMM.out; omega
            · have hr : N % 16 = 0 := by have h1 := HM.out; have h2 := HMM.out; omega
              have e2 : (N : Int).tmod 16 = 0 := by rw [show (N : Int).tmod 16 = ((N % 16 : Nat) : Int) from rfl, hr]; rfl
              have e3 : (N : Int) % 16 = 0 := by omega
              have hN16 : N = m + 16 := by have h2 := HMM.out; omega
              have hp14 : p = 14 - nm.size := by omega
              have HN16 := hid hN16; have HP14 := hid hp14
              clear hN hr hN16 hp14
              go_wp2_with fail
              go_roundw
              case rel =>
                refine ⟨j + 1, a7, c7, N, v + 1, by omega, by have := HV.out; omega, by go_num, rfl, by have h1 := HN16.out; have h2 := HM.out; omega, HG2.out, ?_, ⟨Nat.lt_of_lt_of_le HGW2.out B7.out.size, fun i hi => ?_⟩, B7.out⟩
                · rw [HFL.out, HEB.out, ← List.append_assoc, ← List.append_assoc, HP.out, ← HP14.out]; exact O7.out
                · have := HEW.out i hi
                  exact ⟨(B7.out.cell (p := ⟨g, 0 + i * 2, none⟩) HGW2.out).trans this.1, (B7.out.cell (p := ⟨g, 0 + i * 2 + 1, none⟩) HGW2.out).trans this.2⟩
              case measure => simp [intOf]; omega
      · obtain rfl : j = 4 := by omega
        have dj : decide ((v : Int) < 4 * (q : Int) + 4) = false := decide_eq_false (by omega)
        rw [List.take_of_length_le (by rw [HEL.out]; omega)] at HO HALL
        have hsome : blkO es = some (es.flatMap fun e => entB e.nm e.ino) := if_pos HALL.out
        have hlen := flat_lenE es HALL.out
        rw [HEL.out, ← HM.out] at hlen
        have HS := hid hsome; have HLN := hid hlen
        clear hsome hlen hv
        generalize (es.flatMap fun e => entB e.nm e.ino) = bs at *
        go_wp2_with fail
        go_ret2
        exact RetO_some (by rw [HR.out, HS.out]) (by rw [HLN.out]; rfl) (by unfold OwnB; rw [HLN.out]; exact HO.out) HBL.out
  · have HR : Hid (blockF t k = none) := if_neg hk
    rcases (by omega : k < 0 ∨ (0 ≤ k ∧ 3 < k)) with h | ⟨h1, h2⟩
    · have d1 : decide (k < 0) = true := decide_eq_true h
      clear hk
      go_enter Try.func27, Try.ntmps27
      go_wp2_with fail
      go_ret2
      exact RetO_none HR.out rfl (Below.refl _ _)
    · have d1 : decide (k < 0) = false := decide_eq_false (by omega)
      have d2 : decide (3 < k) = true := decide_eq_true h2
      clear hk
      go_enter Try.func27, Try.ntmps27
      go_wp2_with fail
      go_ret2
      exact RetO_none HR.out rfl (Below.refl _ _)
end Go.Proofs.Ytejfkjfidhdfaaa
