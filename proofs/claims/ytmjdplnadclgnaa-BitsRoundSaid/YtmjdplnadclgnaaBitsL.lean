import Derived.Test.YtmjdplnadclgnaaBitsK
namespace Go.Proofs.Ytmjdplnadclgnaa
open Go.RowKit Go.WideShapes Go.ChangeShapes
set_option linter.unusedSimpArgs false
set_option linter.unusedVariables false

set_option maxHeartbeats 4000000 in
set_option maxRecDepth 100000 in
theorem BitsReads_walk (w : World) (a : Option Addr) (c : Nat) (xs : List UInt8) (ha : RowB w a c xs) :
    Calls Try.prog 3 #[.slice a xs.length c] w fun e w' => e = .returned (.bool true) ∧ Below w.heap.size w w' := by
  have hl := rowB_len ha
  have hcap : xs.length ≤ c := ha.2.1
  by_cases h16 : xs.length < 16
  · have hM : readM xs = zeros16 := if_pos h16
    have hE : readE xs = 3 := if_pos h16
    have HRd := fun (w1 : World) (r1 : RowB w1 a c xs) => mread_any a c xs w1 r1
    rw [hM, hE] at HRd
    have HRd := hid HRd
    have h40 : ¬ ((40 : Int) < (xs.length : Int)) := by omega
    have h16' : (xs.length : Int) < 16 := by omega
    have hq := fun w1 => run_eqM zeros16 zeros16 w1 rfl rfl
    rw [decide_eq_true rfl] at hq
    have HQ := hid hq
    clear hM hE hq
    go_enter Try.func3, Try.ntmps3
    go_wp2_with (first
      | (go_at_call 10; refine (HRd.out _ ha).mono ?_; rintro e w5 ⟨rfl, b5⟩)
      | ((with_reducible refine wpl_storeM rfl _ _ rfl w5.heap.size rfl zeros16 rfl rfl (zero_blk w5) rfl ?_); intro w6 k6 g6; have b6 : Below w5.heap.size w5 w6 := ((Below.refl w5.heap.size w5).alloc (Nat.le_refl _) _).grown g6 (by simp) (fun k hk => by cases hk; omega); clear g6)
      | ((with_reducible refine wpl_loadW _ rfl w5.heap.size rfl zeros16 rfl (by assumption) ?hw ?_); (case hw => exact (Eq.refl true)); have hq : ∀ w1, (Op.equalIn 10000 24 (.agg (mapC zeros16)) (.agg #[.int .u8 0, .int .u8 0, .int .u8 0, .int .u8 0, .int .u8 0, .int .u8 0, .int .u8 0, .int .u8 0, .int .u8 0, .int .u8 0, .int .u8 0, .int .u8 0, .int .u8 0, .int .u8 0, .int .u8 0, .int .u8 0])).run Try.prog w1 = .ok true w1 := HQ.out)
      | (go_at_call 11; refine (lives10_any _).mono ?_; rintro e w9 ⟨rfl, b9⟩))
    go_ret
    exact ⟨rfl, kept_trans (kept_trans b5 b6) b9⟩
  · by_cases h40 : 40 < xs.length
    · obtain ⟨bb, off, rfl, hbb, _⟩ := ha.bytes (by omega)
      have h40' : (40 : Int) < (xs.length : Int) := by omega
      have h40c : (40 : Nat) ≤ c := by omega
      have h16c : (16 : Nat) ≤ c := by omega
      obtain ⟨ys, hys⟩ : ∃ ys, ys = xs.take 40 := ⟨_, rfl⟩
      have ry : RowB w (some ⟨bb, off, none⟩) c ys := by rw [hys]; exact rowB_take ha 40
      have lys : ys.length = 40 := by rw [hys]; simp; omega
      have r16 : RowB w (some ⟨bb, off, none⟩) c (ys.take 16) := rowB_take ry 16
      have lM : (ys.take 16).length = 16 := by simp; omega
      have hM : readM ys = ys.take 16 := if_neg (by omega)
      have hE : readE ys = 0 := if_neg (by omega)
      clear hys
      have HRd := fun (w1 : World) (r1 : RowB w1 (some ⟨bb, off, none⟩) c ys) => mread_any (some ⟨bb, off, none⟩) c ys w1 r1
      rw [lys, hM, hE] at HRd
      have HRd := hid HRd
      clear hM hE
      generalize ys.take 16 = M at *
      have HBy := fun w1 => mbytes_any M w1 lM
      unfold RetB at HBy
      rw [lM] at HBy
      have HSa : ∀ (a7 : Option Addr) (c7 : Nat) (w7 : World), OwnB w7 w7.heap.size a7 c7 M ∨ True → RowB w7 a7 c7 M → RowB w7 (some ⟨bb, off, none⟩) c M → Calls Try.prog 12 #[.slice a7 16 c7, .slice (some ⟨bb, off, none⟩) 16 c] w7 fun e w' => e = .returned (.bool true) ∧ Below w7.heap.size w7 w' := by
        intro a7 c7 w7 _ r1 r2
        have hs := same_any a7 (some ⟨bb, off, none⟩) c7 c M M w7 r1 r2 (by omega) (by omega)
        rw [lM, decide_eq_true rfl] at hs
        exact hs
      have HBy := hid HBy; have HSa := hid HSa
      go_enter Try.func3, Try.ntmps3
      go_wp2_with (first
        | (go_at_call 10; refine (HRd.out _ ry).mono ?_; rintro e w5 ⟨rfl, b5⟩)
        | ((with_reducible refine wpl_storeM rfl _ _ rfl w5.heap.size rfl M rfl lM (zero_blk w5) rfl ?_); intro w6 k6 g6; have b6 : Below w5.heap.size w5 w6 := ((Below.refl w5.heap.size w5).alloc (Nat.le_refl _) _).grown g6 (by simp) (fun k hk => by cases hk; omega); clear g6))
      have hb6 := kept_trans b5 b6
      have h16ci : ¬ ((c : Int) < 16) := by omega
      have hS0 : w6.drew.rangeAt w5.heap.size 0 (M.map byteV) ∧ Below w6.heap.size w6 w6.drew := ⟨blk_range (Blk.drew k6), (Below.refl _ _).drew⟩
      refine wp_region_held_drew (S := fun w' => w'.rangeAt w5.heap.size 0 (M.map byteV) ∧ Below w6.heap.size w6 w') (by kernel_rfl) hS0 (fun hS_0 => ?_)
      refine wpAnyH_loadM (i := 0) _ (w5.heap.size) M lM rfl rfl rfl rfl (Eq.refl true) (by kernel_rfl) (by kernel_rfl) (by kernel_rfl) (fun _ _ _ h => h) (fun w' h' => h'.1) hS_0 ?_
      (try simp only [Act.put, List.setIfInBounds_toArray, List.set_cons_zero, List.set_cons_succ])
      refine wpAnyH_takeY (i := 2) (v := .slice (some ⟨bb, off, none⟩) 40 c) rfl rfl (by kernel_rfl) (by kernel_rfl) (by kernel_rfl) (fun _ _ _ h => h) (Or.inl ⟨Eq.refl true, fun w1 _ => ?_⟩) hS_0 ?_
      · first | rfl | (go_simp; done) | (go_simp; rfl)
      (try simp only [Act.put, List.setIfInBounds_toArray, List.set_cons_zero, List.set_cons_succ])
      refine wpAnyH_takeY (i := 3) (v := .slice (some ⟨bb, off, none⟩) 16 c) rfl rfl (by kernel_rfl) (by kernel_rfl) (by kernel_rfl) (fun _ _ _ h => h) (Or.inl ⟨Eq.refl true, fun w1 _ => ?_⟩) hS_0 ?_
      · first | rfl | (go_simp; done) | (go_simp; rfl)
      (try simp only [Act.put, List.setIfInBounds_toArray, List.set_cons_zero, List.set_cons_succ])
      refine wpAnyH_ready (rs := [1]) (by kernel_rfl) (by simp) (AllReadyH.cons rfl (fun K hK => ?_) AllReadyH.nil)
      go_simp
      go_wp2_with (go_at_call 13; refine (HBy.out _).mono ?_; rintro e w7 ⟨a7, c7, rfl, o7, b7⟩)
      refine hK.out _ _ ?_ (fun hS_1 => ?_)
      · exact MapAt.step hS_0 b7
      clear hK K
      refine wpAnyH_ready (rs := [4]) (by kernel_rfl) (by simp) (AllReadyH.cons rfl (fun K hK => ?_) AllReadyH.nil)
      go_simp
      go_wp2_with (go_at_call 12; refine (HSa.out a7 c7 _ (.inr trivial) o7.row (r16.mono (kept_trans hb6 hS_1.2))).mono ?_; rintro e w8 ⟨rfl, b8⟩)
      refine hK.out _ _ ?_ (fun hS_2 => ?_)
      · exact MapAt.step hS_1 b8
      clear hK K
      refine wpAnyH_takeY (i := 5) (v := .bool true) rfl rfl (by kernel_rfl) (by kernel_rfl) (by kernel_rfl) (fun _ _ _ h => h) (Or.inl ⟨Eq.refl true, fun w1 _ => ?_⟩) hS_2 ?_
      · first | rfl | (go_simp; done) | (go_simp; rfl)
      (try simp only [Act.put, List.setIfInBounds_toArray, List.set_cons_zero, List.set_cons_succ])
      refine wpAnyH_done (by kernel_rfl) ?_ _
      go_wp2_with (first
        | (go_at_call 11; refine (lives10_any _).mono ?_; rintro e w9 ⟨rfl, b9⟩))
      go_ret
      exact ⟨rfl, kept_trans (kept_trans hb6 hS_2.2) b9⟩
    · obtain ⟨bb, off, rfl, hbb, _⟩ := ha.bytes (by omega)
      have h40' : ¬ ((40 : Int) < (xs.length : Int)) := by omega
      have h16' : ¬ ((xs.length : Int) < 16) := by omega
      have h16c : (16 : Nat) ≤ c := by omega
      obtain ⟨ys, hys⟩ : ∃ ys, ys = xs := ⟨_, rfl⟩
      have ry : RowB w (some ⟨bb, off, none⟩) c ys := by rw [hys]; exact ha
      have lys : ys.length = xs.length := by rw [hys]
      have r16 : RowB w (some ⟨bb, off, none⟩) c (ys.take 16) := rowB_take ry 16
      have lM : (ys.take 16).length = 16 := by simp; omega
      have hM : readM ys = ys.take 16 := if_neg (by omega)
      have hE : readE ys = 0 := if_neg (by omega)
      clear hys
      have HRd := fun (w1 : World) (r1 : RowB w1 (some ⟨bb, off, none⟩) c ys) => mread_any (some ⟨bb, off, none⟩) c ys w1 r1
      rw [lys, hM, hE] at HRd
      have HRd := hid HRd
      clear hM hE
      generalize ys.take 16 = M at *
      have HBy := fun w1 => mbytes_any M w1 lM
      unfold RetB at HBy
      rw [lM] at HBy
      have HSa : ∀ (a7 : Option Addr) (c7 : Nat) (w7 : World), OwnB w7 w7.heap.size a7 c7 M ∨ True → RowB w7 a7 c7 M → RowB w7 (some ⟨bb, off, none⟩) c M → Calls Try.prog 12 #[.slice a7 16 c7, .slice (some ⟨bb, off, none⟩) 16 c] w7 fun e w' => e = .returned (.bool true) ∧ Below w7.heap.size w7 w' := by
        intro a7 c7 w7 _ r1 r2
        have hs := same_any a7 (some ⟨bb, off, none⟩) c7 c M M w7 r1 r2 (by omega) (by omega)
        rw [lM, decide_eq_true rfl] at hs
        exact hs
      have HBy := hid HBy; have HSa := hid HSa
      go_enter Try.func3, Try.ntmps3
      go_wp2_with (first
        | (go_at_call 10; refine (HRd.out _ ry).mono ?_; rintro e w5 ⟨rfl, b5⟩)
        | ((with_reducible refine wpl_storeM rfl _ _ rfl w5.heap.size rfl M rfl lM (zero_blk w5) rfl ?_); intro w6 k6 g6; have b6 : Below w5.heap.size w5 w6 := ((Below.refl w5.heap.size w5).alloc (Nat.le_refl _) _).grown g6 (by simp) (fun k hk => by cases hk; omega); clear g6))
      have hb6 := kept_trans b5 b6
      have h16ci : ¬ ((c : Int) < 16) := by omega
      have hS0 : w6.drew.rangeAt w5.heap.size 0 (M.map byteV) ∧ Below w6.heap.size w6 w6.drew := ⟨blk_range (Blk.drew k6), (Below.refl _ _).drew⟩
      refine wp_region_held_drew (S := fun w' => w'.rangeAt w5.heap.size 0 (M.map byteV) ∧ Below w6.heap.size w6 w') (by kernel_rfl) hS0 (fun hS_0 => ?_)
      refine wpAnyH_loadM (i := 0) _ (w5.heap.size) M lM rfl rfl rfl rfl (Eq.refl true) (by kernel_rfl) (by kernel_rfl) (by kernel_rfl) (fun _ _ _ h => h) (fun w' h' => h'.1) hS_0 ?_
      (try simp only [Act.put, List.setIfInBounds_toArray, List.set_cons_zero, List.set_cons_succ])
      refine wpAnyH_takeY (i := 2) (v := .slice (some ⟨bb, off, none⟩) xs.length c) rfl rfl (by kernel_rfl) (by kernel_rfl) (by kernel_rfl) (fun _ _ _ h => h) (Or.inl ⟨Eq.refl true, fun w1 _ => ?_⟩) hS_0 ?_
      · first | rfl | (go_simp; done) | (go_simp; rfl)
      (try simp only [Act.put, List.setIfInBounds_toArray, List.set_cons_zero, List.set_cons_succ])
      refine wpAnyH_takeY (i := 3) (v := .slice (some ⟨bb, off, none⟩) 16 c) rfl rfl (by kernel_rfl) (by kernel_rfl) (by kernel_rfl) (fun _ _ _ h => h) (Or.inl ⟨Eq.refl true, fun w1 _ => ?_⟩) hS_0 ?_
      · first | rfl | (go_simp; done) | (go_simp; rfl)
      (try simp only [Act.put, List.setIfInBounds_toArray, List.set_cons_zero, List.set_cons_succ])
      refine wpAnyH_ready (rs := [1]) (by kernel_rfl) (by simp) (AllReadyH.cons rfl (fun K hK => ?_) AllReadyH.nil)
      go_simp
      go_wp2_with (go_at_call 13; refine (HBy.out _).mono ?_; rintro e w7 ⟨a7, c7, rfl, o7, b7⟩)
      refine hK.out _ _ ?_ (fun hS_1 => ?_)
      · exact MapAt.step hS_0 b7
      clear hK K
      refine wpAnyH_ready (rs := [4]) (by kernel_rfl) (by simp) (AllReadyH.cons rfl (fun K hK => ?_) AllReadyH.nil)
      go_simp
      go_wp2_with (go_at_call 12; refine (HSa.out a7 c7 _ (.inr trivial) o7.row (r16.mono (kept_trans hb6 hS_1.2))).mono ?_; rintro e w8 ⟨rfl, b8⟩)
      refine hK.out _ _ ?_ (fun hS_2 => ?_)
      · exact MapAt.step hS_1 b8
      clear hK K
      refine wpAnyH_takeY (i := 5) (v := .bool true) rfl rfl (by kernel_rfl) (by kernel_rfl) (by kernel_rfl) (fun _ _ _ h => h) (Or.inl ⟨Eq.refl true, fun w1 _ => ?_⟩) hS_2 ?_
      · first | rfl | (go_simp; done) | (go_simp; rfl)
      (try simp only [Act.put, List.setIfInBounds_toArray, List.set_cons_zero, List.set_cons_succ])
      refine wpAnyH_done (by kernel_rfl) ?_ _
      go_wp2_with (first
        | (go_at_call 11; refine (lives10_any _).mono ?_; rintro e w9 ⟨rfl, b9⟩))
      go_ret
      exact ⟨rfl, kept_trans (kept_trans hb6 hS_2.2) b9⟩

theorem own_some {w : World} {B : Nat} {e : TypeId} {sz : Nat} {a : Option Addr} {n c : Nat} {cs : List Value} (h : Own w B e sz a n c cs) (hn : 0 < n) : ∃ g, a = some ⟨g, 0, none⟩ := by
  obtain ⟨h0, h⟩ := h
  rcases h with ⟨hv, h1⟩ | ⟨g, cap, cur, hv, _⟩
  · omega
  · cases hv; exact ⟨g, rfl⟩
theorem Blk.grownK {w w' : World} {g k : Nat} {e : TypeId} {L : List Value} (h : Blk w g e L) (G : w.grownBy w' (some k)) (hne : g ≠ k) : Blk w' g e L := (G.block g h.lt (by simpa using hne)).trans h

set_option maxHeartbeats 4000000 in
set_option maxRecDepth 100000 in
theorem BitsRound_walk (w : World) (xs : List UInt8) (hx : xs.length = 16) :
    Calls Try.prog 9 #[.agg (mapC xs)] w fun e w' => e = .returned (.bool true) ∧ Below w.heap.size w w' := by
  have K0 : Blk (w.alloc (.cells (mapC xs) 24)) w.heap.size 24 (xs.map byteV) := heap_alloc_new w _
  have B0 : Below w.heap.size w (w.alloc (.cells (mapC xs) 24)) := (Below.refl _ w).alloc (Nat.le_refl _) _
  have hM : readM xs = xs := by unfold readM; rw [if_neg (by omega), List.take_of_length_le (by omega)]
  have hE : readE xs = 0 := if_neg (by omega)
  have HRd := fun (w1 : World) (a : Option Addr) (c : Nat) (r1 : RowB w1 a c xs) => mread_any a c xs w1 r1
  rw [hM, hE, hx] at HRd
  have HBy := fun w1 => mbytes_any xs w1 hx
  unfold RetB at HBy
  rw [hx] at HBy
  have HBR := fun (w1 : World) (a : Option Addr) (c : Nat) (r : Row w1 1 a 128 c (truthsV xs 128)) => bytesRef_any a c xs w1 r hx
  unfold RetB at HBR
  rw [hx] at HBR
  have HSa : ∀ (a7 b7 : Option Addr) (c7 d7 : Nat) (w7 : World), RowB w7 a7 c7 xs → RowB w7 b7 d7 xs → Calls Try.prog 12 #[.slice a7 16 c7, .slice b7 16 d7] w7 fun e w' => e = .returned (.bool true) ∧ Below w7.heap.size w7 w' := by
    intro a7 b7 c7 d7 w7 r1 r2
    have hs := same_any a7 b7 c7 d7 xs xs w7 r1 r2 (by omega) (by omega)
    rw [hx, decide_eq_true rfl] at hs
    exact hs
  have hq := fun w1 => run_eqM xs xs w1 hx hx
  rw [decide_eq_true rfl] at hq
  have HRd := hid HRd; have HBy := hid HBy; have HBR := hid HBR; have HSa := hid HSa; have HQ := hid hq
  clear hM hE hq
  go_enter Try.func9, Try.ntmps9
  go_wp2_with (first
    | ((with_reducible refine wpl_loadM rfl _ rfl w.heap.size rfl xs hx (by assumption) ?_))
    | (go_at_call 13; refine (HBy.out _).mono ?_; rintro e w1 ⟨a1, c1, rfl, o1, b1⟩; have k1 := Blk.mono K0 b1)
    | (go_at_call 10; refine (HRd.out _ a1 c1 o1.row).mono ?_; rintro e w2 ⟨rfl, b2⟩; have k2 := Blk.mono k1 b2; have r2 := o1.row.mono b2)
    | ((with_reducible refine wpl_storeM rfl _ _ rfl w2.heap.size rfl xs rfl hx (zero_blk w2) rfl ?_); intro w3 m3 g3; have b3 : Below w2.heap.size w2 w3 := ((Below.refl w2.heap.size w2).alloc (Nat.le_refl _) _).grown g3 (by simp) (fun k hk => by cases hk; omega); have k3 := Blk.mono k2 b3; have r3 := r2.mono b3; clear g3)
    | (go_at_call 14; refine (truths_any xs _ hx).mono ?_; rintro e w4 ⟨a4, c4, rfl, o4, b4⟩; have k4 := Blk.mono k3 b4; have m4 := Blk.mono m3 b4; have r4 := r3.mono b4)
    | (go_at_call 24; refine (HBR.out _ a4 c4 o4.row).mono ?_; rintro e w5 ⟨a5, c5, rfl, o5, b5⟩; have k5 := Blk.mono k4 b5; have m5 := Blk.mono m4 b5; have r5 := r4.mono b5)
    | (go_at_call 12; refine (HSa.out a1 a5 c1 c5 _ r5 o5.row).mono ?_; rintro e w6 ⟨rfl, b6⟩; have k6 := Blk.mono k5 b6; have m6 := Blk.mono m5 b6))
  have b16 := kept_trans (kept_trans (kept_trans (kept_trans b2 b3) b4) b5) b6
  have ob := o1.mono b16
  have hb6 := kept_trans (kept_trans B0 b1) b16
  obtain ⟨g, rfl⟩ := own_some o1 (by omega)
  obtain ⟨Z, hg, hg0, _, _⟩ := own_bytes ob
  have hgl : g < w2.heap.size := by
    obtain ⟨Z1, hg1, _⟩ := own_bytes o1
    exact Nat.lt_of_lt_of_le hg1.lt b2.size
  have hgw : w.heap.size < g := by simp at hg0; omega
  have hL : 16 ≤ (xs.map byteV ++ Z).length := by simp; omega
  generalize xs.map byteV ++ Z = L0 at *
  clear o1 o4 o5 r2 r3 r4 r5 b1 b2 b3 b4 b5 b6 k1 k2 k3 k4 k5 m3 m4 m5 K0 B0 ob b16
  go_loopw [7] (fun i wr => ∃ (j : Nat) (L : List Value), j ≤ 16 ∧ i = .int .i64 j ∧ Blk wr g 5 L ∧ 16 ≤ L.length ∧ w6.grownBy wr (some g)) (fun i _ => 16 - (intOf i).toNat)
  case atStart => exact ⟨0, L0, by omega, rfl, hg, hL, grown_refl' _ _⟩
  case round =>
    obtain ⟨j, L, hj, rfl, kg, hLl, gr⟩ := hrel
    by_cases hlt : j < 16
    · obtain ⟨v0, c0⟩ := Blk.someCell kg (i := j) (by omega)
      have f0 : wr.frozen? ⟨g, j, none⟩ = false := Blk.frozen kg j
      have s0 := hid (Blk.set kg j (.int .u8 77))
      have s1 := hid (grown_set' gr j (.int .u8 77))
      have hltd : decide ((j : Int) < 16) = true := decide_eq_true (by omega)
      clear kg gr
      go_wp2_with fail
      go_roundw
      case rel => exact ⟨j + 1, _, by omega, by go_num, s0.out, by simpa using hLl, s1.out⟩
      case measure => simp [intOf]; omega
    · obtain rfl : j = 16 := by omega
      have kx := Blk.grownK k6 gr (by omega)
      have mx := Blk.grownK m6 gr (by omega)
      have hbr := hb6.grown gr hb6.size (fun k hk => by cases hk; omega)
      clear kg gr k6 m6 hb6
      go_wp2_with (first
        | ((with_reducible refine wpl_loadM rfl _ rfl w.heap.size rfl xs hx (by assumption) ?_))
        | ((with_reducible refine wpl_loadW _ rfl w2.heap.size rfl xs hx (by assumption) ?hw ?_); (case hw => exact (Eq.refl true)); have hq := HQ.out)
        | ((with_reducible refine wpl_loadW _ rfl w.heap.size rfl xs hx (by assumption) ?hw ?_); (case hw => exact (Eq.refl true)))
        | (go_at_call 13; refine (HBy.out _).mono ?_; rintro e w7 ⟨a7, c7, rfl, o7, b7⟩; have k7 := Blk.mono kx b7; have m7 := Blk.mono mx b7)
        | (go_at_call 14; refine (truths_any xs _ hx).mono ?_; rintro e w8 ⟨a8, c8, rfl, o8, b8⟩; have k8 := Blk.mono k7 b8; have m8 := Blk.mono m7 b8; have r8 := o7.row.mono b8)
        | (go_at_call 24; refine (HBR.out _ a8 c8 o8.row).mono ?_; rintro e w9 ⟨a9, c9, rfl, o9, b9⟩; have k9 := Blk.mono k8 b9; have m9 := Blk.mono m8 b9; have r9 := r8.mono b9)
        | (go_at_call 12; refine (HSa.out a7 a9 c7 c9 _ r9 o9.row).mono ?_; rintro e w10 ⟨rfl, b10⟩; have k10 := Blk.mono k9 b10; have m10 := Blk.mono m9 b10)
        | (go_at_call 11; refine (lives10_any _).mono ?_; rintro e w11 ⟨rfl, b11⟩))
      go_ret
      exact ⟨rfl, kept_trans (kept_trans (kept_trans (kept_trans (kept_trans hbr b7) b8) b9) b10) b11⟩

end Go.Proofs.Ytmjdplnadclgnaa
