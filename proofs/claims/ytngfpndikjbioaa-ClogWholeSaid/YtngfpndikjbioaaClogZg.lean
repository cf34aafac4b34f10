import Derived.Test.YtngfpndikjbioaaClogZf
namespace Go.Proofs.Ytngfpndikjbioaa
open Go.RowKit Go.WideShapes
set_option linter.unusedSimpArgs false
set_option linter.unusedVariables false

theorem ER : ElemT Try.prog 43 23 5 48 := elemT Try.underlying43 (z := .agg #[.int .i64 0, .int .i64 0, .bool false, .int .i64 0, .string ⟨#[]⟩]) (by kernel_rfl) rfl (by omega)
theorem EI : ElemT Try.prog 45 3 1 8 := elemT Try.underlying45 (z := .int .i64 0) (by kernel_rfl) rfl (by omega)
theorem rec_oneCell (r : RecT) : ∀ u ∈ recCells r, u.oneCell' = true := by
  intro u hu
  simp only [recCells, List.mem_cons, List.not_mem_nil, or_false] at hu
  rcases hu with rfl | rfl | rfl | rfl | rfl <;> rfl

theorem row_blk {w : World} {g : Nat} {e : TypeId} {L : List Value} (h : Blk w g e L) (sz n : Nat) (hl : L.length = n * sz) (hm : n ≤ maxLen) : Row w sz (some ⟨g, 0, none⟩) n n L :=
  ⟨hl, Nat.le_refl _, hm, (fun h => by simp at h), fun _ => ⟨g, 0, rfl, h.lt, fun j u hu => by
    obtain ⟨hj, he⟩ := List.getElem?_eq_some_iff.1 hu
    rw [Nat.zero_add, ← he]; exact h.cell hj⟩⟩
theorem flat_snoc (A : List RecT) (r : RecT) : (A ++ [r]).flatMap recCells = A.flatMap recCells ++ recCells r := by simp
set_option maxHeartbeats 4000000 in
set_option maxRecDepth 100000 in
theorem scan_good (b off c : Nat) (xs ys : List UInt8) (C q n hd : Nat) (w : World) (ha : RowB w (some ⟨b, off, none⟩) c xs) (hlen : xs.length = 1024) (hys : ys = (xs.drop 8).take n) (hn : n ≤ 1016) (hhd : hd ≤ n)
    (HG : ∀ w1, RowB w1 (some ⟨b, off, none⟩) c xs → Calls Try.prog 32 #[.slice (some ⟨b, off, none⟩) 1024 c, .int .i64 0, .int .i64 8] w1 fun e w' => e = .returned (.tuple #[.int .i64 (C : Nat), .bool true]) ∧ w1 = w')
    (HS : ∀ w1, Calls Try.prog 19 #[.int .i64 (C : Nat)] w1 fun e w' => e = .returned (.tuple #[.int .i64 (q : Nat), .int .i64 (n : Nat), .bool true]) ∧ w1 = w') :
    Calls Try.prog 21 #[.slice (some ⟨b, off, none⟩) 1024 c, .int .i64 (q : Nat), .int .i64 (hd : Nat)] w fun e w' =>
      ∃ a1 c1 a2 c2, e = .returned (.tuple #[.slice a1 (scanT ys hd).length c1, .slice a2 (scanT ys hd).length c2]) ∧ RowR w' a1 c1 ((scanT ys hd).map Prod.fst) ∧ RowI w' a2 c2 ((scanT ys hd).map fun x => (x.2 : Int)) ∧ Below w.heap.size w w' := by
  have hcap : 1024 ≤ c := by have := ha.2.1; omega
  have hyl : ys.length = n := by rw [hys]; simp; omega
  have rys : RowB w (some ⟨b, off + 8, none⟩) (c - 8) ys := by rw [hys]; exact rowB_sub ha 8 n (by omega)
  have hc63 : c ≤ 9223372036854775807 := by have h2 := ha.2.2.1; unfold maxLen at h2; omega
  have HA := hid ha; have HY := hid rys; have HYL := hid hyl
  have HG := hid HG; have HS := hid HS
  have ew : IntKind.i64.wrap (8 + (n : Int)) = 8 + n := IntWalk.i64_in _ (by omega)
  have g1 : (8 : Int) + (n : Int) ≤ (c : Int) := by omega
  have g2 : ¬ (n : Int) < (hd : Int) := by omega
  have g3 : (8 : Int) ≤ 8 + (n : Int) := by omega
  have dh : decide ((hd : Int) < 0) = false := decide_eq_false (by omega)
  have dh2 : decide ((n : Int) < (hd : Int)) = false := decide_eq_false (by omega)
  have dh3 : decide (n < hd) = false := decide_eq_false (by omega)
  have g4 : 0 ≤ (8 : Int) + (n : Int) := by omega
  have g5 : ((8 : Int) + (n : Int)).toNat = 8 + n := by omega
  have g6 : ¬ c = 8 := by omega
  clear ha rys hys hlen
  obtain ⟨F, hF⟩ : ∃ F, F = scanT ys hd := ⟨_, rfl⟩
  rw [← hF]
  have HFF := hid hF
  clear hF
  go_enter Try.func21, Try.ntmps21
  go_wp2_with fail
  go_step3
  go_wp2_with (first
    | (go_at_call 32; refine (HG.out _ HA.out).mono ?_; rintro e w4 ⟨rfl, rfl⟩)
    | (go_at_call 19; refine (HS.out _).mono ?_; rintro e w4 ⟨rfl, rfl⟩))
  go_step3
  go_wp2_with fail
  go_loopw [2, 13, 14] (fun h l e wr => ∃ (k : Nat) (a1 a2 : Option Addr) (c1 c2 m : Nat) (A : List RecT) (Z : List Int), k ≤ n ∧ h = .int .i64 k ∧ l = .slice a1 m c1 ∧ e = .slice a2 m c2 ∧ A.length = m ∧ Z.length = m ∧ m ≤ k ∧ Own wr w.heap.size 23 5 a1 m c1 (A.flatMap recCells) ∧ Own wr w.heap.size 3 1 a2 m c2 (Z.map iV) ∧ Below w.heap.size w wr ∧ A ++ (scanT ys k).map Prod.fst = F.map Prod.fst ∧ Z ++ (scanT ys k).map (fun x => (x.2 : Int)) = F.map (fun x => (x.2 : Int)))
    (fun h _ _ _ => n - (intOf h).toNat)
  case atStart => exact ⟨hd, none, none, 0, 0, 0, [], [], hhd, rfl, rfl, rfl, rfl, rfl, Nat.zero_le _, Own.nil _ _ _ _, Own.nil _ _ _ _, Below.refl _ _, by rw [HFF.out]; rfl, by rw [HFF.out]; rfl⟩
  case round =>
    obtain ⟨k, a1, a2, c1, c2, m, A, Z, hk, rfl, rfl, rfl, hA, hZ, hmk, o1, o2, hbel, hF1, hF2⟩ := hrel
    have HA1 := hid hA; have HZ1 := hid hZ; have HF1 := hid hF1; have HF2 := hid hF2
    clear hA hZ hF1 hF2
    by_cases hkc : c - 8 = k
    · obtain rfl : c = 1024 := by omega
      obtain rfl : n = 1016 := by omega
      obtain rfl : k = 1016 := by omega
      have hnil : ys.drop 1016 = [] := List.drop_eq_nil_of_le (by omega)
      have hE : decE (ys.drop 1016) ≠ 0 := by rw [hnil, decE_nil]; decide
      have hT := scanT_bad hE
      have hF1 := HF1.out; have hF2 := HF2.out
      rw [hT] at hF1 hF2
      simp only [List.map_nil, List.append_nil] at hF1 hF2
      have HF1 := hid hF1; have HF2 := hid hF2
      have D := dec_any (some ⟨b, off + 8, none⟩) 0 [] wr (row_zero wr _)
      rw [decV_T, decE_nil] at D
      unfold recVal recV at D
      clear HYL
      generalize decT [] = r at *
      obtain ⟨rc, ri, rt, ro, rs⟩ := r
      generalize decN [] = N at *
      have D := hid D
      clear hF1 hF2 hT hE hnil
      have O1 := hid o1; have O2 := hid o2; have HBEL := hid hbel
      clear o1 o2 hbel
      go_wp2_with (go_at_call 14; refine (D.out).mono ?_; rintro e w4 ⟨rfl, b4⟩; have R4 := hid b4; clear b4)
      try rw [Exit.noGoto_ret]
      have hFl : F.length = m := by have := congrArg List.length HF1.out; rw [List.length_map, HA1.out] at this; exact this.symm
      have K1 := (O1.out.mono R4.out).alloc (.cells #[.int .i64 rc, .int .i64 ri, .bool rt, .int .i64 ro, .string rs] 23)
      have K2 := (O2.out.mono R4.out).alloc (.cells #[.int .i64 rc, .int .i64 ri, .bool rt, .int .i64 ro, .string rs] 23)
      have K3 := (kept_trans HBEL.out R4.out).alloc (kept_trans HBEL.out R4.out).size (.cells #[.int .i64 rc, .int .i64 ri, .bool rt, .int .i64 ro, .string rs] 23)
      refine bodyPost_ret (results_tmp2 rfl _ _ _) rfl ?_
      refine ⟨a1, c1, a2, c2, by rw [hFl]; rfl, ?_, ?_, K3⟩
      · unfold RowR; rw [← HF1.out, HA1.out]; exact K1.row
      · unfold RowI; rw [← HF2.out, HZ1.out]; exact K2.row
    · have hzl : (ys.drop k).length = n - k := by rw [List.length_drop, HYL.out]
      have rz : RowB wr (some ⟨b, off + 8 + k, none⟩) (c - 8 - k) (ys.drop k) := by
        have := rowB_sub (HY.out.mono hbel) k (n - k) (by rw [HYL.out]; omega)
        rwa [List.take_of_length_le (by omega)] at this
      have D := dec_any _ _ _ wr rz
      rw [decV_T, hzl] at D
      unfold recVal recV at D
      by_cases hE : decE (ys.drop k) = 0
      · have hT := scanT_good (by rw [HYL.out]; exact hk) hE
        have hf := dec_ok_facts hE
        rw [hzl] at hf
        obtain ⟨hf1, hN1, hN2, hf4⟩ := hf
        clear hf1 hf4
        have hF1 := HF1.out; have hF2 := HF2.out
        rw [hT] at hF1 hF2
        rw [List.map_cons] at hF1 hF2
        rw [hE] at D
        clear hT hzl rz hE HF1 HF2
        have HF1 := hid hF1; have HF2 := hid hF2
        clear hF1 hF2
        generalize decT (ys.drop k) = r at *
        generalize decN (ys.drop k) = N at *
        have D := hid D
        have ek : IntKind.i64.wrap ((k : Int) + (N : Int)) = (k : Int) + N := IntWalk.i64_in _ (by omega)
        have kc1 : (k : Int) ≤ (n : Int) := by omega
        have t1 : True := trivial
        have t2 : True := trivial
        obtain ⟨rc, ri, rt, ro, rs⟩ := r
        have hBw := hbel.size
        have hm9 : m ≤ 1016 := by omega
        have O1 := hid o1; have O2 := hid o2; have HBEL := hid hbel
        clear o1 o2 hbel
        go_wp2_with (first
          | (go_at_call 14; refine (D.out).mono ?_; rintro e w4 ⟨rfl, b4⟩; have R4 := hid b4; clear b4)
          | (at_builtin; have _t := t1; obtain ⟨W2, hW2⟩ : ∃ W2, W2 = ((w4.alloc (.cells #[.int .i64 rc, .int .i64 ri, .bool rt, .int .i64 ro, .string rs] 23)).alloc (.cells #[.int .i64 rc, .int .i64 ri, .bool rt, .int .i64 ro, .string rs] 23)) := ⟨_, rfl⟩; have k2 : Blk W2 (w4.heap.size + 1) 23 (recCells ⟨rc, ri, rt, ro, rs⟩) := by rw [hW2]; exact blk2 w4 _ _
             have o1' : Own W2 w.heap.size 23 5 a1 m c1 (A.flatMap recCells) := by rw [hW2]; exact ((O1.out.mono R4.out).alloc _).alloc _
             have o2' : Own W2 w.heap.size 3 1 a2 m c2 (Z.map iV) := by rw [hW2]; exact ((O2.out.mono R4.out).alloc _).alloc _
             have B2 : Below w.heap.size w W2 := by rw [hW2]; exact ((kept_trans HBEL.out R4.out).alloc (kept_trans HBEL.out R4.out).size _).alloc (by have := (kept_trans HBEL.out R4.out).size; simp; omega) _
             rw [← hW2]
             clear hW2
             refine wpl_append rfl (.tmp 71) (.tmp 73) rfl ER w.heap.size rfl rfl o1' (row_blk k2 5 1 rfl (by unfold maxLen; omega)) (rec_oneCell _) (by omega) (by omega) B2.size ?_
             clear t1
             intro a5 c5 w5 o5 g5 b5
             have q2 := o2'.stays g5 (own_apart o2' o1' (by decide))
             have Q2 := hid q2; have Q5 := hid o5; have B5 := hid (below_trans B2 b5 (Nat.le_refl _))
             clear q2 o1' o2' o5 g5 B2 k2 b5)
          | (at_builtin; have _t := t2; obtain ⟨W3, hW3⟩ : ∃ W3, W3 = w5.alloc (.cells #[.int .i64 ((k : Int) + (N : Int))] 3) := ⟨_, rfl⟩; have k3 : Blk W3 w5.heap.size 3 [.int .i64 ((k : Int) + (N : Int))] := by rw [hW3]; exact heap_alloc_new w5 _
             have o2' : Own W3 w.heap.size 3 1 a2 m c2 (Z.map iV) := by rw [hW3]; exact Q2.out.alloc _
             have o1' : Own W3 w.heap.size 23 5 a5 (m + 1) c5 (A.flatMap recCells ++ recCells ⟨rc, ri, rt, ro, rs⟩) := by rw [hW3]; exact Q5.out.alloc _
             have B3 : Below w.heap.size w W3 := by rw [hW3]; exact B5.out.alloc B5.out.size _
             rw [← hW3]
             clear hW3
             refine wpl_append rfl (.tmp 75) (.tmp 77) rfl EI w.heap.size rfl rfl o2' (row_blk k3 1 1 rfl (by unfold maxLen; omega)) (by intro u hu; simp only [List.mem_cons, List.not_mem_nil, or_false] at hu; subst hu; rfl) (by omega) (by omega) B3.size ?_
             clear t2
             intro a6 c6 w6 o6 g6 b6
             have q5 := o1'.stays g6 (own_apart o1' o2' (by decide))
             have R5 := hid q5; have R6 := hid o6; have B6 := hid (below_trans B3 b6 (Nat.le_refl _))
             clear q5 o1' o2' o6 g6 B3 k3 b6))
        go_roundw
        case rel => exact ⟨k + N, a5, a6, c5, c6, m + 1, A ++ [⟨rc, ri, rt, ro, rs⟩], Z ++ [((k + N : Nat) : Int)], by omega, by go_num, rfl, rfl, by simp [HA1.out], by simp [HZ1.out], by omega, by rw [flat_snoc]; exact R5.out, by rw [List.map_append]; exact R6.out, B6.out, by rw [List.append_assoc]; exact HF1.out, by rw [List.append_assoc]; exact HF2.out⟩
        case measure => simp [intOf]; omega
      · have hT := scanT_bad hE
        have hF1 := HF1.out; have hF2 := HF2.out
        rw [hT] at hF1 hF2
        simp only [List.map_nil, List.append_nil] at hF1 hF2
        clear hT hzl rz HF1 HF2
        have HF1 := hid hF1; have HF2 := hid hF2
        clear hF1 hF2
        generalize decT (ys.drop k) = r at *
        generalize decN (ys.drop k) = N at *
        generalize decE (ys.drop k) = E at *
        have D := hid D
        have kc1 : (k : Int) ≤ (n : Int) := by omega
        have hE' : (E == 0) = false := by simpa using hE
        obtain ⟨rc, ri, rt, ro, rs⟩ := r
        have O1 := hid o1; have O2 := hid o2; have HBEL := hid hbel
        clear o1 o2 hbel
        go_wp2_with (go_at_call 14; refine (D.out).mono ?_; rintro e w4 ⟨rfl, b4⟩; have R4 := hid b4; clear b4)
        try rw [Exit.noGoto_ret]
        have hFl : F.length = m := by have := congrArg List.length HF1.out; rw [List.length_map, HA1.out] at this; exact this.symm
        have K1 := (O1.out.mono R4.out).alloc (.cells #[.int .i64 rc, .int .i64 ri, .bool rt, .int .i64 ro, .string rs] 23)
        have K2 := (O2.out.mono R4.out).alloc (.cells #[.int .i64 rc, .int .i64 ri, .bool rt, .int .i64 ro, .string rs] 23)
        have K3 := (kept_trans HBEL.out R4.out).alloc (kept_trans HBEL.out R4.out).size (.cells #[.int .i64 rc, .int .i64 ri, .bool rt, .int .i64 ro, .string rs] 23)
        refine bodyPost_ret (results_tmp2 rfl _ _ _) rfl ?_
        refine ⟨a1, c1, a2, c2, by rw [hFl]; rfl, ?_, ?_, K3⟩
        · unfold RowR; rw [← HF1.out, HA1.out]; exact K1.row
        · unfold RowI; rw [← HF2.out, HZ1.out]; exact K2.row

end Go.Proofs.Ytngfpndikjbioaa
