import Derived.Test.YtngfpndikjbioaaClogX
namespace Go.Proofs.Ytngfpndikjbioaa
open Go.RowKit Go.WideShapes
set_option linter.unusedSimpArgs false
set_option linter.unusedVariables false

theorem recL_len8 {c i o : Int} {t : Bool} {s : ByteArray} (hm : recMay c i t o s = true) : (recL c i t o s).length % 8 = 0 := by
  unfold recL; rw [if_pos hm]; unfold padTo8; simp; omega
theorem recL_len_le {c i o : Int} {t : Bool} {s : ByteArray} (hm : recMay c i t o s = true) : (recL c i t o s).length ≤ 300 := by
  have hz := (recMay_iff hm).2.2.2.2.2.2.1
  have lX : (recX c i t o s).length ≤ 200 := by
    have h1 := foldF_length_le [] (recF c i t o s.size)
    have h2 : s.data.toList.length = s.size := by simp
    simp only [recX, List.length_append, h2]
    simp [recF] at h1 ⊢; omega
  have lY : (recY c i t o s).length ≤ 208 := by have := putF_length_le (recX c i t o s) (crcF (recX c i t o s) : Nat) 4; unfold recY; omega
  unfold recL; rw [if_pos hm]; unfold padTo8; simp; omega

set_option maxHeartbeats 4000000 in
set_option maxRecDepth 100000 in
theorem ClogRound_walk (w : World) (c i : Int) (t : Bool) (o : Int) (s : ByteArray) (ra : Option Addr) (rc : Nat) (xs : List UInt8) (ha : RowB w ra rc xs) :
    Calls Try.prog 5 #[recV c i t o s, .slice ra xs.length rc] w fun e w' => e = .returned (.bool true) ∧ Below w.heap.size w w' := by
  have HC := hid (fun w1 => cut_any c i t o s w1)
  have HP := hid (fun s' w1 => enc_any c i t o s' w1)
  have hxl := rowB_len ha
  have hcap : xs.length ≤ rc := ha.2.1
  unfold recV at *
  go_enter Try.func5, Try.ntmps5
  go_wp2_with fail
  have K0 : Blk (w.alloc (.cells #[.int .i64 c, .int .i64 i, .bool t, .int .i64 o, .string s] 23)) w.heap.size 23 [.int .i64 c, .int .i64 i, .bool t, .int .i64 o, .string s] := heap_alloc_new w _
  refine (HC.out _).mono ?_
  rintro en w1 ⟨⟨s', rfl⟩, b1⟩
  have K1 := Blk.mono K0 b1
  have B1 := below_trans ((Below.refl _ w).alloc (Nat.le_refl _) _) b1 (by simp)
  have zk0 : w1.cell? ⟨w.heap.size, 0, none⟩ = some (.int .i64 c) := Blk.cell K1 (i := 0) (by simp)
  have zf0 : w1.frozen? ⟨w.heap.size, 0, none⟩ = false := Blk.frozen K1 0
  have zk1 : w1.cell? ⟨w.heap.size, 1, none⟩ = some (.int .i64 i) := Blk.cell K1 (i := 1) (by simp)
  have zf1 : w1.frozen? ⟨w.heap.size, 1, none⟩ = false := Blk.frozen K1 1
  have zk2 : w1.cell? ⟨w.heap.size, 2, none⟩ = some (.bool t) := Blk.cell K1 (i := 2) (by simp)
  have zf2 : w1.frozen? ⟨w.heap.size, 2, none⟩ = false := Blk.frozen K1 2
  have zk3 : w1.cell? ⟨w.heap.size, 3, none⟩ = some (.int .i64 o) := Blk.cell K1 (i := 3) (by simp)
  have zf3 : w1.frozen? ⟨w.heap.size, 3, none⟩ = false := Blk.frozen K1 3
  have zk4 : w1.cell? ⟨w.heap.size, 4, none⟩ = some (.string s) := Blk.cell K1 (i := 4) (by simp)
  have zf4 : w1.frozen? ⟨w.heap.size, 4, none⟩ = false := Blk.frozen K1 4
  have HK := hid (set5 K1 rfl (.int .i64 c) (.int .i64 i) (.bool t) (.int .i64 o) (.string s'))
  have HBB := hid (bel5 B1 (Nat.le_refl _) (.int .i64 c) (.int .i64 i) (.bool t) (.int .i64 o) (.string s'))
  have HPs := hid (HP.out s')
  clear K0 K1 B1 b1 HC HP
  go_wp2_with fail
  have K2 := HK.out
  have B2 := HBB.out
  clear HK HBB zk0 zf0 zk1 zf1 zk2 zf2 zk3 zf3 zk4 zf4
  generalize World.setCell _ _ _ = w2 at *
  refine (HPs.out w2).mono ?_
  rintro en w3 ⟨a3, c3, rfl, o3, b3⟩
  have K3 := Blk.mono K2 b3
  have B3 := below_trans B2 b3 B2.size
  have r3 := o3.row
  have hhl := rowB_len r3
  clear K2 B2 b3 o3 HPs
  by_cases hm : recMay c i t o s' = true
  · rw [if_pos hm]
    obtain ⟨q1, _, q3, _, q5, _, _⟩ := recMay_iff hm
    obtain ⟨C, rfl⟩ := Int.eq_ofNat_of_zero_le q1
    obtain ⟨I, rfl⟩ := Int.eq_ofNat_of_zero_le (by omega : 0 ≤ i)
    obtain ⟨O, rfl⟩ := Int.eq_ofNat_of_zero_le q5
    clear q1 q3 q5
    by_cases h40 : 40 < xs.length
    · have h40' : (40 : Int) < (xs.length : Int) := by omega
      have h40c : (40 : Nat) ≤ rc := by omega
      have h40d : ¬ ((rc : Int) < 40) := by omega
      obtain ⟨rb, roff, rfl, _⟩ := ha.bytes (by omega)
      obtain ⟨ys, hys⟩ : ∃ ys, ys = xs.take 40 := ⟨_, rfl⟩
      have lys : ys.length = 40 := by rw [hys]; simp; omega
      have ry : RowB w (some ⟨rb, roff, none⟩) rc ys := by rw [hys]; exact rowB_take ha 40
      have HD := fun (w1 : World) (a : Option Addr) (cc : Nat) (r1 : RowB w1 a cc (recL C I t O s' ++ ys)) => dec_ok a cc (recL C I t O s' ++ ys) ys C I O t s' w1 r1 hm rfl
      rw [List.length_append, lys] at HD
      have HD := hid HD
      have hL8 := recL_len8 hm
      have hLb := recL_len_le hm
      clear hys
      unfold recV at HD
      generalize recL C I t O s' = L at *
      have r3y := hid (ry.mono B3)
      have hrow3 := r3
      have etm : ((L.length : Nat) : Int).tmod 8 = ((L.length % 8 : Nat) : Int) := rfl
      rw [hL8] at etm
      have H8 := hid hL8
      have t1 : True := trivial
      have t2 : True := trivial
      have K3' := hid K3
      have B3' := hid B3
      have HR3 := hid r3
      clear hL8 K3 B3 r3 ry hrow3
      go_wp2_with (first
        | (at_builtin; have _t := t1; refine wpl_append rfl (.tmp 31) (.tmp 32) rfl E8 w3.heap.size rfl rfl (Own.nil _ _ _ _) HR3.out (byteV_one L) (by omega) (by omega) (Nat.le_refl _) ?_; clear t1; intro a5 c5 w5 o5 g5 b5; simp only [Nat.zero_add, List.nil_append] at o5)
        | (at_builtin; have _t := t2; refine wpl_append rfl (.tmp 34) (.tmp 35) rfl E8 w3.heap.size rfl rfl o5 (by have := r3y.out.mono b5; rw [lys] at this; exact this) (byteV_one ys) (by omega) (by omega) b5.size ?_; clear t2; intro a6 c6 w6 o6 g6 b6))
      have k6 : Blk w6 w.heap.size 23 _ := Blk.below (Blk.mono K3'.out b5) b6 K3'.out.lt
      have r6 : RowB w6 a6 c6 (L ++ ys) := by
        have := o6.row
        rw [← List.map_append] at this
        unfold RowB; rw [List.length_append, lys]; exact this
      have B6 := below_trans (kept_trans B3'.out b5) b6 (by have := B3'.out.size; omega)
      refine (HD.out w6 a6 c6 r6).mono ?_
      rintro en w7 ⟨rfl, b7⟩
      have K7 := Blk.mono k6 b7
      have B7 := kept_trans B6 b7
      have hlt7 : w.heap.size < w7.heap.size := K7.lt
      have KA : ∀ ob, Blk (w7.alloc ob) w.heap.size 23 _ := fun ob => Blk.mono K7 ((Below.refl w7.heap.size w7).alloc (Nat.le_refl _) ob)
      have q0 : ∀ ob, (w7.alloc ob).cell? ⟨w.heap.size, 0, none⟩ = some (.int .i64 (C : Nat)) := fun ob => Blk.cell (KA ob) (i := 0) (by simp)
      have q1 : ∀ ob, (w7.alloc ob).cell? ⟨w.heap.size, 1, none⟩ = some (.int .i64 (I : Nat)) := fun ob => Blk.cell (KA ob) (i := 1) (by simp)
      have q2 : ∀ ob, (w7.alloc ob).cell? ⟨w.heap.size, 2, none⟩ = some (.bool t) := fun ob => Blk.cell (KA ob) (i := 2) (by simp)
      have q3 : ∀ ob, (w7.alloc ob).cell? ⟨w.heap.size, 3, none⟩ = some (.int .i64 (O : Nat)) := fun ob => Blk.cell (KA ob) (i := 3) (by simp)
      have q4 : ∀ ob, (w7.alloc ob).cell? ⟨w.heap.size, 4, none⟩ = some (.string s') := fun ob => Blk.cell (KA ob) (i := 4) (by simp)
      clear KA K7 k6 r6 b7 B6 b6 b5 o5 o6 g5 g6 K3' B3' HR3 r3y
      go_wp2_with (go_at_call 13; refine (lives16_any _).mono ?_; rintro en w10 ⟨rfl, rfl⟩)
      go_ret
      exact ⟨rfl, B7.alloc (Nat.le_of_lt hlt7) _⟩
    · have h40' : ¬ ((40 : Int) < (xs.length : Int)) := by omega
      obtain ⟨ys, hys⟩ : ∃ ys, ys = xs := ⟨_, rfl⟩
      have lys : ys.length = xs.length := by rw [hys]
      have ry : RowB w ra rc ys := by rw [hys]; exact ha
      have HD := fun (w1 : World) (a : Option Addr) (cc : Nat) (r1 : RowB w1 a cc (recL C I t O s' ++ ys)) => dec_ok a cc (recL C I t O s' ++ ys) ys C I O t s' w1 r1 hm rfl
      rw [List.length_append, lys] at HD
      have HD := hid HD
      have hL8 := recL_len8 hm
      have hLb := recL_len_le hm
      clear hys
      unfold recV at HD
      generalize recL C I t O s' = L at *
      have r3y := hid (ry.mono B3)
      have hrow3 := r3
      have etm : ((L.length : Nat) : Int).tmod 8 = ((L.length % 8 : Nat) : Int) := rfl
      rw [hL8] at etm
      have H8 := hid hL8
      have t1 : True := trivial
      have t2 : True := trivial
      have K3' := hid K3
      have B3' := hid B3
      have HR3 := hid r3
      clear hL8 K3 B3 r3 ry hrow3
      go_wp2_with (first
        | (at_builtin; have _t := t1; refine wpl_append rfl (.tmp 31) (.tmp 32) rfl E8 w3.heap.size rfl rfl (Own.nil _ _ _ _) HR3.out (byteV_one L) (by omega) (by omega) (Nat.le_refl _) ?_; clear t1; intro a5 c5 w5 o5 g5 b5; simp only [Nat.zero_add, List.nil_append] at o5)
        | (at_builtin; have _t := t2; refine wpl_append rfl (.tmp 34) (.tmp 35) rfl E8 w3.heap.size rfl rfl o5 (by have := r3y.out.mono b5; rw [lys] at this; exact this) (byteV_one ys) (by omega) (by omega) b5.size ?_; clear t2; intro a6 c6 w6 o6 g6 b6))
      have k6 : Blk w6 w.heap.size 23 _ := Blk.below (Blk.mono K3'.out b5) b6 K3'.out.lt
      have r6 : RowB w6 a6 c6 (L ++ ys) := by
        have := o6.row
        rw [← List.map_append] at this
        unfold RowB; rw [List.length_append, lys]; exact this
      have B6 := below_trans (kept_trans B3'.out b5) b6 (by have := B3'.out.size; omega)
      refine (HD.out w6 a6 c6 r6).mono ?_
      rintro en w7 ⟨rfl, b7⟩
      have K7 := Blk.mono k6 b7
      have B7 := kept_trans B6 b7
      have hlt7 : w.heap.size < w7.heap.size := K7.lt
      have KA : ∀ ob, Blk (w7.alloc ob) w.heap.size 23 _ := fun ob => Blk.mono K7 ((Below.refl w7.heap.size w7).alloc (Nat.le_refl _) ob)
      have q0 : ∀ ob, (w7.alloc ob).cell? ⟨w.heap.size, 0, none⟩ = some (.int .i64 (C : Nat)) := fun ob => Blk.cell (KA ob) (i := 0) (by simp)
      have q1 : ∀ ob, (w7.alloc ob).cell? ⟨w.heap.size, 1, none⟩ = some (.int .i64 (I : Nat)) := fun ob => Blk.cell (KA ob) (i := 1) (by simp)
      have q2 : ∀ ob, (w7.alloc ob).cell? ⟨w.heap.size, 2, none⟩ = some (.bool t) := fun ob => Blk.cell (KA ob) (i := 2) (by simp)
      have q3 : ∀ ob, (w7.alloc ob).cell? ⟨w.heap.size, 3, none⟩ = some (.int .i64 (O : Nat)) := fun ob => Blk.cell (KA ob) (i := 3) (by simp)
      have q4 : ∀ ob, (w7.alloc ob).cell? ⟨w.heap.size, 4, none⟩ = some (.string s') := fun ob => Blk.cell (KA ob) (i := 4) (by simp)
      clear KA K7 k6 r6 b7 B6 b6 b5 o5 o6 g5 g6 K3' B3' HR3 r3y
      go_wp2_with (go_at_call 13; refine (lives16_any _).mono ?_; rintro en w10 ⟨rfl, rfl⟩)
      go_ret
      exact ⟨rfl, B7.alloc (Nat.le_of_lt hlt7) _⟩
  · have hL : recL c i t o s' = [] := by unfold recL; rw [if_neg hm]
    rw [if_neg hm, hL]
    have hm' : recMay c i t o s' = false := by simpa using hm
    clear hm K3 r3
    go_wp2_with (go_at_call 13; refine (lives16_any _).mono ?_; rintro en w10 ⟨rfl, rfl⟩)
    go_ret
    exact ⟨rfl, B3⟩

end Go.Proofs.Ytngfpndikjbioaa
