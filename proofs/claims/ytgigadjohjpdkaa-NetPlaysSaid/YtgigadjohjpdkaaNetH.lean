/- What is handed to a bag stays, and what it tells is new. -/
import Derived.Test.YtgigadjohjpdkaaNetG
namespace Go.Proofs.Ytgigadjohjpdkaa
open Go.RowKit
set_option linter.unusedSimpArgs false
set_option linter.unusedVariables false

theorem BagP.grownLow {w w' : World} {B g k n : Nat} {e : TypeId} {ra : Option Addr} {rc : Nat} {p : PkT} {cs : List Value} {a : Option Addr} {c : Nat} (h : BagP w B g ra rc [p]) {C : List Value} (hk : Blk w k e C) (G : w.grownBy w' (some k)) (h1 : e ≠ 46) (h2 : e ≠ 56) (h3 : k < p.b) : BagP w' B g ra rc [p] := by
  obtain ⟨hB, hb, ho, hd⟩ := h
  refine ⟨hB, hb.grownS G (fun q => ?_), Own.staysO ho G (.inr (own_ne_blk ho hk (fun q => h2 q.symm))), fun q hq => ?_⟩
  · subst q
    unfold Blk at hb hk
    rw [hb] at hk
    cases hk
    exact h1 rfl
  · rw [List.mem_singleton] at hq
    subst hq
    exact own_grownO (hd q (List.mem_singleton.2 rfl)) G h3
theorem own_setO {w : World} {B : Nat} {e : TypeId} {g n c j : Nat} {zs : List Value} (h : Own w B e 1 (some ⟨g, 0, none⟩) n c zs) (hj : j < n) (v : Value) :
    (∃ u, w.cell? ⟨g, j, none⟩ = some u) ∧ w.frozen? ⟨g, j, none⟩ = false ∧ B ≤ g ∧ (∃ C, Blk w g e C) ∧ ∃ zs', Own (w.setCell ⟨g, j, none⟩ v) B e 1 (some ⟨g, 0, none⟩) n c zs' := by
  obtain ⟨C, hb, hl, hB, ht, hnc, hc⟩ := Own.blk h
  refine ⟨hb.someCell (by omega), hb.frozen j, hB, ⟨C, hb⟩, _, Own.of_blk (hb.set j v) hB hnc hc (by rw [List.length_set, hl])⟩

set_option maxHeartbeats 4000000 in
theorem NetOwns_walk (w : World) (a : Option Addr) (c : Nat) (xs : List UInt8) (r : RowB w a c xs) :
    Calls Try.prog 5 #[.slice a xs.length c] w fun e w' => e = .returned (.bool true) ∧ Below w.heap.size w w' := by
  have t1 : True := trivial
  have hl := rowB_len r
  have hS : ∀ (B g : Nat) (w1 : World) (a2 : Option Addr) (c2 : Nat) (ys : List UInt8) (n : Nat), BagP w1 B g none 0 [] → B ≤ w1.heap.size → RowB w1 a2 c2 ys → n = ys.length → n ≤ 50 → Calls Try.prog 10 #[.pointer (some ⟨g, 0, none⟩), .int .i64 3, .slice a2 n c2] w1 fun e w' => ∃ ra rc a c, e = .returned (.bool true) ∧ BagP w' B g ra rc [⟨3, w1.heap.size, a, c, ys⟩] ∧ Below B w1 w' ∧ StayT 46 56 w1 w' := by
    intro B g w1 a2 c2 ys n h hB hr hn hn5
    subst hn
    exact send_yes B g none 0 [] 3 a2 c2 ys w1 h hB hr (by omega) (by decide)
  have hT : ∀ (B g b : Nat) (ra : Option Addr) (rc : Nat) (a : Option Addr) (c : Nat) (ys : List UInt8) (n : Nat) (w1 : World), BagP w1 B g ra rc [⟨3, b, a, c, ys⟩] → n = ys.length → n ≤ 50 → Calls Try.prog 13 #[.pointer (some ⟨g, 0, none⟩), .int .i64 0, .bool true] w1 fun e w' => ∃ a c, e = .returned (.tuple #[.int .i64 3, .slice a n c, .bool true]) ∧ OwnB w' w1.heap.size a c ys ∧ Below w1.heap.size w1 w' := by
    intro B g b ra rc a c ys n w1 h hn hn5
    subst hn
    exact take_stay B g ra rc [⟨3, b, a, c, ys⟩] 0 w1 h (by simp) (by simp; omega)
  have hO : ∀ (B g b : Nat) (ra : Option Addr) (rc : Nat) (a : Option Addr) (c : Nat) (ys : List UInt8) (n : Nat) (w1 : World), BagP w1 B g ra rc [⟨3, b, a, c, ys⟩] → n = ys.length → n ≤ 50 → B ≤ w1.heap.size → Calls Try.prog 13 #[.pointer (some ⟨g, 0, none⟩), .int .i64 0, .bool false] w1 fun e w' => ∃ a c, e = .returned (.tuple #[.int .i64 3, .slice a n c, .bool true]) ∧ OwnB w' w1.heap.size a c ys ∧ BagP w' B g ra rc [] ∧ Below B w1 w' := by
    intro B g b ra rc a c ys n w1 h hn hn5 hB
    subst hn
    refine (take_off B g ra rc [⟨3, b, a, c, ys⟩] 0 w1 h (by simp) (by simp; omega) (by simp) hB).mono ?_
    rintro e w' ⟨a, c, h1, h2, h3, h4, _⟩
    exact ⟨a, c, h1, h2, h3, h4⟩
  have HS := hid hS
  have HT := hid hT
  have HO := hid hO
  clear hS hT hO
  have HR := hid r
  by_cases h50 : 50 < xs.length
  · obtain ⟨ys, hys⟩ : ∃ ys, ys = xs.take 50 := ⟨_, rfl⟩
    have hyl : 50 = ys.length := by rw [hys, List.length_take]; omega
    have r0 : Row w 1 a 50 c (ys.map byteV) := by have := rowB_take r 50; rw [← hys] at this; unfold RowB at this; rw [← hyl] at this; exact this
    have hcap : xs.length ≤ c := r.2.1
    have d5 : decide ((50 : Int) < (xs.length : Int)) = true := decide_eq_true (by omega)
    have R0 := hid r0
    have HYL := hid hyl
    have HYS := hid hys
    have hn5 : 50 ≤ 50 := Nat.le_refl _
    clear r r0 hyl hys
    go_enter Try.func5, Try.ntmps5
    go_wp2_with fail
    refine (new_any w).mono ?_
    rintro e w1 ⟨rfl, p1, b1⟩
    have r1 := R0.out.mono b1
    have z1 := b1.size
    have B1 := hid b1
    go_wp2_with (at_builtin; have _t := t1; (refine wpl_append rfl (.tmp 22) (.tmp 23) rfl E8 w1.heap.size rfl rfl (Own.nil _ _ _ _) r1 (byteV_one ys) (by omega) (by omega) (Nat.le_refl _) ?_); clear t1; intro a2 c2 w2 o2 g2 b2; simp only [Nat.zero_add, List.nil_append] at o2; have O2 := hid o2; have B2 := hid b2; clear o2 g2 b2)
    have ob2 : OwnB w2 w1.heap.size a2 c2 ys := by unfold OwnB; rw [← HYL.out]; exact O2.out
    refine (HS.out _ _ w2 a2 c2 ys 50 (p1.mono B2.out) (Nat.le_trans z1 B2.out.size) ob2.row HYL.out hn5).mono ?_
    rintro e w3 ⟨ra, rc, pa, pc, rfl, p3, b3, st3⟩
    have o3 : Own w3 w1.heap.size 5 1 a2 50 c2 (ys.map byteV) := O2.out.stayT st3 (by decide) (by decide)
    have bb3 : Below w.heap.size w w3 := (B1.out.trans (B2.out.mono z1)).trans b3
    have O3 := hid o3
    have hgl : ∀ q, a2 = some ⟨q, 0, none⟩ → q < w2.heap.size := by
      intro q hq
      have o2 := O2.out
      subst hq
      obtain ⟨C, hC, _⟩ := Own.blk o2
      exact hC.lt
    clear o3 st3 b3 ob2 p1 r1
    go_wp2_with fail
    go_loopw [5] (fun i wr => ∃ j : Nat, j ≤ 50 ∧ i = .int .i64 j ∧ (∃ zs, Own wr w1.heap.size 5 1 a2 50 c2 zs) ∧ BagP wr w.heap.size w.heap.size ra rc [⟨3, w2.heap.size, pa, pc, ys⟩] ∧ Below w.heap.size w wr) (fun i _ => 50 - (intOf i).toNat)
    case atStart => exact ⟨0, Nat.zero_le _, rfl, ⟨_, O3.out⟩, p3, bb3⟩
    case round =>
      obtain ⟨j, hj, rfl, ⟨zs, hz⟩, hp, hbel⟩ := hrel
      by_cases hlt : j < 50
      · obtain ⟨q, hq⟩ := own_someO hz (by omega)
        subst hq
        obtain ⟨⟨old, hcell⟩, hfr, hBq, ⟨C, hC⟩, zs', hz'⟩ := own_setO hz hlt (.int .u8 77)
        have HP := hid (hp.grownLow (cs := []) (a := none) (c := 0) (n := 0) hC (sg_set (sg_refl wr (some q)) j (.int .u8 77)) (by decide) (by decide) (hgl q rfl))
        have HZ := hid hz'
        clear hC hz' hp hz
        go_wp2
        go_roundw
        case rel => exact ⟨j + 1, by omega, by go_num, ⟨_, HZ.out⟩, HP.out, hbel.setCell (by show w.heap.size ≤ q; omega) _⟩
        case measure => simp [intOf]; omega
      · obtain rfl : j = 50 := by omega
        have zr := hbel.size
        go_wp2_with fail
        refine (HT.out _ _ _ _ _ _ _ ys 50 wr hp HYL.out hn5).mono ?_
        rintro e w4 ⟨a4, c4, rfl, o4, b4⟩
        have e4 : (convert 30 9 (.slice a4 50 c4)).run Try.prog w4 = .ok (.string ⟨ys.toArray⟩) w4 := by have := run_str o4.row; rw [← HYL.out] at this; exact this
        have O4 : Own w4 wr.heap.size 5 1 a4 50 c4 (ys.map byteV) := by unfold OwnB at o4; rw [← HYL.out] at o4; exact o4
        have O4 := hid O4
        have B4 := hid b4
        clear o4 b4
        go_wp2_with fail
        clear e4
        go_loopw [10] (fun i wq => ∃ j : Nat, j ≤ 50 ∧ i = .int .i64 j ∧ (∃ zs, Own wq wr.heap.size 5 1 a4 50 c4 zs) ∧ Below wr.heap.size wr wq) (fun i _ => 50 - (intOf i).toNat)
        case atStart => exact ⟨0, Nat.zero_le _, rfl, ⟨_, O4.out⟩, B4.out⟩
        case round =>
          obtain ⟨j, hj, rfl, ⟨zs, hz⟩, hb4⟩ := hrel
          by_cases hlt : j < 50
          · obtain ⟨q, hq⟩ := own_someO hz (by omega)
            subst hq
            obtain ⟨⟨old, hcell⟩, hfr, hBq, ⟨C, hC⟩, zs', hz'⟩ := own_setO hz hlt (.int .u8 9)
            have HZ := hid hz'
            clear hC hz' hz
            go_wp2
            go_roundw
            case rel => exact ⟨j + 1, by omega, by go_num, ⟨_, HZ.out⟩, hb4.setCell hBq _⟩
            case measure => simp [intOf]; omega
          · obtain rfl : j = 50 := by omega
            have p5 := hp.mono hb4
            have zq := hb4.size
            go_wp2_with fail
            refine (HO.out _ _ _ _ _ _ _ ys 50 _ p5 HYL.out hn5 (Nat.le_trans zr zq)).mono ?_
            rintro e w6 ⟨a6, c6, rfl, o6, p6, b6⟩
            have bb6 : Below w.heap.size w w6 := (hbel.trans (hb4.mono zr)).trans b6
            have r6 : RowB w6 a c ys := by have := R0.out.mono bb6; unfold RowB; rw [← HYL.out]; exact this
            have e6 : (convert 30 9 (.slice a6 50 c6)).run Try.prog w6 = .ok (.string ⟨ys.toArray⟩) w6 := by have := run_str o6.row; rw [← HYL.out] at this; exact this
            have e7 : (convert 30 9 (.slice a 50 c)).run Try.prog w6 = .ok (.string ⟨ys.toArray⟩) w6 := by have := run_str r6; rw [← HYL.out] at this; exact this
            have K6 := hid p6.2.1
            have BB6 := hid bb6
            clear o6 p6 b6 bb6 r6 p5 hb4 hz hp hbel
            go_wp2_with fail
            refine (len_any _ _ _ _ w6 K6.out).mono ?_
            rintro e w' ⟨rfl, rfl⟩
            go_wp2_with fail
            refine (lives_any _).mono ?_
            rintro e w8 ⟨rfl, b8⟩
            have BB8 := hid (kept_trans BB6.out b8)
            clear b8
            go_wp2_with fail
            go_ret
            exact ⟨rfl, BB8.out⟩
  · obtain ⟨ys, hys⟩ : ∃ ys, ys = xs := ⟨_, rfl⟩
    have hyl : xs.length = ys.length := by rw [hys]
    have r0 : Row w 1 a xs.length c (ys.map byteV) := by rw [hys]; exact r
    have hcap : xs.length ≤ c := r.2.1
    have d5 : decide ((50 : Int) < (xs.length : Int)) = false := decide_eq_false (by omega)
    have R0 := hid r0
    have HYL := hid hyl
    have HYS := hid (show ys = xs.take 50 by rw [hys, List.take_of_length_le (by omega)])
    have hn5 : xs.length ≤ 50 := by omega
    clear r r0 hyl hys
    go_enter Try.func5, Try.ntmps5
    go_wp2_with fail
    refine (new_any w).mono ?_
    rintro e w1 ⟨rfl, p1, b1⟩
    have r1 := R0.out.mono b1
    have z1 := b1.size
    have B1 := hid b1
    go_wp2_with (at_builtin; have _t := t1; (refine wpl_append rfl (.tmp 22) (.tmp 23) rfl E8 w1.heap.size rfl rfl (Own.nil _ _ _ _) r1 (byteV_one ys) (by omega) (by omega) (Nat.le_refl _) ?_); clear t1; intro a2 c2 w2 o2 g2 b2; simp only [Nat.zero_add, List.nil_append] at o2; have O2 := hid o2; have B2 := hid b2; clear o2 g2 b2)
    have ob2 : OwnB w2 w1.heap.size a2 c2 ys := by unfold OwnB; rw [← HYL.out]; exact O2.out
    refine (HS.out _ _ w2 a2 c2 ys xs.length (p1.mono B2.out) (Nat.le_trans z1 B2.out.size) ob2.row HYL.out hn5).mono ?_
    rintro e w3 ⟨ra, rc, pa, pc, rfl, p3, b3, st3⟩
    have o3 : Own w3 w1.heap.size 5 1 a2 xs.length c2 (ys.map byteV) := O2.out.stayT st3 (by decide) (by decide)
    have bb3 : Below w.heap.size w w3 := (B1.out.trans (B2.out.mono z1)).trans b3
    have O3 := hid o3
    have hgl : ∀ q, a2 = some ⟨q, 0, none⟩ → q < w2.heap.size := by
      intro q hq
      have o2 := O2.out
      subst hq
      obtain ⟨C, hC, _⟩ := Own.blk o2
      exact hC.lt
    clear o3 st3 b3 ob2 p1 r1
    go_wp2_with fail
    go_loopw [5] (fun i wr => ∃ j : Nat, j ≤ xs.length ∧ i = .int .i64 j ∧ (∃ zs, Own wr w1.heap.size 5 1 a2 xs.length c2 zs) ∧ BagP wr w.heap.size w.heap.size ra rc [⟨3, w2.heap.size, pa, pc, ys⟩] ∧ Below w.heap.size w wr) (fun i _ => xs.length - (intOf i).toNat)
    case atStart => exact ⟨0, Nat.zero_le _, rfl, ⟨_, O3.out⟩, p3, bb3⟩
    case round =>
      obtain ⟨j, hj, rfl, ⟨zs, hz⟩, hp, hbel⟩ := hrel
      by_cases hlt : j < xs.length
      · obtain ⟨q, hq⟩ := own_someO hz (by omega)
        subst hq
        obtain ⟨⟨old, hcell⟩, hfr, hBq, ⟨C, hC⟩, zs', hz'⟩ := own_setO hz hlt (.int .u8 77)
        have HP := hid (hp.grownLow (cs := []) (a := none) (c := 0) (n := 0) hC (sg_set (sg_refl wr (some q)) j (.int .u8 77)) (by decide) (by decide) (hgl q rfl))
        have HZ := hid hz'
        clear hC hz' hp hz
        go_wp2
        go_roundw
        case rel => exact ⟨j + 1, by omega, by go_num, ⟨_, HZ.out⟩, HP.out, hbel.setCell (by show w.heap.size ≤ q; omega) _⟩
        case measure => simp [intOf]; omega
      · obtain rfl : j = xs.length := by omega
        have zr := hbel.size
        go_wp2_with fail
        refine (HT.out _ _ _ _ _ _ _ ys xs.length wr hp HYL.out hn5).mono ?_
        rintro e w4 ⟨a4, c4, rfl, o4, b4⟩
        have e4 : (convert 30 9 (.slice a4 xs.length c4)).run Try.prog w4 = .ok (.string ⟨ys.toArray⟩) w4 := by have := run_str o4.row; rw [← HYL.out] at this; exact this
        have O4 : Own w4 wr.heap.size 5 1 a4 xs.length c4 (ys.map byteV) := by unfold OwnB at o4; rw [← HYL.out] at o4; exact o4
        have O4 := hid O4
        have B4 := hid b4
        clear o4 b4
        go_wp2_with fail
        clear e4
        go_loopw [10] (fun i wq => ∃ j : Nat, j ≤ xs.length ∧ i = .int .i64 j ∧ (∃ zs, Own wq wr.heap.size 5 1 a4 xs.length c4 zs) ∧ Below wr.heap.size wr wq) (fun i _ => xs.length - (intOf i).toNat)
        case atStart => exact ⟨0, Nat.zero_le _, rfl, ⟨_, O4.out⟩, B4.out⟩
        case round =>
          obtain ⟨j, hj, rfl, ⟨zs, hz⟩, hb4⟩ := hrel
          by_cases hlt : j < xs.length
          · obtain ⟨q, hq⟩ := own_someO hz (by omega)
            subst hq
            obtain ⟨⟨old, hcell⟩, hfr, hBq, ⟨C, hC⟩, zs', hz'⟩ := own_setO hz hlt (.int .u8 9)
            have HZ := hid hz'
            clear hC hz' hz
            go_wp2
            go_roundw
            case rel => exact ⟨j + 1, by omega, by go_num, ⟨_, HZ.out⟩, hb4.setCell hBq _⟩
            case measure => simp [intOf]; omega
          · obtain rfl : j = xs.length := by omega
            have p5 := hp.mono hb4
            have zq := hb4.size
            go_wp2_with fail
            refine (HO.out _ _ _ _ _ _ _ ys xs.length _ p5 HYL.out hn5 (Nat.le_trans zr zq)).mono ?_
            rintro e w6 ⟨a6, c6, rfl, o6, p6, b6⟩
            have bb6 : Below w.heap.size w w6 := (hbel.trans (hb4.mono zr)).trans b6
            have r6 : RowB w6 a c ys := by have := R0.out.mono bb6; unfold RowB; rw [← HYL.out]; exact this
            have e6 : (convert 30 9 (.slice a6 xs.length c6)).run Try.prog w6 = .ok (.string ⟨ys.toArray⟩) w6 := by have := run_str o6.row; rw [← HYL.out] at this; exact this
            have e7 : (convert 30 9 (.slice a xs.length c)).run Try.prog w6 = .ok (.string ⟨ys.toArray⟩) w6 := by have := run_str r6; rw [← HYL.out] at this; exact this
            have K6 := hid p6.2.1
            have BB6 := hid bb6
            clear o6 p6 b6 bb6 r6 p5 hb4 hz hp hbel
            go_wp2_with fail
            refine (len_any _ _ _ _ w6 K6.out).mono ?_
            rintro e w' ⟨rfl, rfl⟩
            go_wp2_with fail
            refine (lives_any _).mono ?_
            rintro e w8 ⟨rfl, b8⟩
            have BB8 := hid (kept_trans BB6.out b8)
            clear b8
            go_wp2_with fail
            go_ret
            exact ⟨rfl, BB8.out⟩
end Go.Proofs.Ytgigadjohjpdkaa
