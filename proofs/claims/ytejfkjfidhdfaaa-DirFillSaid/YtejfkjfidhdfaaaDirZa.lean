/- The statements of stage 12: DirNames. -/
import Derived.Test.YtejfkjfidhdfaaaDirZ
namespace Go.Proofs.Ytejfkjfidhdfaaa
open Go.RowKit Go.Shelf
set_option linter.unusedSimpArgs false
set_option linter.unusedVariables false

theorem usedT_in (t : List EntT) (q : Nat) (hq : q < 4) : usedT t (q : Int) = ((t.drop (4 * q)).take 4).any nzE := by
  unfold usedT
  rw [decide_eq_true (by omega)]; rfl

set_option maxHeartbeats 1000000 in
theorem DirNames_walk (w : World) (a : Option Addr) (c : Nat) (L : List EntT) (r : RowE w a c L) (k : Int) (wk : (Lit.int .i64 k).wf = true) :
    Calls Try.prog 5 #[.slice a L.length c, .int .i64 k] w fun e w' => e = .returned (.bool true) ∧ Below w.heap.size w w' := by
  obtain ⟨z, hz⟩ : ∃ z, z = zeroT := ⟨_, rfl⟩
  have HZE := hid hz
  have HZ := hid (show z.length = 16 by rw [hz]; exact zero_len)
  have HL := hid (tab_len HZ.out)
  have HT := hid (tabE_len L)
  have HTab := hid (table_any a c L w r)
  clear hz r wk
  generalize tabE L = t at *
  have HN1 := fun w1 => tnames_any t HT.out w1
  have HN2 := fun g c w1 h => refNames_any t g 0 c HT.out w1 h
  rw [isort_eq] at HN2
  have hU := fun w1 => tused_any t HT.out k w1
  generalize sortS (nmT t) = S at *
  have HSm := fun a b c d w1 h1 h2 => sameS12_any S a b c d w1 h1 h2
  have HN1 := hid HN1; have HN2 := hid HN2; have HSm := hid HSm
  obtain ⟨u, hu⟩ : ∃ u, u = usedT t k := ⟨_, rfl⟩
  rw [← hu] at hU
  have HU := hid hU
  have HUE := hid hu
  clear hu hU
  go_enter Try.func5, Try.ntmps5
  go_wp2_with (go_at_call 10; fail)
  refine (HTab.out).mono ?_
  rintro e w1 ⟨g, c1, rfl, o1, b1⟩
  have hE1 := own_entAt HT.out o1
  have HE1 := hid hE1; have B1 := hid b1
  clear o1 b1 hE1
  go_wp2_with (first
    | ((with_reducible refine wpl_allocT (z := z) HZE.out rfl rfl ?_); intro w2 k2 b2 s2; have K2 := hid k2; have B2 := hid (kept_trans B1.out b2); have E2 := hid (HE1.out.mono b2); clear k2 b2 s2)
    | ((with_reducible refine wpl_storeT rfl _ _ rfl w1.heap.size rfl t HT.out rfl K2.out HL.out ?_); intro w3 k3 g3; have K3 := hid k3; have B3 := hid (below_grownS B2.out g3 B1.out.size B2.out.size); have G3 := hid g3; clear k3 g3)
    | (with_reducible refine wpl_loadT rfl _ rfl w1.heap.size rfl t HT.out K3.out ?_)
    | (go_at_call 23; fail))
  have E3 := hid (E2.out.grown G3.out (by have := HE1.out.1; omega))
  refine (HN1.out w3).mono ?_
  rintro e w4 ⟨a4, c4, rfl, r4, b4⟩
  have K4 := hid (K3.out.mono b4); have E4 := hid (E3.out.mono b4); have B4 := hid (kept_trans B3.out b4); have R4 := hid r4
  clear b4 r4
  go_wp2_with (go_at_call 24; fail)
  refine (HN2.out g c1 w4 E4.out).mono ?_
  rintro e w5 ⟨a5, c5, rfl, r5, b5⟩
  have K5 := hid (K4.out.mono b5); have E5 := hid (E4.out.mono b5); have B5 := hid (kept_trans B4.out b5); have R5 := hid r5; have R4' := hid (R4.out.mono b5)
  clear b5 r5
  go_wp2_with (go_at_call 22; fail)
  refine (HSm.out _ _ _ _ w5 R4'.out R5.out).mono ?_
  rintro e w6 ⟨rfl, b6⟩
  have K6 := hid (K5.out.mono b6); have E6 := hid (E5.out.mono b6); have B6 := hid (kept_trans B5.out b6)
  clear b6
  by_cases hk : 0 ≤ k ∧ k < 4
  · obtain ⟨q, rfl⟩ : ∃ q : Nat, k = q := ⟨k.toNat, by omega⟩
    have hq : q < 4 := by omega
    have q4 : (q : Int) < 4 := by omega
    have q0 : (0 : Int) ≤ q := by omega
    have d0 : decide ((0 : Int) ≤ q) = true := decide_eq_true q0
    have d4 : decide ((q : Int) < 4) = true := decide_eq_true q4
    have HUQ := hid (HUE.out.trans (usedT_in t q hq))
    clear hk
    go_wp2_with fail
    go_loopw [8, 9] (fun ub i wr => ∃ (x : Nat) (p : Bool), 4 * q ≤ x ∧ x ≤ 4 * q + 4 ∧ i = .int .i64 x ∧ ub = .bool p ∧ p = ((t.drop (4 * q)).take (x - 4 * q)).any nzE ∧ wr = w6) (fun _ i _ => 4 * q + 4 - (intOf i).toNat)
    case atStart => exact ⟨4 * q, false, by omega, by omega, by go_num, rfl, by rw [Nat.sub_self]; rfl, rfl⟩
    case round =>
      obtain ⟨x, p, hx1, hx2, rfl, rfl, hp, rfl⟩ := hrel
      have HP := hid hp
      clear hp
      by_cases hx4 : x < 4 * q + 4
      · have ix : (x : Int) < 4 * (q : Int) + 4 := by omega
        have dx : decide ((x : Int) < 4 * (q : Int) + 4) = true := decide_eq_true ix
        have ix16 : (x : Int) < 16 := by omega
        have hxt : x < t.length := by rw [HT.out]; omega
        have hje : x - 4 * q < (t.drop (4 * q)).length := by rw [List.length_drop]; omega
        have hsn := any_snocE hje
        rw [← HP.out, List.getElem_drop, show x - 4 * q + 1 = x + 1 - 4 * q by omega] at hsn
        have hidx : t[4 * q + (x - 4 * q)]'(by omega) = t[x] := by congr 1; omega
        rw [hidx] at hsn
        obtain ⟨c0, c1'⟩ := E6.out.2 x hxt
        rw [Nat.zero_add] at c0 c1'
        have hgb := E6.out.1
        have E := eqEntD t[x].nm ⟨#[]⟩ t[x].ino 0
        have hnz : nzE t[x] = !decide (t[x].nm = ⟨#[]⟩ ∧ t[x].ino = 0) := rfl
        rw [hnz] at hsn
        have HSN := hid hsn
        clear hsn hidx hje hnz
        generalize t[x].nm = nm at *
        generalize t[x].ino = ino at *
        cases p with
        | true =>
          rw [Bool.true_or] at HSN
          go_wp2_with fail
          go_roundw
          case rel => exact ⟨x + 1, true, by omega, by omega, by go_num, rfl, HSN.out.symm, by trivial⟩
          case measure => simp [intOf]; omega
        | false =>
          rw [Bool.false_or] at HSN
          by_cases hz : nm = ⟨#[]⟩ ∧ ino = 0
          · rw [decide_eq_true hz] at E HSN
            clear hz
            go_wp2_with fail
            go_roundw
            case rel => exact ⟨x + 1, false, by omega, by omega, by go_num, rfl, HSN.out.symm, by trivial⟩
            case measure => simp [intOf]; omega
          · rw [decide_eq_false hz] at E HSN
            clear hz
            go_wp2_with fail
            go_roundw
            case rel => exact ⟨x + 1, true, by omega, by omega, by go_num, rfl, HSN.out.symm, by trivial⟩
            case measure => simp [intOf]; omega
      · obtain rfl : x = 4 * q + 4 := by omega
        have dx : decide ((4 : Int) * (q : Int) + 4 < 4 * (q : Int) + 4) = false := decide_eq_false (by omega)
        have hpu : p = u := by rw [HP.out, HUQ.out, show 4 * q + 4 - 4 * q = 4 by omega]
        clear HP HUQ HUE
        subst hpu
        go_wp2_with (first
          | (with_reducible refine wpl_loadGT (by kernel_rfl) _ rfl w1.heap.size rfl t HT.out K6.out ?_)
          | (go_at_call 25; refine (HU.out _).mono ?_; rintro e w7 ⟨rfl, b7⟩; have B7 := hid (kept_trans B6.out b7); clear b7)
          | (go_at_call 16; refine (lives12_any _).mono ?_; rintro e w8 ⟨rfl, b8⟩; have B8 := hid (kept_trans B7.out b8); clear b8))
        go_ret
        exact ⟨rfl, B8.out⟩
  · have hu : u = false := by rw [HUE.out]; unfold usedT; rw [decide_eq_false hk]; rfl
    subst hu
    by_cases h0 : 0 ≤ k
    · have d0 : decide (0 ≤ k) = true := decide_eq_true h0
      have d4 : decide (k < 4) = false := decide_eq_false (fun h => hk ⟨h0, h⟩)
      clear hk HUE
      go_wp2_with (first
        | (with_reducible refine wpl_loadGT (by kernel_rfl) _ rfl w1.heap.size rfl t HT.out K6.out ?_)
        | (go_at_call 25; refine (HU.out _).mono ?_; rintro e w7 ⟨rfl, b7⟩; have B7 := hid (kept_trans B6.out b7); clear b7)
        | (go_at_call 16; refine (lives12_any _).mono ?_; rintro e w8 ⟨rfl, b8⟩; have B8 := hid (kept_trans B7.out b8); clear b8))
      go_ret
      exact ⟨rfl, B8.out⟩
    · have d0 : decide (0 ≤ k) = false := decide_eq_false h0
      clear hk HUE h0
      go_wp2_with (first
        | (with_reducible refine wpl_loadGT (by kernel_rfl) _ rfl w1.heap.size rfl t HT.out K6.out ?_)
        | (go_at_call 25; refine (HU.out _).mono ?_; rintro e w7 ⟨rfl, b7⟩; have B7 := hid (kept_trans B6.out b7); clear b7)
        | (go_at_call 16; refine (lives12_any _).mono ?_; rintro e w8 ⟨rfl, b8⟩; have B8 := hid (kept_trans B7.out b8); clear b8))
      go_ret
      exact ⟨rfl, B8.out⟩
end Go.Proofs.Ytejfkjfidhdfaaa
