/- The statements of stage 12: DirReads. -/
import Derived.Test.YtejfkjfidhdfaaaDirU
import Derived.Test.YtejfkjfidhdfaaaDirL
namespace Go.Proofs.Ytejfkjfidhdfaaa
open Go.RowKit Go.Shelf
set_option linter.unusedSimpArgs false
set_option linter.unusedVariables false

theorem rd_cases (t : List EntT) (k : Int) (bs : List UInt8) : (¬ (0 ≤ k ∧ k < 4) ∧ readT t k bs = (t, 1)) ∨ (∃ q : Nat, k = q ∧ q < 4 ∧
    ((∃ er : Int, er ≠ 0 ∧ 0 ≤ er ∧ er ≤ 3 ∧ readT t k bs = (t, er) ∧ readL bs = ([], er)) ∨ (∃ l : List EntT, l.length = 4 ∧ readT t k bs = (setN t q l, 0) ∧ readL bs = (l, 0)))) := by
  by_cases hk : 0 ≤ k ∧ k < 4
  · refine .inr ⟨k.toNat, by omega, by omega, ?_⟩
    by_cases hl : bs.length < 64
    · exact .inl ⟨3, by omega, by omega, by omega, by unfold readT; rw [if_pos hk, if_pos hl], readL_short hl⟩
    · cases hr : rdF bs 4 with
      | none => exact .inl ⟨2, by omega, by omega, by omega, by unfold readT; rw [if_pos hk, if_neg hl, hr]; rfl, readL_none hl hr⟩
      | some l => exact .inr ⟨l, rdF_len 4 l hr, by unfold readT; rw [if_pos hk, if_neg hl, hr]; rfl, readL_some hl hr⟩
  · exact .inl ⟨hk, if_neg hk⟩

set_option maxHeartbeats 4000000 in
set_option maxRecDepth 100000 in
theorem DirReads_walk (w : World) (a : Option Addr) (c : Nat) (L : List EntT) (r : RowE w a c L) (k : Int) (wk : (Lit.int .i64 k).wf = true) (a0 : Option Addr) (c0 : Nat) (bs0 : List UInt8) (r0 : RowB w a0 c0 bs0) :
    Calls Try.prog 7 #[.slice a L.length c, .int .i64 k, .slice a0 bs0.length c0] w fun e w' => e = .returned (.bool true) ∧ Below w.heap.size w w' := by
  obtain ⟨z, hz⟩ : ∃ z, z = zeroT := ⟨_, rfl⟩
  have HZE := hid hz
  have HZ := hid (show z.length = 16 by rw [hz]; exact zero_len)
  have HL := hid (tab_len HZ.out)
  have HT := hid (tabE_len L)
  have HTab := hid (table_any a c L w r)
  have hb9 := rowB_len r0
  have hbc : bs0.length ≤ c0 := r0.2.1
  clear hz r wk
  generalize tabE L = t at *
  have E := fun w1 => run_eqTab t w1 HT.out
  have HE := hid E
  clear E
  obtain ⟨bs, m, hml, hrb, hcase⟩ : ∃ (bs : List UInt8) (m : Nat), bs.length = m ∧ RowB w a0 c0 bs ∧ ((m = bs0.length ∧ m ≤ 100) ∨ (m = 100 ∧ 100 < bs0.length)) := by
    by_cases h : bs0.length ≤ 100
    · exact ⟨bs0, bs0.length, rfl, r0, .inl ⟨rfl, h⟩⟩
    · exact ⟨bs0.take 100, 100, by simp; omega, rowB_take r0 100, .inr ⟨rfl, by omega⟩⟩
  have HR0 := hid hrb; have HM := hid hml
  clear hrb hml r0
  have HRDT := fun w1 (h : RowB w1 a0 c0 bs) => tread_any t HT.out k a0 c0 bs w1 h
  have HRL := fun w1 (h : RowB w1 a0 c0 bs) => rread_any a0 c0 bs w1 h
  unfold ReadP at HRDT
  unfold RetL at HRL
  rw [HM.out] at HRDT HRL
  rcases rd_cases t k bs with ⟨hk, h1⟩ | ⟨q, rfl, hq, ⟨er, he0, he1, he2, h1, h2⟩ | ⟨l, hll, h1, h2⟩⟩
  · rw [h1] at HRDT
    have HRDT := hid HRDT
    clear h1 HRL
    have hg : (decide (k < 0) = true) ∨ (decide (k < 0) = false ∧ decide (3 < k) = true) := by
      by_cases h : k < 0
      · exact .inl (decide_eq_true h)
      · exact .inr ⟨decide_eq_false h, decide_eq_true (by omega)⟩
    clear hk
    rcases hcase with ⟨hm1, hm2⟩ | ⟨rfl, hm2⟩
    · have d1 : decide (100 < (bs0.length : Int)) = false := decide_eq_false (by omega)
      rw [hm1] at HRDT HM
      clear hm1
      rcases hg with g1 | ⟨g1, g2⟩
      all_goals
        have E := HE.out
        go_enter Try.func7, Try.ntmps7
        go_wp2_with (go_at_call 10; fail)
        refine (HTab.out).mono ?_
        rintro e w1 ⟨g, c1, rfl, o1, b1⟩
        have O1 := hid o1; have B1 := hid b1
        have hgl : g < w1.heap.size := (own_entAt HT.out o1).1
        have hgb : w.heap.size ≤ g := by obtain ⟨_, _, _, h, _⟩ := own_splice o1; exact h
        clear o1 b1
        go_wp2_with (first
          | (have _t := K5; (with_reducible refine wpl_allocT (z := z) HZE.out rfl rfl ?_); intro w6 k6 b6 s6; have K6 := hid k6; have B6 := hid (kept_trans B5.out b6); have T6 := hid (K5.out.mono b6); have O6 := hid (O5.out.mono b6); clear k6 b6 s6)
          | ((with_reducible refine wpl_allocT (z := z) HZE.out rfl rfl ?_); intro w2 k2 b2 s2; have K2 := hid k2; have B2 := hid (kept_trans B1.out b2); have O2 := hid (O1.out.mono b2); clear k2 b2 s2)
          | ((with_reducible refine wpl_storeT rfl _ _ rfl w1.heap.size rfl t HT.out rfl K2.out HL.out ?_); intro w3 k3 g3; have K3 := hid k3; have B3 := hid (below_grownS B2.out g3 B1.out.size B2.out.size); have O3 := hid (O2.out.staysO g3 (.inr (by simp [Value.ownBlock]; omega))); have hs3 := Nat.lt_of_lt_of_le K2.out.lt g3.size; clear K2 k3 g3)
          | (with_reducible refine wpl_loadT rfl _ rfl w1.heap.size rfl t HT.out K3.out ?_)
          | (go_at_call 29; refine (HRDT.out _ (HR0.out.mono B3.out)).mono ?_; rintro e w5 ⟨rfl, b5⟩; have K5 := hid (K3.out.mono b5); have B5 := hid (kept_trans B3.out b5); have O5 := hid (O3.out.mono b5); have hs5 : w1.heap.size < w5.heap.size := Nat.lt_of_lt_of_le hs3 b5.size; clear K3 b5)
          | (have _t := K6; (with_reducible refine wpl_storeT rfl _ _ rfl w5.heap.size rfl t HT.out rfl K6.out HL.out ?_); intro w7 k7 g7; have K7 := hid k7; have B7 := hid (below_grownS B6.out g7 B5.out.size B6.out.size); have T7 := hid (T6.out.grownS g7 (by omega)); have O7 := hid (O6.out.staysO g7 (.inr (by simp [Value.ownBlock]; omega))); clear k7 g7)
          | (with_reducible refine wpl_loadGT (by kernel_rfl) _ rfl w5.heap.size rfl t HT.out K7.out ?_)
          | (with_reducible refine wpl_loadGT (by kernel_rfl) _ rfl w1.heap.size rfl t HT.out T7.out ?_)
          | (go_at_call 16; refine (lives12_any _).mono ?_; rintro e w8 ⟨rfl, b8⟩; have B8 := hid (kept_trans B7.out b8); clear b8))
        go_ret
        exact ⟨rfl, B8.out⟩
    · have d1 : decide (100 < (bs0.length : Int)) = true := decide_eq_true (by omega)
      have d2 : (100 : Int) ≤ c0 := by omega
      rcases hg with g1 | ⟨g1, g2⟩
      all_goals
        have E := HE.out
        go_enter Try.func7, Try.ntmps7
        go_wp2_with (go_at_call 10; fail)
        refine (HTab.out).mono ?_
        rintro e w1 ⟨g, c1, rfl, o1, b1⟩
        have O1 := hid o1; have B1 := hid b1
        have hgl : g < w1.heap.size := (own_entAt HT.out o1).1
        have hgb : w.heap.size ≤ g := by obtain ⟨_, _, _, h, _⟩ := own_splice o1; exact h
        clear o1 b1
        go_wp2_with (first
          | (have _t := K5; (with_reducible refine wpl_allocT (z := z) HZE.out rfl rfl ?_); intro w6 k6 b6 s6; have K6 := hid k6; have B6 := hid (kept_trans B5.out b6); have T6 := hid (K5.out.mono b6); have O6 := hid (O5.out.mono b6); clear k6 b6 s6)
          | ((with_reducible refine wpl_allocT (z := z) HZE.out rfl rfl ?_); intro w2 k2 b2 s2; have K2 := hid k2; have B2 := hid (kept_trans B1.out b2); have O2 := hid (O1.out.mono b2); clear k2 b2 s2)
          | ((with_reducible refine wpl_storeT rfl _ _ rfl w1.heap.size rfl t HT.out rfl K2.out HL.out ?_); intro w3 k3 g3; have K3 := hid k3; have B3 := hid (below_grownS B2.out g3 B1.out.size B2.out.size); have O3 := hid (O2.out.staysO g3 (.inr (by simp [Value.ownBlock]; omega))); have hs3 := Nat.lt_of_lt_of_le K2.out.lt g3.size; clear K2 k3 g3)
          | (with_reducible refine wpl_loadT rfl _ rfl w1.heap.size rfl t HT.out K3.out ?_)
          | (go_at_call 29; refine (HRDT.out _ (HR0.out.mono B3.out)).mono ?_; rintro e w5 ⟨rfl, b5⟩; have K5 := hid (K3.out.mono b5); have B5 := hid (kept_trans B3.out b5); have O5 := hid (O3.out.mono b5); have hs5 : w1.heap.size < w5.heap.size := Nat.lt_of_lt_of_le hs3 b5.size; clear K3 b5)
          | (have _t := K6; (with_reducible refine wpl_storeT rfl _ _ rfl w5.heap.size rfl t HT.out rfl K6.out HL.out ?_); intro w7 k7 g7; have K7 := hid k7; have B7 := hid (below_grownS B6.out g7 B5.out.size B6.out.size); have T7 := hid (T6.out.grownS g7 (by omega)); have O7 := hid (O6.out.staysO g7 (.inr (by simp [Value.ownBlock]; omega))); clear k7 g7)
          | (with_reducible refine wpl_loadGT (by kernel_rfl) _ rfl w5.heap.size rfl t HT.out K7.out ?_)
          | (with_reducible refine wpl_loadGT (by kernel_rfl) _ rfl w1.heap.size rfl t HT.out T7.out ?_)
          | (go_at_call 16; refine (lives12_any _).mono ?_; rintro e w8 ⟨rfl, b8⟩; have B8 := hid (kept_trans B7.out b8); clear b8))
        go_ret
        exact ⟨rfl, B8.out⟩
  · rw [h1] at HRDT
    rw [h2] at HRL
    have HRDT := hid HRDT; have HRL := hid HRL
    clear h1 h2
    have g1 : decide ((q : Int) < 0) = false := decide_eq_false (by omega)
    have g2 : decide (3 < (q : Int)) = false := decide_eq_false (by omega)
    have ge : (er == 0) = false := by simpa using he0
    have gd : decide (er = 0) = false := decide_eq_false he0
    rcases hcase with ⟨hm1, hm2⟩ | ⟨rfl, hm2⟩
    · have d1 : decide (100 < (bs0.length : Int)) = false := decide_eq_false (by omega)
      rw [hm1] at HRDT HRL HM
      clear hm1
      have E := HE.out
      go_enter Try.func7, Try.ntmps7
      go_wp2_with (go_at_call 10; fail)
      refine (HTab.out).mono ?_
      rintro e w1 ⟨g, c1, rfl, o1, b1⟩
      have O1 := hid o1; have B1 := hid b1
      have hgl : g < w1.heap.size := (own_entAt HT.out o1).1
      have hgb : w.heap.size ≤ g := by obtain ⟨_, _, _, h, _⟩ := own_splice o1; exact h
      clear o1 b1
      go_wp2_with (first
        | (have _t := K5; (with_reducible refine wpl_allocT (z := z) HZE.out rfl rfl ?_); intro w6 k6 b6 s6; have K6 := hid k6; have B6 := hid (kept_trans B5.out b6); have T6 := hid (K5.out.mono b6); have O6 := hid (O5.out.mono b6); clear k6 b6 s6)
        | ((with_reducible refine wpl_allocT (z := z) HZE.out rfl rfl ?_); intro w2 k2 b2 s2; have K2 := hid k2; have B2 := hid (kept_trans B1.out b2); have O2 := hid (O1.out.mono b2); clear k2 b2 s2)
        | ((with_reducible refine wpl_storeT rfl _ _ rfl w1.heap.size rfl t HT.out rfl K2.out HL.out ?_); intro w3 k3 g3; have K3 := hid k3; have B3 := hid (below_grownS B2.out g3 B1.out.size B2.out.size); have O3 := hid (O2.out.staysO g3 (.inr (by simp [Value.ownBlock]; omega))); have hs3 := Nat.lt_of_lt_of_le K2.out.lt g3.size; clear K2 k3 g3)
        | (with_reducible refine wpl_loadT rfl _ rfl w1.heap.size rfl t HT.out K3.out ?_)
        | (go_at_call 29; refine (HRDT.out _ (HR0.out.mono B3.out)).mono ?_; rintro e w5 ⟨rfl, b5⟩; have K5 := hid (K3.out.mono b5); have B5 := hid (kept_trans B3.out b5); have O5 := hid (O3.out.mono b5); have hs5 : w1.heap.size < w5.heap.size := Nat.lt_of_lt_of_le hs3 b5.size; clear K3 b5)
        | (have _t := K6; (with_reducible refine wpl_storeT rfl _ _ rfl w5.heap.size rfl t HT.out rfl K6.out HL.out ?_); intro w7 k7 g7; have K7 := hid k7; have B7 := hid (below_grownS B6.out g7 B5.out.size B6.out.size); have T7 := hid (T6.out.grownS g7 (by omega)); have O7 := hid (O6.out.staysO g7 (.inr (by simp [Value.ownBlock]; omega))); clear k7 g7)
        | (go_at_call 30; refine (HRL.out _ (HR0.out.mono B7.out)).mono ?_; rintro e w8 ⟨a8, c8, rfl, o8, b8⟩; have K8 := hid (K7.out.mono b8); have T8 := hid (T7.out.mono b8); have B8 := hid (kept_trans B7.out b8); clear b8 o8)
        | (with_reducible refine wpl_loadGT (by kernel_rfl) _ rfl w5.heap.size rfl t HT.out K8.out ?_)
        | (with_reducible refine wpl_loadGT (by kernel_rfl) _ rfl w1.heap.size rfl t HT.out T8.out ?_)
        | (go_at_call 16; refine (lives12_any _).mono ?_; rintro e w9 ⟨rfl, b9⟩; have B9 := hid (kept_trans B8.out b9); clear b9))
      go_ret
      exact ⟨rfl, B9.out⟩
    · have d1 : decide (100 < (bs0.length : Int)) = true := decide_eq_true (by omega)
      have d2 : (100 : Int) ≤ c0 := by omega
      have E := HE.out
      go_enter Try.func7, Try.ntmps7
      go_wp2_with (go_at_call 10; fail)
      refine (HTab.out).mono ?_
      rintro e w1 ⟨g, c1, rfl, o1, b1⟩
      have O1 := hid o1; have B1 := hid b1
      have hgl : g < w1.heap.size := (own_entAt HT.out o1).1
      have hgb : w.heap.size ≤ g := by obtain ⟨_, _, _, h, _⟩ := own_splice o1; exact h
      clear o1 b1
      go_wp2_with (first
        | (have _t := K5; (with_reducible refine wpl_allocT (z := z) HZE.out rfl rfl ?_); intro w6 k6 b6 s6; have K6 := hid k6; have B6 := hid (kept_trans B5.out b6); have T6 := hid (K5.out.mono b6); have O6 := hid (O5.out.mono b6); clear k6 b6 s6)
        | ((with_reducible refine wpl_allocT (z := z) HZE.out rfl rfl ?_); intro w2 k2 b2 s2; have K2 := hid k2; have B2 := hid (kept_trans B1.out b2); have O2 := hid (O1.out.mono b2); clear k2 b2 s2)
        | ((with_reducible refine wpl_storeT rfl _ _ rfl w1.heap.size rfl t HT.out rfl K2.out HL.out ?_); intro w3 k3 g3; have K3 := hid k3; have B3 := hid (below_grownS B2.out g3 B1.out.size B2.out.size); have O3 := hid (O2.out.staysO g3 (.inr (by simp [Value.ownBlock]; omega))); have hs3 := Nat.lt_of_lt_of_le K2.out.lt g3.size; clear K2 k3 g3)
        | (with_reducible refine wpl_loadT rfl _ rfl w1.heap.size rfl t HT.out K3.out ?_)
        | (go_at_call 29; refine (HRDT.out _ (HR0.out.mono B3.out)).mono ?_; rintro e w5 ⟨rfl, b5⟩; have K5 := hid (K3.out.mono b5); have B5 := hid (kept_trans B3.out b5); have O5 := hid (O3.out.mono b5); have hs5 : w1.heap.size < w5.heap.size := Nat.lt_of_lt_of_le hs3 b5.size; clear K3 b5)
        | (have _t := K6; (with_reducible refine wpl_storeT rfl _ _ rfl w5.heap.size rfl t HT.out rfl K6.out HL.out ?_); intro w7 k7 g7; have K7 := hid k7; have B7 := hid (below_grownS B6.out g7 B5.out.size B6.out.size); have T7 := hid (T6.out.grownS g7 (by omega)); have O7 := hid (O6.out.staysO g7 (.inr (by simp [Value.ownBlock]; omega))); clear k7 g7)
        | (go_at_call 30; refine (HRL.out _ (HR0.out.mono B7.out)).mono ?_; rintro e w8 ⟨a8, c8, rfl, o8, b8⟩; have K8 := hid (K7.out.mono b8); have T8 := hid (T7.out.mono b8); have B8 := hid (kept_trans B7.out b8); clear b8 o8)
        | (with_reducible refine wpl_loadGT (by kernel_rfl) _ rfl w5.heap.size rfl t HT.out K8.out ?_)
        | (with_reducible refine wpl_loadGT (by kernel_rfl) _ rfl w1.heap.size rfl t HT.out T8.out ?_)
        | (go_at_call 16; refine (lives12_any _).mono ?_; rintro e w9 ⟨rfl, b9⟩; have B9 := hid (kept_trans B8.out b9); clear b9))
      go_ret
      exact ⟨rfl, B9.out⟩
  · rw [h1] at HRDT
    rw [h2] at HRL
    have HLL := hid hll
    have HSET := hid (setN_len HT.out (q := q) (es := l) (by omega))
    have HRDT := hid HRDT
    rw [show ((l, (0 : Int)) : List EntT × Int).1 = l from rfl, hll] at HRL
    have HRL := hid HRL
    clear h1 h2 hll
    have g1 : decide ((q : Int) < 0) = false := decide_eq_false (by omega)
    have g2 : decide (3 < (q : Int)) = false := decide_eq_false (by omega)
    have q4 : (q : Int) < 4 := by omega
    rcases hcase with ⟨hm1, hm2⟩ | ⟨rfl, hm2⟩
    · have d1 : decide (100 < (bs0.length : Int)) = false := decide_eq_false (by omega)
      rw [hm1] at HRDT HRL HM
      clear hm1
      go_enter Try.func7, Try.ntmps7
      go_wp2_with (go_at_call 10; fail)
      refine (HTab.out).mono ?_
      rintro e w1 ⟨g, c1, rfl, o1, b1⟩
      have O1 := hid o1; have B1 := hid b1
      have hgl : g < w1.heap.size := (own_entAt HT.out o1).1
      have hgb : w.heap.size ≤ g := by obtain ⟨_, _, _, h, _⟩ := own_splice o1; exact h
      clear o1 b1
      go_wp2_with (first
        | (have _t := K5; (with_reducible refine wpl_allocT (z := z) HZE.out rfl rfl ?_); intro w6 k6 b6 s6; have K6 := hid k6; have B6 := hid (kept_trans B5.out b6); have T6 := hid (K5.out.mono b6); have O6 := hid (O5.out.mono b6); clear k6 b6 s6)
        | ((with_reducible refine wpl_allocT (z := z) HZE.out rfl rfl ?_); intro w2 k2 b2 s2; have K2 := hid k2; have B2 := hid (kept_trans B1.out b2); have O2 := hid (O1.out.mono b2); clear k2 b2 s2)
        | ((with_reducible refine wpl_storeT rfl _ _ rfl w1.heap.size rfl t HT.out rfl K2.out HL.out ?_); intro w3 k3 g3; have K3 := hid k3; have B3 := hid (below_grownS B2.out g3 B1.out.size B2.out.size); have O3 := hid (O2.out.staysO g3 (.inr (by simp [Value.ownBlock]; omega))); have hs3 := Nat.lt_of_lt_of_le K2.out.lt g3.size; clear K2 k3 g3)
        | (with_reducible refine wpl_loadT rfl _ rfl w1.heap.size rfl t HT.out K3.out ?_)
        | (go_at_call 29; refine (HRDT.out _ (HR0.out.mono B3.out)).mono ?_; rintro e w5 ⟨rfl, b5⟩; have K5 := hid (K3.out.mono b5); have B5 := hid (kept_trans B3.out b5); have O5 := hid (O3.out.mono b5); have hs5 : w1.heap.size < w5.heap.size := Nat.lt_of_lt_of_le hs3 b5.size; clear K3 b5)
        | (have _t := K6; (with_reducible refine wpl_storeT rfl _ _ rfl w5.heap.size rfl (setN t q l) HSET.out rfl K6.out HL.out ?_); intro w7 k7 g7; have K7 := hid k7; have B7 := hid (below_grownS B6.out g7 B5.out.size B6.out.size); have T7 := hid (T6.out.grownS g7 (by omega)); have O7 := hid (O6.out.staysO g7 (.inr (by simp [Value.ownBlock]; omega))); clear k7 g7)
        | (go_at_call 30; refine (HRL.out _ (HR0.out.mono B7.out)).mono ?_; rintro e w8 ⟨a8, c8, rfl, o8, b8⟩; have K8 := hid (K7.out.mono b8); have O8 := hid (O7.out.mono b8); have B8 := hid (kept_trans B7.out b8); have N8 := hid o8; have hg7 : g < w7.heap.size := Nat.lt_of_lt_of_le hgl (Nat.le_trans (Nat.le_of_lt hs5) (Nat.le_of_lt K7.out.lt)); clear b8 o8))
      obtain ⟨g8, rfl⟩ := own_someO N8.out (by omega)
      have O8' := O8.out
      rw [← setN_nil t q] at O8'
      have hw5 : w5.heap.size ≠ g := by omega
      go_loopw [13] (fun i wr => ∃ j : Nat, j ≤ 4 ∧ i = .int .i64 j ∧ Own wr w.heap.size 24 2 (some ⟨g, 0, none⟩) 16 c1 (tabC (setN t q (l.take j))) ∧ Own wr w7.heap.size 24 2 (some ⟨g8, 0, none⟩) 4 c8 (tabC l) ∧ Blk wr w5.heap.size 26 (tabC (setN t q l)) ∧ Below w.heap.size w wr) (fun i _ => 4 - (intOf i).toNat)
      case atStart => exact ⟨0, by omega, rfl, O8', N8.out, K8.out, B8.out⟩
      case round =>
        obtain ⟨j, hj, rfl, ho, hn, hk, hb⟩ := hrel
        have O9 := hid ho; have N9 := hid hn; have K9 := hid hk; have B9 := hid hb
        clear ho hn hk hb O8' O8 N8 K8 B8 K7 B7 O7 K6 B6 T6 O6 T7 K5 O5 O3 O2 O1
        by_cases hj4 : j < 4
        · have ij : (j : Int) < 4 := by omega
          have dj : decide ((j : Int) < 4) = true := decide_eq_true ij
          have hjl : j < l.length := by rw [HLL.out]; exact hj4
          have hrow : RowE wr (some ⟨g8, 0, none⟩) c8 l := by unfold RowE; rw [HLL.out]; exact N9.out.row
          obtain ⟨ba, oa, hae, hba, hca⟩ := rowE_cells hrow (by omega)
          cases hae
          obtain ⟨ce0, ce1⟩ := hca j hjl
          rw [Nat.zero_add] at ce0 ce1
          obtain ⟨L9, hb9', hl9, hB9, hs9⟩ := own_splice O9.out
          have hsn := setN_snoc HT.out (q := q) (es := l.take j) (by rw [List.length_take]; omega) l[j]
          have htk : l.take j ++ [l[j]] = l.take (j + 1) := by rw [List.take_succ_eq_append_getElem hjl]
          have hlt' : (l.take j).length = j := by rw [List.length_take]; omega
          rw [hlt', htk] at hsn
          have hfs := flat_set entC 2 (fun _ => rfl) (setN t q (l.take j)) (4 * q + j) l[j] (by rw [setN_len HT.out (by omega)]; omega)
          rw [hsn] at hfs
          have hlj : l[j] = ⟨l[j].nm, l[j].ino⟩ := rfl
          rw [hlj] at hfs
          have HFS := hid hfs; have HS9 := hid hs9; have HB9 := hid hb9'; have HK9 := hid (show (4 * q + j) * 2 + 2 ≤ L9.length by omega)
          clear hsn htk hlt' hfs hlj hs9 hb9' hca hrow
          generalize l[j].nm = nm at *
          generalize l[j].ino = ino at *
          have e1 : IntKind.i64.wrap (4 * (q : Int) + j) = 4 * q + j := IntWalk.i64_in _ (by omega)
          have e3 : (4 * (q : Int) + j) < 16 := by omega
          have e4 : (4 * (q : Int) + j).toNat = 4 * q + j := by omega
          go_wp2_with (first
            | ((with_reducible refine wpl_storeEl rfl _ _ rfl g (4 * q + j) rfl nm ino rfl HB9.out HK9.out ?_); intro w10 k10 g10; have O10 := hid (HS9.out w10 ((4 * q + j) * 2) (entC ⟨nm, ino⟩) (by simp [entC]; omega) k10); have N10 := hid (own_grownO N9.out g10 hg7); have K10 := hid (K9.out.grownS g10 hw5); have B10 := hid (below_grownS B9.out g10 hgb B9.out.size); clear k10 g10))
          go_roundw
          case rel => exact ⟨j + 1, by omega, by go_num, by unfold tabC; rw [HFS.out]; exact O10.out, N10.out, K10.out, B10.out⟩
          case measure => simp [intOf]; omega
        · obtain rfl : j = 4 := by omega
          have dj : decide (((4 : Nat) : Int) < 4) = false := by decide
          rw [List.take_of_length_le (by rw [HLL.out]; omega)] at O9
          go_wp2_with (first
            | (with_reducible refine wpl_loadT rfl _ rfl w5.heap.size rfl (setN t q l) HSET.out K9.out ?_)
            | (go_at_call 19; refine (entries_any _ HSET.out _).mono ?_; rintro e w11 ⟨g11, c11, rfl, o11, b11⟩; have R11 := hid o11.row; have O11 := hid (O9.out.mono b11); have B11 := hid (kept_trans B9.out b11); clear o11 b11)
            | (go_at_call 18; refine (sameE_any _ HSET.out _ _ _ _ _ R11.out O11.out.row).mono ?_; rintro e w12 ⟨rfl, b12⟩; have B12 := hid (kept_trans B11.out b12); clear b12)
            | (go_at_call 16; refine (lives12_any _).mono ?_; rintro e w13 ⟨rfl, b13⟩; have B13 := hid (kept_trans B12.out b13); clear b13))
          go_ret
          exact ⟨rfl, B13.out⟩
    · have d1 : decide (100 < (bs0.length : Int)) = true := decide_eq_true (by omega)
      have d2 : (100 : Int) ≤ c0 := by omega
      go_enter Try.func7, Try.ntmps7
      go_wp2_with (go_at_call 10; fail)
      refine (HTab.out).mono ?_
      rintro e w1 ⟨g, c1, rfl, o1, b1⟩
      have O1 := hid o1; have B1 := hid b1
      have hgl : g < w1.heap.size := (own_entAt HT.out o1).1
      have hgb : w.heap.size ≤ g := by obtain ⟨_, _, _, h, _⟩ := own_splice o1; exact h
      clear o1 b1
      go_wp2_with (first
        | (have _t := K5; (with_reducible refine wpl_allocT (z := z) HZE.out rfl rfl ?_); intro w6 k6 b6 s6; have K6 := hid k6; have B6 := hid (kept_trans B5.out b6); have T6 := hid (K5.out.mono b6); have O6 := hid (O5.out.mono b6); clear k6 b6 s6)
        | ((with_reducible refine wpl_allocT (z := z) HZE.out rfl rfl ?_); intro w2 k2 b2 s2; have K2 := hid k2; have B2 := hid (kept_trans B1.out b2); have O2 := hid (O1.out.mono b2); clear k2 b2 s2)
        | ((with_reducible refine wpl_storeT rfl _ _ rfl w1.heap.size rfl t HT.out rfl K2.out HL.out ?_); intro w3 k3 g3; have K3 := hid k3; have B3 := hid (below_grownS B2.out g3 B1.out.size B2.out.size); have O3 := hid (O2.out.staysO g3 (.inr (by simp [Value.ownBlock]; omega))); have hs3 := Nat.lt_of_lt_of_le K2.out.lt g3.size; clear K2 k3 g3)
        | (with_reducible refine wpl_loadT rfl _ rfl w1.heap.size rfl t HT.out K3.out ?_)
        | (go_at_call 29; refine (HRDT.out _ (HR0.out.mono B3.out)).mono ?_; rintro e w5 ⟨rfl, b5⟩; have K5 := hid (K3.out.mono b5); have B5 := hid (kept_trans B3.out b5); have O5 := hid (O3.out.mono b5); have hs5 : w1.heap.size < w5.heap.size := Nat.lt_of_lt_of_le hs3 b5.size; clear K3 b5)
        | (have _t := K6; (with_reducible refine wpl_storeT rfl _ _ rfl w5.heap.size rfl (setN t q l) HSET.out rfl K6.out HL.out ?_); intro w7 k7 g7; have K7 := hid k7; have B7 := hid (below_grownS B6.out g7 B5.out.size B6.out.size); have T7 := hid (T6.out.grownS g7 (by omega)); have O7 := hid (O6.out.staysO g7 (.inr (by simp [Value.ownBlock]; omega))); clear k7 g7)
        | (go_at_call 30; refine (HRL.out _ (HR0.out.mono B7.out)).mono ?_; rintro e w8 ⟨a8, c8, rfl, o8, b8⟩; have K8 := hid (K7.out.mono b8); have O8 := hid (O7.out.mono b8); have B8 := hid (kept_trans B7.out b8); have N8 := hid o8; have hg7 : g < w7.heap.size := Nat.lt_of_lt_of_le hgl (Nat.le_trans (Nat.le_of_lt hs5) (Nat.le_of_lt K7.out.lt)); clear b8 o8))
      obtain ⟨g8, rfl⟩ := own_someO N8.out (by omega)
      have O8' := O8.out
      rw [← setN_nil t q] at O8'
      have hw5 : w5.heap.size ≠ g := by omega
      go_loopw [13] (fun i wr => ∃ j : Nat, j ≤ 4 ∧ i = .int .i64 j ∧ Own wr w.heap.size 24 2 (some ⟨g, 0, none⟩) 16 c1 (tabC (setN t q (l.take j))) ∧ Own wr w7.heap.size 24 2 (some ⟨g8, 0, none⟩) 4 c8 (tabC l) ∧ Blk wr w5.heap.size 26 (tabC (setN t q l)) ∧ Below w.heap.size w wr) (fun i _ => 4 - (intOf i).toNat)
      case atStart => exact ⟨0, by omega, rfl, O8', N8.out, K8.out, B8.out⟩
      case round =>
        obtain ⟨j, hj, rfl, ho, hn, hk, hb⟩ := hrel
        have O9 := hid ho; have N9 := hid hn; have K9 := hid hk; have B9 := hid hb
        clear ho hn hk hb O8' O8 N8 K8 B8 K7 B7 O7 K6 B6 T6 O6 T7 K5 O5 O3 O2 O1
        by_cases hj4 : j < 4
        · have ij : (j : Int) < 4 := by omega
          have dj : decide ((j : Int) < 4) = true := decide_eq_true ij
          have hjl : j < l.length := by rw [HLL.out]; exact hj4
          have hrow : RowE wr (some ⟨g8, 0, none⟩) c8 l := by unfold RowE; rw [HLL.out]; exact N9.out.row
          obtain ⟨ba, oa, hae, hba, hca⟩ := rowE_cells hrow (by omega)
          cases hae
          obtain ⟨ce0, ce1⟩ := hca j hjl
          rw [Nat.zero_add] at ce0 ce1
          obtain ⟨L9, hb9', hl9, hB9, hs9⟩ := own_splice O9.out
          have hsn := setN_snoc HT.out (q := q) (es := l.take j) (by rw [List.length_take]; omega) l[j]
          have htk : l.take j ++ [l[j]] = l.take (j + 1) := by rw [List.take_succ_eq_append_getElem hjl]
          have hlt' : (l.take j).length = j := by rw [List.length_take]; omega
          rw [hlt', htk] at hsn
          have hfs := flat_set entC 2 (fun _ => rfl) (setN t q (l.take j)) (4 * q + j) l[j] (by rw [setN_len HT.out (by omega)]; omega)
          rw [hsn] at hfs
          have hlj : l[j] = ⟨l[j].nm, l[j].ino⟩ := rfl
          rw [hlj] at hfs
          have HFS := hid hfs; have HS9 := hid hs9; have HB9 := hid hb9'; have HK9 := hid (show (4 * q + j) * 2 + 2 ≤ L9.length by omega)
          clear hsn htk hlt' hfs hlj hs9 hb9' hca hrow
          generalize l[j].nm = nm at *
          generalize l[j].ino = ino at *
          have e1 : IntKind.i64.wrap (4 * (q : Int) + j) = 4 * q + j := IntWalk.i64_in _ (by omega)
          have e3 : (4 * (q : Int) + j) < 16 := by omega
          have e4 : (4 * (q : Int) + j).toNat = 4 * q + j := by omega
          go_wp2_with (first
            | ((with_reducible refine wpl_storeEl rfl _ _ rfl g (4 * q + j) rfl nm ino rfl HB9.out HK9.out ?_); intro w10 k10 g10; have O10 := hid (HS9.out w10 ((4 * q + j) * 2) (entC ⟨nm, ino⟩) (by simp [entC]; omega) k10); have N10 := hid (own_grownO N9.out g10 hg7); have K10 := hid (K9.out.grownS g10 hw5); have B10 := hid (below_grownS B9.out g10 hgb B9.out.size); clear k10 g10))
          go_roundw
          case rel => exact ⟨j + 1, by omega, by go_num, by unfold tabC; rw [HFS.out]; exact O10.out, N10.out, K10.out, B10.out⟩
          case measure => simp [intOf]; omega
        · obtain rfl : j = 4 := by omega
          have dj : decide (((4 : Nat) : Int) < 4) = false := by decide
          rw [List.take_of_length_le (by rw [HLL.out]; omega)] at O9
          go_wp2_with (first
            | (with_reducible refine wpl_loadT rfl _ rfl w5.heap.size rfl (setN t q l) HSET.out K9.out ?_)
            | (go_at_call 19; refine (entries_any _ HSET.out _).mono ?_; rintro e w11 ⟨g11, c11, rfl, o11, b11⟩; have R11 := hid o11.row; have O11 := hid (O9.out.mono b11); have B11 := hid (kept_trans B9.out b11); clear o11 b11)
            | (go_at_call 18; refine (sameE_any _ HSET.out _ _ _ _ _ R11.out O11.out.row).mono ?_; rintro e w12 ⟨rfl, b12⟩; have B12 := hid (kept_trans B11.out b12); clear b12)
            | (go_at_call 16; refine (lives12_any _).mono ?_; rintro e w13 ⟨rfl, b13⟩; have B13 := hid (kept_trans B12.out b13); clear b13))
          go_ret
          exact ⟨rfl, B13.out⟩
end Go.Proofs.Ytejfkjfidhdfaaa
