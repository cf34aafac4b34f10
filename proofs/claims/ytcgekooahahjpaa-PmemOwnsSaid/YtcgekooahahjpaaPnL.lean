/- What is handed in stays, and what is told is new. (genPnL.py) -/
import Derived.Test.YtcgekooahahjpaaPnK
namespace Go.Proofs.Ytcgekooahahjpaa
open Go.RowKit
set_option linter.unusedSimpArgs false
set_option linter.unusedVariables false

theorem own_set3 {kind at_ n : Int} {sa : Option Addr} {sl sc : Nat} {pa : Option Addr} {pl pc : Nat} (a : Option Addr) (l c : Nat) : (deedC kind at_ n sa sl sc pa pl pc).set 3 (.slice a l c) = deedC kind at_ n a l c pa pl pc := rfl
theorem own_turn {X : Nat → Prop} {w w' : World} {B g : Nat} {e : TypeId} {sz n c : Nat} {cs : List Value} (t : Turns X w w') (h : Own w B e sz (some ⟨g, 0, none⟩) n c cs) (hx : ¬ X g) : Own w' B e sz (some ⟨g, 0, none⟩) n c cs := by
  refine ⟨h.1, ?_⟩
  rcases h.2 with hn | ⟨b, cap, cur, hv, hb, hh, rest⟩
  · exact .inl hn
  · have hv' := hv
    cases hv'
    exact .inr ⟨_, _, cur, hv, hb, (t.block _ (Array.getElem?_eq_some_iff.1 hh).1 hx).trans hh, rest⟩

set_option maxRecDepth 100000 in
set_option maxHeartbeats 1000000 in
theorem PmemOwns_walk (w : World) (a : Option Addr) (n c : Nat) (f : Nat → DeedV) (r : RowD w a c n f) :
    Calls Try.prog 8 #[.slice a n c] w fun e w' => e = .returned (.bool true) ∧ Below w.heap.size w w' := by
  have hnc := r.1
  have hc9 := r.2.1
  have HR := hid r
  clear r
  go_enter Try.func8, Try.ntmps8
  go_wp2_with fail
  refine (new256 w).mono ?_
  rintro e w1 ⟨g, v, d, p, rfl, m1, h1, b1⟩
  have HM1 := hid m1; have HH1 := hid h1; have B1 := hid b1
  clear m1 h1 b1
  go_wp2_with fail
  refine (newR256 w1).mono ?_
  rintro e w2 ⟨g2, v2, d2, a2, rfl, m2, h2, b2⟩
  have hB0 := both_start HM1.out HH1.out B1.out m2 h2 b2
  have B2 := hid (kept_trans B1.out b2)
  clear m2 h2 b2 HM1 HH1 B1
  obtain ⟨K, rfl, rfl, rfl, rfl, rfl, rfl, rfl, rfl⟩ : ∃ K : MemK, K.gm = g ∧ K.vm = v ∧ K.dm = d ∧ K.pm = p ∧ K.gr = g2 ∧ K.vr = v2 ∧ K.dr = d2 ∧ K.ar = a2 := ⟨⟨g, v, d, p, g2, v2, d2, a2⟩, rfl, rfl, rfl, rfl, rfl, rfl, rfl, rfl⟩
  have HB0 := hid hB0
  clear hB0
  go_wp2_with fail
  go_loopw [5, 6, 7, 8, 9, 10, 11, 12, 13, 14, 15, 16, 17] (fun i _ _ _ _ _ _ _ _ _ _ _ _ wr => ∃ (j : Nat) (M : MemM), j ≤ n ∧ j ≤ 20 ∧ i = .int .i64 j ∧ Both wr w.heap.size K M ∧ M.V.length = 256 ∧ Below w.heap.size w wr) (fun i _ _ _ _ _ _ _ _ _ _ _ _ _ => n - (intOf i).toNat)
  case atStart => exact ⟨0, newM 256, Nat.zero_le _, Nat.zero_le _, rfl, HB0.out, newM_len _, B2.out⟩
  case round =>
    obtain ⟨j, M, hj, hj6, rfl, hm, hlen, hbel⟩ := hrel
    by_cases hlt : j < n ∧ j < 20
    · obtain ⟨hlt, hlt6⟩ := hlt
      have ltd : decide ((j : Int) < (n : Int)) = true := decide_eq_true (by omega)
      have ltd6 : decide ((j : Int) < 20) = true := decide_eq_true (by omega)
      obtain ⟨_, _, h3, _⟩ := HR.out.mono hbel
      obtain ⟨b, off, e, hbl, hc⟩ := h3 (by omega)
      subst e
      obtain ⟨x0, x1, x2, x3, x4⟩ := hc j hlt
      have hok := (HR.out.ok hbel hm.2.2.1 hlt)
      have hscS : (f j).S.length ≤ (f j).sc := by have := hok.rs.2.1; simpa using this
      have hscP : (f j).P.length ≤ (f j).pc := by have := hok.rp.2.1; simpa using this
      have HC := hid (fun (k0 a0 n0 : Int) (X : World) => cut_any k0 a0 n0 (f j).sa (f j).pa (f j).S.length (f j).sc (f j).P.length (f j).pc hscS hscP X)
      have hl1 : min (f j).S.length 100 = ((f j).S.take 100).length := by simp [Nat.min_comm]
      have hl2 : min (f j).P.length 200 = ((f j).P.take 200).length := by simp [Nat.min_comm]
      rw [hl1, hl2] at HC
      have hS100 : ((f j).S.take 100).length ≤ 100 := by rw [List.length_take]; omega
      have HOK := hid hok.cut
      have HBL := hid hbel; have HMM := hid hm; have HLN := hid hlen
      have hB0 : w.heap.size ≤ wr.heap.size := hbel.size
      have HAL := hid hm.allLt
      clear hc h3 hm hbel hlen hok hl1 hl2
      generalize (f j).kind = t0 at *
      generalize (f j).at_ = t1 at *
      generalize (f j).n = t2 at *
      generalize (f j).sa = t3 at *
      generalize (f j).sc = t4 at *
      generalize (f j).pa = t6 at *
      generalize (f j).pc = t7 at *
      generalize (f j).S.take 100 = S' at *
      generalize (f j).P.take 200 = P' at *
      generalize (f j).S.length = t5 at *
      generalize (f j).P.length = t8 at *
      obtain ⟨B0, hB00⟩ : ∃ B0, wr.heap.size = B0 := ⟨_, rfl⟩
      rw [hB00] at hB0 HAL
      have HB00 := hid hB00
      clear hB00
      have tt : True := trivial
      go_wp2_with (first
        | (go_at_call 23; refine (HC.out _ _ _ _).mono ?_; rintro e w1 ⟨rfl, b1⟩; have B1 := hid b1; have S1 := hid (show B0 ≤ w1.heap.size by have := b1.size; rw [HB00.out] at this; exact this); clear b1 x0 x1 x2 x3 x4)
        | ((with_reducible refine wpl_storeS rfl _ _ _ rfl w1.heap.size rfl (deedC t0 t1 t2 t3 S'.length t4 t6 P'.length t7) rfl infoDeed (deedC_one _ _ _ _ _ _ _ _ _) (blk_newO (by rfl) _ _) rfl ?_); intro w2 k2 g2; have K2 := hid k2; have B2 := hid (((Below.refl w1.heap.size w1).alloc (Nat.le_refl _) _).grown g2 (by simp) (fun k hk => by cases hk; exact Nat.le_refl _)); have y0 : w2.cell? ⟨w1.heap.size, 0, none⟩ = some (.int .i64 t0) := k2.cell (i := 0) (by simp [deedC]); have y1 : w2.cell? ⟨w1.heap.size, 1, none⟩ = some (.int .i64 t1) := k2.cell (i := 1) (by simp [deedC]); have y2 : w2.cell? ⟨w1.heap.size, 2, none⟩ = some (.int .i64 t2) := k2.cell (i := 2) (by simp [deedC]); have y3 : w2.cell? ⟨w1.heap.size, 3, none⟩ = some (.slice t3 S'.length t4) := k2.cell (i := 3) (by simp [deedC]); have y4 : w2.cell? ⟨w1.heap.size, 4, none⟩ = some (.slice t6 P'.length t7) := k2.cell (i := 4) (by simp [deedC]); have R2 := (HOK.out.rs.mono B1.out).mono B2.out; clear k2 g2)
        | (at_builtin; have _t := tt; refine wpl_append rfl (.tmp 38) (.tmp 40) rfl E8 w2.heap.size rfl rfl (Own.nil _ _ _ _) R2 (byteV_one S') (by omega) (by omega) (Nat.le_refl _) ?_; clear tt; intro a3 c3 w3 hown hgrow b3; simp only [Nat.zero_add, List.nil_append] at hown; have O3 := hid hown; have B3 := hid b3; have z0 : w3.cell? ⟨w1.heap.size, 0, none⟩ = some (.int .i64 t0) := (K2.out.mono b3).cell (i := 0) (by simp [deedC]); have z1 : w3.cell? ⟨w1.heap.size, 1, none⟩ = some (.int .i64 t1) := (K2.out.mono b3).cell (i := 1) (by simp [deedC]); have z2 : w3.cell? ⟨w1.heap.size, 2, none⟩ = some (.int .i64 t2) := (K2.out.mono b3).cell (i := 2) (by simp [deedC]); have z3 : w3.cell? ⟨w1.heap.size, 3, none⟩ = some (.slice t3 S'.length t4) := (K2.out.mono b3).cell (i := 3) (by simp [deedC]); have z4 : w3.cell? ⟨w1.heap.size, 4, none⟩ = some (.slice t6 P'.length t7) := (K2.out.mono b3).cell (i := 4) (by simp [deedC]); clear hown hgrow b3 y0 y1 y2 y3 y4 R2)
        | ((with_reducible refine wpl_storeS rfl _ _ _ rfl w3.heap.size rfl (deedC t0 t1 t2 t3 S'.length t4 t6 P'.length t7) rfl infoDeed (deedC_one _ _ _ _ _ _ _ _ _) (blk_newO (by rfl) _ _) rfl ?_); intro w4 k4 g4; have B4 := hid (((Below.refl w3.heap.size w3).alloc (Nat.le_refl _) _).grown g4 (by simp) (fun k hk => by cases hk; exact Nat.le_refl _)); obtain ⟨v9, c9⟩ := Blk.someCell k4 (i := 3) (by simp [deedC]); have f9 := Blk.frozen k4 3; have k5 := Blk.set k4 3 (.slice a3 S'.length c3); rw [own_set3] at k5; have y0 : (w4.setCell ⟨w3.heap.size, 3, none⟩ (.slice a3 S'.length c3)).cell? ⟨w3.heap.size, 0, none⟩ = some (.int .i64 t0) := k5.cell (i := 0) (by simp [deedC]); have y1 : (w4.setCell ⟨w3.heap.size, 3, none⟩ (.slice a3 S'.length c3)).cell? ⟨w3.heap.size, 1, none⟩ = some (.int .i64 t1) := k5.cell (i := 1) (by simp [deedC]); have y2 : (w4.setCell ⟨w3.heap.size, 3, none⟩ (.slice a3 S'.length c3)).cell? ⟨w3.heap.size, 2, none⟩ = some (.int .i64 t2) := k5.cell (i := 2) (by simp [deedC]); have y3 : (w4.setCell ⟨w3.heap.size, 3, none⟩ (.slice a3 S'.length c3)).cell? ⟨w3.heap.size, 3, none⟩ = some (.slice a3 S'.length c3) := k5.cell (i := 3) (by simp [deedC]); have y4 : (w4.setCell ⟨w3.heap.size, 3, none⟩ (.slice a3 S'.length c3)).cell? ⟨w3.heap.size, 4, none⟩ = some (.slice t6 P'.length t7) := k5.cell (i := 4) (by simp [deedC]); clear k4 k5 g4 z0 z1 z2 z3 z4))
      clear y0 y1 y2 y3 y4 c9 f9
      have B35 := hid (below_set B4.out (Nat.le_refl _) (Nat.le_refl _) 3 (.slice a3 S'.length c3))
      have O5 := hid (O3.out.mono B35.out)
      have b05 : Below wr.heap.size wr (w4.setCell ⟨w3.heap.size, 3, none⟩ (.slice a3 S'.length c3)) := kept_trans (kept_trans (kept_trans B1.out B2.out) B3.out) B35.out
      have B05 := hid b05
      have s2 : B0 ≤ w2.heap.size := by have := S1.out; have := B2.out.size; omega
      have D5 := hid (does_any (HMM.out.mono b05) t0 t1 t2 a3 c3 S' t6 t7 P' ⟨HOK.out.at_b, HOK.out.n_b, O5.out.row, HOK.out.rp.mono b05, HOK.out.ok, (fun hn b0 hb0 hk => by
          obtain ⟨off0, e0⟩ := hb0
          have h9 := HAL.out.1 b0 hk
          have h8 := O5.out
          rw [e0] at h8
          have := own_base h8
          omega), HOK.out.sap⟩)
      clear b05
      generalize w4.setCell ⟨w3.heap.size, 3, none⟩ (.slice a3 S'.length c3) = w5 at *
      refine D5.out.mono ?_
      rintro e w6 ⟨rfl, M6, m6, l6, t6'⟩
      have M6' := hid m6; have L6 := hid (l6.trans HLN.out)
      have O6 := hid (Own.low (t6'.own O5.out (fun k hk => by have := HAL.out.1 k hk; omega)) s2)
      have B6 := hid ((kept_trans HBL.out B05.out).trans (doesP_below (HMM.out.mono B05.out) (Nat.le_trans HBL.out.size B05.out.size) t6'))
      have s6 : B0 ≤ w6.heap.size := by have q1 := B05.out.size; have q2 := t6'.size; rw [HB00.out] at q1; omega
      have hB6 : w.heap.size ≤ w6.heap.size := B6.out.size
      clear m6 l6 t6' D5
      generalize S'.length = n1 at *
      go_wp2_with fail
      go_loopw [10] (fun i wr => ∃ (k : Nat), k ≤ n1 ∧ i = .int .i64 k ∧ (∃ cs, Own wr B0 5 1 a3 n1 c3 cs) ∧ Turns (fun x => B0 ≤ x) w6 wr) (fun i _ => n1 - (intOf i).toNat)
      case atStart => exact ⟨0, Nat.zero_le _, rfl, ⟨_, O6.out⟩, Turns.refl _ _⟩
      case round =>
        obtain ⟨k, hk, rfl, ⟨cs, oc⟩, tt7⟩ := hrel
        by_cases hkl : k < n1
        · have kd1 : decide ((k : Int) < (n1 : Int)) = true := decide_eq_true (by omega)
          obtain ⟨g, rfl⟩ := own_someO oc (by omega)
          obtain ⟨⟨v0, c0⟩, f0, hg, hput⟩ := own_put oc hkl
          have HP := hid hput; have TT := hid tt7
          clear oc hput tt7
          go_wp2_with fail
          go_roundw
          case rel => exact ⟨k + 1, by omega, by go_num, HP.out _, TT.out.setIn hg _ _⟩
          case measure => simp [intOf]; omega
        · have kd1 : decide ((k : Int) < (n1 : Int)) = false := decide_eq_false (by omega)
          have M7 := hid (M6'.out.high HAL.out tt7); have T7 := hid tt7
          have s7 : B0 ≤ wr.heap.size := by have := tt7.size; omega
          clear oc tt7
          go_wp2_with fail
          refine (load256 M7.out.1 L6.out rfl).mono ?_
          rintro e w8 ⟨a8, c8, rfl, o8, b8⟩
          obtain ⟨g8, rfl⟩ := own_someO o8 (by have := L6.out; omega)
          have g8l : g8 < w8.heap.size := by obtain ⟨Z0, hb0, _⟩ := own_bytes o8; exact hb0.lt
          have s8 : B0 ≤ w8.heap.size := by have := b8.size; omega
          have o8' : Own w8 wr.heap.size 5 1 (some ⟨g8, 0, none⟩) M6.V.length c8 (M6.V.map byteV) := o8
          rw [L6.out] at o8'
          have M8 := hid (M7.out.mono b8); have T8 := hid (T7.out.trans (Turns.of_belowB (b8.mono s7))); have O8 := hid (Own.low o8' s7)
          clear b8 o8 o8'
          go_wp2_with fail
          refine (lasts256 M8.out.1 L6.out rfl).mono ?_
          rintro e w9 ⟨a9, c9, rfl, o9, b9⟩
          have LD : M6.D.length = 256 := M8.out.1.1.1.trans L6.out
          obtain ⟨g9, rfl⟩ := own_someO o9 (by omega)
          have g98 : g8 ≠ g9 := by have := own_base o9; omega
          have s9 : B0 ≤ w9.heap.size := by have := b9.size; omega
          have o9' : Own w9 w8.heap.size 5 1 (some ⟨g9, 0, none⟩) M6.D.length c9 (M6.D.map byteV) := o9
          rw [LD] at o9'
          have M9 := hid (M8.out.mono b9); have T9 := hid (T8.out.trans (Turns.of_belowB (b9.mono s8))); have P8 := hid (O8.out.mono b9); have O9 := hid (Own.low o9' s8)
          clear b9 o9 o9' LD
          go_wp2_with fail
          go_loopw [15] (fun i wr => ∃ (k : Nat), k ≤ 256 ∧ i = .int .i64 k ∧ (∃ cs, Own wr B0 5 1 (some ⟨g8, 0, none⟩) 256 c8 cs) ∧ (∃ cs, Own wr B0 5 1 (some ⟨g9, 0, none⟩) 256 c9 cs) ∧ Turns (fun x => B0 ≤ x) w9 wr) (fun i _ => 256 - (intOf i).toNat)
          case atStart => exact ⟨0, Nat.zero_le _, rfl, ⟨_, P8.out⟩, ⟨_, O9.out⟩, Turns.refl _ _⟩
          case round =>
            obtain ⟨k, hk, rfl, ⟨ca, oa⟩, ⟨cb, ob⟩, tt10⟩ := hrel
            by_cases hkl : k < 256
            · have kd1 : decide ((k : Int) < 256) = true := decide_eq_true (by omega)
              obtain ⟨⟨v0, c0⟩, f0, hg, hput⟩ := own_put oa hkl
              obtain ⟨ca', oa'⟩ := hput (.int .u8 7)
              have tA : Turns (fun x => x = g8) wr (wr.setCell ⟨g8, k, none⟩ (.int .u8 7)) := Turns.setIn (X := fun x => x = g8) (Turns.refl _ _) rfl k (.int .u8 7)
              have ob1 := own_turn tA ob (fun h => g98 h.symm)
              obtain ⟨⟨v1, c1⟩, f1, hg1, hput1⟩ := own_put ob1 hkl
              obtain ⟨cb', ob'⟩ := hput1 (.int .u8 9)
              have oa2 := own_turn (Turns.setIn (X := fun x => x = g9) (Turns.refl _ (wr.setCell ⟨g8, k, none⟩ (.int .u8 7))) rfl k (.int .u8 9)) oa' g98
              have HA := hid oa2; have HB := hid ob'; have TT := hid tt10
              clear oa ob hput oa' tA ob1 hput1 ob' oa2 tt10
              go_wp2_with fail
              go_roundw
              case rel => exact ⟨k + 1, by omega, by go_num, ⟨_, HA.out⟩, ⟨_, HB.out⟩, (TT.out.setIn hg _ _).setIn hg1 _ _⟩
              case measure => simp [intOf]; omega
            · have kd1 : decide ((k : Int) < 256) = false := decide_eq_false (by omega)
              have M10 := hid (M9.out.high HAL.out tt10); have T10 := hid (T9.out.trans tt10)
              have s10 : B0 ≤ wr.heap.size := by have := tt10.size; omega
              clear oa ob tt10
              go_wp2_with fail
              refine (dirtyAll_any M10.out.1).mono ?_
              rintro e w11 ⟨a11, c11, rfl, o11, b11⟩
              have M11 := hid (M10.out.mono b11); have T11 := hid (T10.out.trans (Turns.of_belowB (b11.mono s10)))
              have o11' : Own w11 B0 3 1 a11 (dirtyL M6).length c11 (natV (dirtyL M6)) := Own.low o11 s10
              have O11 := hid o11'
              clear o11 o11' b11
              have hn3 : (dirtyL M6).length ≤ 32 := by
                have q1 := List.length_filter_le (dirtyB M6.V M6.D) (List.range M6.A.length)
                have q2 := M11.out.1.1.2.1
                have q3 := L6.out
                rw [List.length_range] at q1
                unfold dirtyL; omega
              generalize (dirtyL M6).length = n3 at *
              go_wp2_with fail
              go_loopw [17] (fun i wr => ∃ (k : Nat), k ≤ n3 ∧ i = .int .i64 k ∧ (∃ cs, Own wr B0 3 1 a11 n3 c11 cs) ∧ Turns (fun x => B0 ≤ x) w11 wr) (fun i _ => n3 - (intOf i).toNat)
              case atStart => exact ⟨0, Nat.zero_le _, rfl, ⟨_, O11.out⟩, Turns.refl _ _⟩
              case round =>
                obtain ⟨k, hk, rfl, ⟨cs, oc⟩, tt12⟩ := hrel
                by_cases hkl : k < n3
                · have kd1 : decide ((k : Int) < (n3 : Int)) = true := decide_eq_true (by omega)
                  obtain ⟨g, rfl⟩ := own_someO oc (by omega)
                  obtain ⟨⟨v0, c0⟩, f0, hg, hput⟩ := own_put oc hkl
                  have HP := hid hput; have TT := hid tt12
                  clear oc hput tt12
                  go_wp2_with fail
                  go_roundw
                  case rel => exact ⟨k + 1, by omega, by go_num, HP.out _, TT.out.setIn hg _ _⟩
                  case measure => simp [intOf]; omega
                · have kd1 : decide ((k : Int) < (n3 : Int)) = false := decide_eq_false (by omega)
                  have M12 := hid (M11.out.high HAL.out tt12); have B12 := hid (B6.out.trans (Turns.high (T11.out.trans tt12) hB6 hB0))
                  clear oc tt12
                  go_wp2_with fail
                  go_roundw
                  case rel => exact ⟨j + 1, M6, by omega, by omega, by go_num, M12.out, L6.out, B12.out⟩
                  case measure => simp [intOf]; omega

    · have hex : (j < n ∧ ¬ j < 20) ∨ ¬ j < n := by omega
      have HM := hid hm; have HLEN := hid hlen; have HBEL := hid hbel
      clear hm hlen hbel hlt
      rcases hex with ⟨hn, hn6⟩ | hn
      · have ltd : decide ((j : Int) < (n : Int)) = true := decide_eq_true (by omega)
        have ltd6 : decide ((j : Int) < 20) = false := decide_eq_false (by omega)
        clear hn6
        go_wp2_with fail
        refine (like_any HM.out).mono ?_
        rintro e w4 ⟨rfl, b4⟩
        have B4 := hid (kept_trans HBEL.out b4)
        clear b4
        go_wp2_with fail
        refine (lives_any _).mono ?_
        rintro e w8 ⟨rfl, b8⟩
        have B8 := hid (kept_trans B4.out b8)
        clear b8
        go_wp2_with fail
        go_ret
        exact ⟨rfl, B8.out⟩
      · have ltd : decide ((j : Int) < (n : Int)) = false := decide_eq_false (by omega)
        go_wp2_with fail
        refine (like_any HM.out).mono ?_
        rintro e w4 ⟨rfl, b4⟩
        have B4 := hid (kept_trans HBEL.out b4)
        clear b4
        go_wp2_with fail
        refine (lives_any _).mono ?_
        rintro e w8 ⟨rfl, b8⟩
        have B8 := hid (kept_trans B4.out b8)
        clear b8
        go_wp2_with fail
        go_ret
        exact ⟨rfl, B8.out⟩
end Go.Proofs.Ytcgekooahahjpaa
