/- The document's memory: lines flushed, a crash. -/
import Derived.Test.YtkhhoognemjibaaDoorPmS
namespace Go.Proofs.YtkhhoognemjibaaDoor
open Go.RowKit
set_option linter.unusedSimpArgs false
set_option linter.unusedVariables false
set_option maxRecDepth 100000

theorem inT_succ64 (q j i : Nat) : inT q (j + 1) 64 i = (inT q j 64 i || (q + j) / 64 == i) := by
  rw [Bool.eq_iff_iff]
  simp only [inT, decide_eq_true_eq, Bool.or_eq_true, beq_iff_eq]
  omega
theorem flushM_flT' (M : MemM) (at_ n : Nat) : flushM M at_ n = ⟨M.V, M.D, flT M fun k => inT at_ n 64 (k / 8)⟩ := rfl

/-- what Flush does -/
def FlushR (g v d a : Nat) (M : MemM) (at_ n : Int) (w : World) (e : Ending) (w' : World) : Prop :=
  if inM M at_ n = true then e = .returned (.int .i64 0) ∧ MemR w' g v d a (flushM M at_.toNat n.toNat) ∧ Turns (fun k => k = a) w w' else e = .returned (.int .i64 1) ∧ w = w'

set_option maxHeartbeats 4000000 in
theorem flushR_any {w : World} {g v d a : Nat} {M : MemM} (h : MemR w g v d a M) (at_ n : Int) (ha : -9223372036854775808 ≤ at_ ∧ at_ ≤ 9223372036854775807) (hn : -9223372036854775808 ≤ n ∧ n ≤ 9223372036854775807) :
    Calls Tryd.prog 80 #[.pointer (some ⟨g, 0, none⟩), .int .i64 at_, .int .i64 n] w (FlushR g v d a M at_ n w) := by
  have HW := hid (withinR_any h at_ n ha hn)
  by_cases hi : inM M at_ n = true
  · have hE : FlushR g v d a M at_ n w = fun e w' => e = .returned (.int .i64 0) ∧ MemR w' g v d a (flushM M at_.toNat n.toNat) ∧ Turns (fun k => k = a) w w' := by
      funext e w'; unfold FlushR; rw [if_pos hi]
    rw [hE]
    rw [hi] at HW
    clear hE
    obtain ⟨q, n0, rfl, rfl, hl⟩ := inM_true hi
    rw [show ((q : Int)).toNat = q from rfl, show ((n0 : Int)).toNat = n0 from rfl, flushM_flT']
    obtain ⟨av, ag1, ag2, ap1, ap2, ap3, gl, vl, dl, al⟩ := ref_apart h
    have hVl := h.1.2.2.2.2
    have hAl := h.1.2.1
    have H := hid h
    have e1 : IntKind.i64.wrap ((q : Int) + n0) = (q : Int) + n0 := IntWalk.i64_in _ (by omega)
    clear h hi ha hn
    go_enter Tryd.func80, Tryd.ntmps80
    go_wp2_with (first | (go_at_call 92; refine HW.out.mono ?_; rintro e w1 ⟨rfl, rfl⟩))
    go_loopw [8, 9, 10] (fun i _ _ wr => ∃ k : Nat, k ≤ M.A.length ∧ i = .int .i64 k ∧ MemR wr g v d a ⟨M.V, M.D, flT M fun i => decide (i < k) && inT q n0 64 (i / 8)⟩ ∧ Turns (fun k => k = a) w wr) (fun i _ _ _ => M.A.length - (intOf i).toNat)
    case atStart =>
      refine ⟨0, by omega, rfl, ?_, Turns.refl _ _⟩
      rw [flT_congr (f' := fun _ => false) (fun k _ => by simp), flT_none]
      exact H.out
    case round =>
      obtain ⟨k, hk, rfl, hm, ht⟩ := hrel
      obtain ⟨c0, c1, c2⟩ := hm.cells
      simp only [flT_len] at c2
      by_cases hkl : k < M.A.length
      · have i1 : (k : Int) < (M.A.length : Int) := by omega
        have e2 : IntKind.i64.wrap ((k : Int) + 1) = (k : Int) + 1 := IntWalk.i64_in _ (by omega)
        have e3 : (k : Int).tdiv 8 = ((k / 8 : Nat) : Int) := rfl
        have e4 : IntKind.i64.wrap ((k / 8 : Nat) : Int) = ((k / 8 : Nat) : Int) := IntWalk.i64_in _ (by omega)
        have HM := hid hm; have HT := hid ht
        clear hm ht
        generalize hk8 : k / 8 = K at *
        have HK8 := hid hk8
        clear hk8
        go_wp2
        obtain ⟨wo, hwo⟩ : ∃ x, x = wr := ⟨_, rfl⟩
        subst hwo
        go_loopw [9, 10] (fun b i wr => ∃ j : Nat, j ≤ n0 ∧ i = .int .i64 (q + j : Nat) ∧ b = .bool (inT q j 64 K) ∧ wr = wo) (fun _ i _ => q + n0 - (intOf i).toNat)
        case atStart => exact ⟨0, by omega, rfl, rfl, rfl⟩
        case round =>
          obtain ⟨j, hj, rfl, rfl, rfl⟩ := hrel
          have i0 : ((q + j : Nat) : Int) = (q : Int) + j := by omega
          by_cases hjn : j < n0
          · have i3 : ((q + j : Nat) : Int) < (q : Int) + n0 := by omega
            have e5 : IntKind.i64.wrap (((q + j : Nat) : Int) + 1) = ((q + j : Nat) : Int) + 1 := IntWalk.i64_in _ (by omega)
            have e6 : ((q + j : Nat) : Int).tdiv 64 = (((q + j) / 64 : Nat) : Int) := rfl
            have e7 : IntKind.i64.wrap (((q + j) / 64 : Nat) : Int) = (((q + j) / 64 : Nat) : Int) := IntWalk.i64_in _ (by omega)
            have hin := inT_succ64 q j K
            have HIN := hid hin
            clear hin i0
            generalize inT q j 64 K = bt at *
            generalize hQ : (q + j) / 64 = Q at *
            generalize hKK : q + j = KK at *
            have HKK := hid hKK
            clear hKK hQ
            cases bt
            · by_cases hc : Q = K
              · subst hc
                go_wp2
                go_roundw
                case rel => have hK := HKK.out; exact ⟨j + 1, by omega, by go_num, by rw [HIN.out]; simp, trivial⟩
                case measure => have hK := HKK.out; simp [intOf]; omega
              · have hcb : ((Q : Int) == (K : Int)) = false := by simp; omega
                have HC := hid hc
                clear hc
                go_wp2
                go_roundw
                case rel => have hK := HKK.out; exact ⟨j + 1, by omega, by go_num, by rw [HIN.out, show (Q == K) = false from by simpa using HC.out]; rfl, trivial⟩
                case measure => have hK := HKK.out; simp [intOf]; omega
            · go_wp2
              go_roundw
              case rel => have hK := HKK.out; exact ⟨j + 1, by omega, by go_num, by rw [HIN.out]; rfl, trivial⟩
              case measure => have hK := HKK.out; simp [intOf]; omega
          · obtain rfl : j = n0 := by omega
            have HDT := hid (dirtyR_any HM.out k (by show k < (flT _ _).length; rw [flT_len]; exact hkl))
            clear i0
            have hset := flT_set M (fun i => decide (i < k) && inT q j 64 (i / 8)) k
            have hnot := flT_not M (fun i => decide (i < k) && inT q j 64 (i / 8)) k
            have hcon : inT q j 64 K = true → ∀ i, (decide (i < k + 1) && inT q j 64 (i / 8)) = ((decide (i < k) && inT q j 64 (i / 8)) || i == k) := by
              intro hin i
              by_cases e : i = k
              · subst e; rw [HK8.out, hin]; simp
              · rw [show (i == k) = false from by simpa using e, show decide (i < k + 1) = decide (i < k) from by rw [decide_eq_decide]; omega, Bool.or_false]
            have hcof : inT q j 64 K = false → ∀ i, (decide (i < k + 1) && inT q j 64 (i / 8)) = (decide (i < k) && inT q j 64 (i / 8)) := by
              intro hin i
              by_cases e : i = k
              · subst e; rw [HK8.out, hin]; simp
              · rw [show decide (i < k + 1) = decide (i < k) from by rw [decide_eq_decide]; omega]
            have HSET := hid hset; have HNOT := hid hnot; have HCT := hid hcon; have HCF := hid hcof
            clear hset hnot hcon hcof
            generalize hb : inT q j 64 K = bt at *
            cases bt
            · go_wp2
              go_roundw
              case rel =>
                refine ⟨k + 1, by omega, by go_num, ?_, HT.out⟩
                rw [flT_congr (f' := fun i => decide (i < k) && inT q j 64 (i / 8)) (fun i _ => HCF.out rfl i)]
                exact HM.out
              case measure => simp [intOf]; omega
            · by_cases hd : dirtyB M.V M.D k = true
              · have hD2 := HDT.out
                rw [show dirtyB (⟨M.V, M.D, flT M fun i => decide (i < k) && inT q j 64 (i / 8)⟩ : MemM).V (⟨M.V, M.D, flT M fun i => decide (i < k) && inT q j 64 (i / 8)⟩ : MemM).D k = true from hd] at hD2
                have HD2 := hid hD2
                have HDD := hid hd
                clear hD2 HDT hd
                go_wp2_with (first
                  | (go_at_call 93; refine HD2.out.mono ?_; rintro e w2 ⟨rfl, b2⟩; have B2 := hid b2; have M2 := hid (HM.out.mono b2); have p2 := M2.out.cells.2.2; simp only [flT_len] at p2; have pa := blk_bool M2.out.2.2.2.2.2 (k := k) (by show k < (flT _ _).length; rw [flT_len]; exact hkl); have pf := M2.out.2.2.2.2.2.frozen k; clear b2))
                go_roundw
                case rel =>
                  have t1 : Turns (fun b => b = a) w2 (w2.setCell ⟨a, k, none⟩ (.bool true)) := (Turns.refl (fun b => b = a) w2).setCell (p := ⟨a, k, none⟩) rfl _
                  refine ⟨k + 1, by omega, by go_num, ?_, (HT.out.trans (Turns.of_below B2.out)).trans t1⟩
                  have hA := M2.out.2.2.2.2.2.set k (.bool true)
                  rw [← List.map_set, HSET.out HDD.out] at hA
                  rw [flT_congr (f' := fun i => (decide (i < k) && inT q j 64 (i / 8)) || i == k) (fun i _ => HCT.out trivial i)]
                  exact M2.out.setD (t1.mono (fun _ q => .inr q)) (t1.blk M2.out.2.2.2.2.1 ap3.symm) hA rfl (by simp [flT_len])
                case measure => simp [intOf]; omega
              · have hd' : dirtyB M.V M.D k = false := by simpa using hd
                have hD2 := HDT.out
                rw [show dirtyB (⟨M.V, M.D, flT M fun i => decide (i < k) && inT q j 64 (i / 8)⟩ : MemM).V (⟨M.V, M.D, flT M fun i => decide (i < k) && inT q j 64 (i / 8)⟩ : MemM).D k = false from hd'] at hD2
                have HD2 := hid hD2
                have HDD := hid hd'
                clear hD2 HDT hd hd'
                go_wp2_with (first
                  | (go_at_call 93; refine HD2.out.mono ?_; rintro e w2 ⟨rfl, b2⟩; have B2 := hid b2; have M2 := hid (HM.out.mono b2); clear b2))
                go_roundw
                case rel =>
                  refine ⟨k + 1, by omega, by go_num, ?_, HT.out.trans (Turns.of_below B2.out)⟩
                  rw [flT_congr (f' := fun i => (decide (i < k) && inT q j 64 (i / 8)) || i == k) (fun i _ => HCT.out trivial i), ← HNOT.out HDD.out]
                  exact M2.out
                case measure => simp [intOf]; omega
      · obtain rfl : k = M.A.length := by omega
        rw [flT_congr (f' := fun i => inT q n0 64 (i / 8)) (fun i hi => by simp [hi])] at hm
        have HM := hid hm; have HT := hid ht
        clear hm ht
        go_wp2
        go_ret
        exact ⟨rfl, HM.out, HT.out⟩
  · have hE : FlushR g v d a M at_ n w = fun e w' => e = .returned (.int .i64 1) ∧ w = w' := by
      funext e w'; unfold FlushR; rw [if_neg hi]
    rw [hE]
    rw [show inM M at_ n = false by simpa using hi] at HW
    clear hE hi h
    go_enter Tryd.func80, Tryd.ntmps80
    go_wp2_with (first | (go_at_call 92; refine HW.out.mono ?_; rintro e w1 ⟨rfl, rfl⟩))
    go_ret
    exact ⟨rfl, rfl⟩

/-! ### a crash -/
theorem splice_stepD (V X : List UInt8) (j : Nat) (hX : j < X.length) (hV : X.length = V.length) :
    ((splice V 0 (X.take j)).map byteV).set j (.int .u8 (bAt X j : Int)) = (splice V 0 (X.take (j + 1))).map byteV := by
  have := splice_stepB V X 0 j hX (by omega)
  rwa [Nat.zero_add] at this
