/- The document's memory: lines flushed, a crash. -/
import Derived.Test.YtcackliabemecaaGreatDoorPmS
namespace Go.Proofs.YtcackliabemecaaGreatDoor
open Go.RowKit
set_option linter.unusedSimpArgs false
set_option linter.unusedVariables false
set_option maxRecDepth 100000

theorem inT_succ64 (q j i : Nat) : inT q (j + 1) 64 i = (inT q j 64 i || (q + j) / 64 == i) := by
  rw [Bool.eq_iff_iff]
  simp only [inT, decide_eq_true_eq, Bool.or_eq_true, beq_iff_eq]
  omega
theorem flushM_flT' (M : MemM) (at_ n : Nat) : flushM M at_ n = ⟨M.V, M.D, flT M fun k => inT at_ n 64 (k / 8)⟩ := rfl

/-- what Flush does -/
def FlushR (g v d a : Nat) (M : MemM) (at_ n : Int) (w : World) (e : Ending) (w' : World) : Prop :=
  if inM M at_ n = true then e = .returned (.int .i64 0) ∧ MemR w' g v d a (flushM M at_.toNat n.toNat) ∧ Turns (fun k => k = a) w w' else e = .returned (.int .i64 1) ∧ w = w'

set_option maxHeartbeats 4000000 in
theorem flushR_any {w : World} {g v d a : Nat} {M : MemM} (h : MemR w g v d a M) (at_ n : Int) (ha : -9223372036854775808 ≤ at_ ∧ at_ ≤ 9223372036854775807) (hn : -9223372036854775808 ≤ n ∧ n ≤ 9223372036854775807) :
    Calls Tryz.prog 55 #[.pointer (some ⟨g, 0, none⟩), .int .i64 at_, .int .i64 n] w (FlushR g v d a M at_ n w) := by
  have HW := hid (withinR_any h at_ n ha hn)
  by_cases hi : inM M at_ n = true
  · have hE : FlushR g v d a M at_ n w = fun e w' => e = .returned (.int .i64 0) ∧ MemR w' g v d a (flushM M at_.toNat n.toNat) ∧ Turns (fun k => k = a) w w' := by
      funext e w'; unfold FlushR; rw [if_pos hi]
    rw [hE]
    rw [hi] at HW
    clear hE
    obtain ⟨q, n0, rfl, rfl, hl⟩ := inM_true hi
    rw [show ((q : Int)).toNat = q from rfl, show ((n0 : Int)).toNat = n0 from rfl, flushM_flT']
    obtain ⟨av, ag1, ag2, ap1, ap2, ap3, gl, vl, dl, al⟩ := ref_apart h
    have hVl := h.1.2.2.2.2
    have hAl := h.1.2.1
    have H := hid h
    have e1 : IntKind.i64.wrap ((q : Int) + n0) = (q : Int) + n0 := IntWalk.i64_in _ (by omega)
    clear h hi ha hn
    go_enter Tryz.func55, Tryz.ntmps55
    go_wp2_with (first | (go_at_call 36; refine HW.out.mono ?_; rintro e w1 ⟨rfl, rfl⟩))
    go_loopw [8, 9, 10] (fun i _ _ wr => ∃ k : Nat, k ≤ M.A.length ∧ i = .int .i64 k ∧ MemR wr g v d a ⟨M.V, M.D, flT M fun i => decide (i < k) && inT q n0 64 (i / 8)⟩ ∧ Turns (fun k => k = a) w wr) (fun i _ _ _ => M.A.length - (intOf i).toNat)
    case atStart =>
      refine ⟨0, by omega, rfl, ?_, Turns.refl _ _⟩
      rw [flT_congr (f' := fun _ => false) (fun k _ => by simp), flT_none]
      exact H.out
    case round =>
      obtain ⟨k, hk, rfl, hm, ht⟩ := hrel
      obtain ⟨c0, c1, c2⟩ := hm.cells
      simp only [flT_len] at c2
      by_cases hkl : k < M.A.length
      · have i1 : (k : Int) < (M.A.length : Int) := by omega
        have e2 : IntKind.i64.wrap ((k : Int) + 1) = (k : Int) + 1 := IntWalk.i64_in _ (by omega)
        have e3 : (k : Int).tdiv 8 = ((k / 8 : Nat) : Int) := rfl
        have e4 : IntKind.i64.wrap ((k / 8 : Nat) : Int) = ((k / 8 : Nat) : Int) := IntWalk.i64_in _ (by omega)
        have HM := hid hm; have HT := hid ht
        clear hm ht
        generalize hk8 : k / 8 = K at *
        have HK8 := hid hk8
        clear hk8
        go_wp2
        obtain ⟨wo, hwo⟩ : ∃ x, x = wr := ⟨_, rfl⟩
        subst hwo
        go_loopw [9, 10] (fun b i wr => ∃ j : Nat, j ≤ n0 ∧ i = .int .i64 (q + j : Nat) ∧ b = .bool (inT q j 64 K) ∧ wr = wo) (fun _ i _ => q + n0 - (intOf i).toNat)
        case atStart => exact ⟨0, by omega, rfl, rfl, rfl⟩
        case round =>
          obtain ⟨j, hj, rfl, rfl, rfl⟩ := hrel
          have i0 : ((q + j : Nat) : Int) = (q : Int) + j := by omega
          by_cases hjn : j < n0
          · have i3 : ((q + j : Nat) : Int) < (q : Int) + n0 := by omega
            have e5 : IntKind.i64.wrap (((q + j : Nat) : Int) + 1) = ((q + j : Nat) : Int) + 1 := IntWalk.i64_in _ (by omega)
            have e6 : ((q + j : Nat) : Int).tdiv 64 = (((q + j) / 64 : Nat) : Int) := rfl
            have e7 : IntKind.i64.wrap (((q + j) / 64 : Nat) : Int) = (((q + j) / 64 : Nat) : Int) := IntWalk.i64_in _ (by omega)
            have hin := inT_succ64 q j K
            have HIN := hid hin
            clear hin i0
            generalize inT q j 64 K = bt at *
            generalize hQ : (q + j) / 64 = Q at *
            generalize hKK : q + j = KK at *
            have HKK := hid hKK
            clear hKK hQ
            cases bt
            · by_cases hc : Q = K
              · subst hc
                go_wp2
                go_roundw
                case rel => have hK := HKK.out; exact ⟨j + 1, by omega, by go_num, by rw [HIN.out]; simp, trivial⟩
                case measure => have hK := HKK.out; simp [intOf]; omega
              · have hcb : ((Q : Int) == (K : Int)) = false := by simp; omega
                have HC := hid hc
                clear hc
                go_wp2
                go_roundw
                case rel => have hK := HKK.out; exact ⟨j + 1, by omega, by go_num, by rw [HIN.out, show (Q == K) = false from by simpa using HC.out]; rfl, trivial⟩
                case measure => have hK := HKK.out; simp [intOf]; omega
            · go_wp2
              go_roundw
              case rel => have hK := HKK.out; exact ⟨j + 1, by omega, by go_num, by rw [HIN.out]; rfl, trivial⟩
              case measure => have hK := HKK.out; simp [intOf]; omega
          · obtain rfl : j = n0 := by omega
            have HDT := hid (dirtyR_any HM.out k (by show k < (flT _ _).length; rw [flT_len]; exact hkl))
            clear i0
            have hset := flT_set M (fun i => decide (i < k) && inT q j 64 (i / 8)) k
            have hnot := flT_not M (fun i => decide (i < k) && inT q j 64 (i / 8)) k
            have hcon : inT q j 64 K = true → ∀ i, (decide (i < k + 1) && inT q j 64 (i / 8)) = ((decide (i < k) && inT q j 64 (i / 8)) || i == k) := by
              intro hin i
              by_cases e : i = k
              · subst e; rw [HK8.out, hin]; simp
              · rw [show (i == k) = false from by simpa using e, show decide (i < k + 1) = decide (i < k) from by rw [decide_eq_decide]; omega, Bool.or_false]
            have hcof : inT q j 64 K = false → ∀ i, (decide (i < k + 1) && inT q j 64 (i / 8)) = (decide (i < k) && inT q j 64 (i / 8)) := by
              intro hin i
              by_cases e : i = k
              · subst e; rw [HK8.out, hin]; simp
              · rw [show decide (i < k + 1) = decide (i < k) from by rw [decide_eq_decide]; omega]
            have HSET := hid hset; have HNOT := hid hnot; have HCT := hid hcon; have HCF := hid hcof
            clear hset hnot hcon hcof
            generalize hb : inT q j 64 K = bt at *
            cases bt
            · go_wp2
              go_roundw
              case rel =>
                refine ⟨k + 1, by omega, by go_num, ?_, HT.out⟩
                rw [flT_congr (f' := fun i => decide (i < k) && inT q j 64 (i / 8)) (fun i _ => HCF.out rfl i)]
                exact HM.out
              case measure => simp [intOf]; omega
            · by_cases hd : dirtyB M.V M.D k = true
              · have hD2 := HDT.out
                rw [show dirtyB (⟨M.V, M.D, flT M fun i => decide (i < k) && inT q j 64 (i / 8)⟩ : MemM).V (⟨M.V, M.D, flT M fun i => decide (i < k) && inT q j 64 (i / 8)⟩ : MemM).D k = true from hd] at hD2
                have HD2 := hid hD2
                have HDD := hid hd
                clear hD2 HDT hd
                go_wp2_with (first
                  | (go_at_call 59; refine HD2.out.mono ?_; rintro e w2 ⟨rfl, b2⟩; have B2 := hid b2; have M2 := hid (HM.out.mono b2); have p2 := M2.out.cells.2.2; simp only [flT_len] at p2; have pa := blk_bool M2.out.2.2.2.2.2 (k := k) (by show k < (flT _ _).length; rw [flT_len]; exact hkl); have pf := M2.out.2.2.2.2.2.frozen k; clear b2))
                go_roundw
                case rel =>
                  have t1 : Turns (fun b => b = a) w2 (w2.setCell ⟨a, k, none⟩ (.bool true)) := (Turns.refl (fun b => b = a) w2).setCell (p := ⟨a, k, none⟩) rfl _
                  refine ⟨k + 1, by omega, by go_num, ?_, (HT.out.trans (Turns.of_below B2.out)).trans t1⟩
                  have hA := M2.out.2.2.2.2.2.set k (.bool true)
                  rw [← List.map_set, HSET.out HDD.out] at hA
                  rw [flT_congr (f' := fun i => (decide (i < k) && inT q j 64 (i / 8)) || i == k) (fun i _ => HCT.out trivial i)]
                  exact M2.out.setD (t1.mono (fun _ q => .inr q)) (t1.blk M2.out.2.2.2.2.1 ap3.symm) hA rfl (by simp [flT_len])
                case measure => simp [intOf]; omega
              · have hd' : dirtyB M.V M.D k = false := by simpa using hd
                have hD2 := HDT.out
                rw [show dirtyB (⟨M.V, M.D, flT M fun i => decide (i < k) && inT q j 64 (i / 8)⟩ : MemM).V (⟨M.V, M.D, flT M fun i => decide (i < k) && inT q j 64 (i / 8)⟩ : MemM).D k = false from hd'] at hD2
                have HD2 := hid hD2
                have HDD := hid hd'
                clear hD2 HDT hd hd'
                go_wp2_with (first
                  | (go_at_call 59; refine HD2.out.mono ?_; rintro e w2 ⟨rfl, b2⟩; have B2 := hid b2; have M2 := hid (HM.out.mono b2); clear b2))
                go_roundw
                case rel =>
                  refine ⟨k + 1, by omega, by go_num, ?_, HT.out.trans (Turns.of_below B2.out)⟩
                  rw [flT_congr (f' := fun i => (decide (i < k) && inT q j 64 (i / 8)) || i == k) (fun i _ => HCT.out trivial i), ← HNOT.out HDD.out]
                  exact M2.out
                case measure => simp [intOf]; omega
      · obtain rfl : k = M.A.length := by omega
        rw [flT_congr (f' := fun i => inT q n0 64 (i / 8)) (fun i hi => by simp [hi])] at hm
        have HM := hid hm; have HT := hid ht
        clear hm ht
        go_wp2
        go_ret
        exact ⟨rfl, HM.out, HT.out⟩
  · have hE : FlushR g v d a M at_ n w = fun e w' => e = .returned (.int .i64 1) ∧ w = w' := by
      funext e w'; unfold FlushR; rw [if_neg hi]
    rw [hE]
    rw [show inM M at_ n = false by simpa using hi] at HW
    clear hE hi h
    go_enter Tryz.func55, Tryz.ntmps55
    go_wp2_with (first | (go_at_call 36; refine HW.out.mono ?_; rintro e w1 ⟨rfl, rfl⟩))
    go_ret
    exact ⟨rfl, rfl⟩

/-! ### a crash -/
theorem splice_stepD (V X : List UInt8) (j : Nat) (hX : j < X.length) (hV : X.length = V.length) :
    ((splice V 0 (X.take j)).map byteV).set j (.int .u8 (bAt X j : Int)) = (splice V 0 (X.take (j + 1))).map byteV := by
  have := splice_stepB V X 0 j hX (by omega)
  rwa [Nat.zero_add] at this

set_option maxHeartbeats 4000000 in
theorem crashR_any {w : World} {g v d a : Nat} {M : MemM} (h : MemR w g v d a M) (picks : List Int) (ap : Option Addr) (cp : Nat) (hr : RowI w ap cp picks) (hok : intsOk picks) (hs : 0 < picks.length → ∀ b, (∃ off, ap = some ⟨b, off, none⟩) → b ≠ d ∧ b ≠ a) :
    Calls Tryz.prog 24 #[.pointer (some ⟨g, 0, none⟩), .slice ap picks.length cp] w fun e w' => (∃ x, e = .returned x) ∧ MemR w' g v d a (crashM M picks) ∧ Turns (fun b => b = v ∨ b = d ∨ b = a) w w' := by
  obtain ⟨av, ag1, ag2, ap1, ap2, ap3, gl, vl, dl, al⟩ := ref_apart h
  have HDA := hid (dirtyAllR_any h)
  have HH := hid h
  have HR := hid hr
  have hpl := rowI_len hr
  have hVl := h.1.2.2.2.2
  have hAl := h.1.2.1
  have hLlt : ∀ k ∈ dirtyL M, k < M.A.length := dirtyL_lt
  have hLlen : (dirtyL M).length ≤ 200000 := by
    have : (dirtyL M).length ≤ M.A.length := dirtyN_len M.V M.D M.A.length
    omega
  have hE : crashM M picks = ⟨mixF (selF (dirtyL M) picks (dirtyL M).length) M.V M.D, mixF (selF (dirtyL M) picks (dirtyL M).length) M.V M.D, tabF M.A.length fun _ => false⟩ := rfl
  rw [hE]
  clear hE h hr
  generalize dirtyL M = L at *
  have HLT := hid hLlt
  clear hLlt
  go_enter Tryz.func24, Tryz.ntmps24
  go_wp2_with (go_at_call 42; refine HDA.out.mono ?_; rintro e w1 ⟨al', cl, rfl, ol, b1⟩; have OL := hid ol; have B1 := hid b1; clear ol b1)
  have M1 := hid (HH.out.mono B1.out)
  go_loopw [5, 6] (fun i _ wr => ∃ (j : Nat) (A' : List Bool), j ≤ L.length ∧ j ≤ picks.length ∧ i = .int .i64 j ∧ A'.length = M.A.length ∧ MemR wr g v d a ⟨M.V, mixF (selF L picks j) M.V M.D, A'⟩ ∧ Turns (fun b => b = d ∨ b = a) w1 wr) (fun i _ _ => L.length - (intOf i).toNat)
  case atStart =>
    refine ⟨0, M.A, by omega, by omega, rfl, rfl, ?_, Turns.refl _ _⟩
    rw [mixF_congr (g := fun _ => false) (fun k _ => selF_zero _ _ _), mixF_none]
    exact M1.out
  case round =>
    obtain ⟨j, A', hj, hj2, rfl, hA', hm, ht⟩ := hrel
    obtain ⟨k0, k1, k2⟩ := hm.cells
    simp only [hA'] at k2
    by_cases hlt : j < L.length ∧ j < picks.length
    · obtain ⟨hlt, hp⟩ := hlt
      obtain ⟨bl, rfl, hbl, cl0⟩ := own_natAt (ht.own OL.out (fun k q => by omega)) hlt
      have hLm : L.getD j 0 ∈ L := by simp [hlt]
      have hq := HLT.out _ hLm
      have HP := hid (keepR_any hm (L.getD j 0) (by show _ < A'.length; rw [hA']; exact hq))
      have hsel := selF_succ L picks j
      have HSE := hid hsel
      have i1 : (j : Int) < (L.length : Int) := by omega
      have i2 : IntKind.i64.wrap ((j : Int) + 1) = (j : Int) + 1 := IntWalk.i64_in _ (by omega)
      have rp : RowI wr ap cp picks := ht.row (HR.out.mono B1.out) (fun hn k hk => by have := hs hn k hk; omega)
      obtain ⟨bp, op, rfl, hbp, cp0⟩ := rowI_cells rp (by omega)
      have cpj := cp0 j hp
      have hO := hok (picks.getD j 0) (by simp [hp])
      have hPB : pickB picks j = oddP (picks.getD j 0) := by unfold pickB; rw [decide_eq_true hp]; simp
      have i3 : (j : Int) < (picks.length : Int) := by omega
      have HM := hid hm; have HT := hid ht; have HA' := hid hA'
      clear hm ht hsel hLm rp cp0 hA'
      generalize hx : L.getD j 0 = x at *
      generalize picks.getD j 0 = y at *
      have hfin : ∀ (w2 : World) (odd : Bool), oddP y = odd → (odd = true → ∃ A'', A''.length = M.A.length ∧ MemR w2 g v d a ⟨M.V, mixF (fun i => i == x) M.V (mixF (selF L picks j) M.V M.D), A''⟩) → (odd = false → w2 = wr) → ∃ A'', A''.length = M.A.length ∧ MemR w2 g v d a ⟨M.V, mixF (selF L picks (j + 1)) M.V M.D, A''⟩ := by
        intro w2 odd ho h1 h2
        cases odd
        · rw [h2 rfl]
          refine ⟨A', HA'.out, ?_⟩
          rw [mixF_congr (g := selF L picks j) (fun i _ => by rw [HSE.out, hPB, ho]; simp)]
          exact HM.out
        · obtain ⟨A'', q1, q2⟩ := h1 rfl
          refine ⟨A'', q1, ?_⟩
          rw [mixF_setA] at q2
          rw [mixF_congr (g := fun i => selF L picks j i || i == x) (fun i _ => by rw [HSE.out, hPB, ho, Bool.and_true, show (x == i) = (i == x) from BEq.comm])]
          exact q2
      have HF := hid hfin
      clear hfin hPB hx
      by_cases hneg : y < 0
      · have e1 : IntKind.i64.wrap (y + 1) = y + 1 := IntWalk.i64_in _ (by omega)
        have e2 : IntKind.i64.wrap (-(y + 1)) = -(y + 1) := IntWalk.i64_in _ (by omega)
        have hod : oddP y = decide (-(y + 1) % 2 = 1) := by unfold oddP; rw [if_pos hneg]
        have e3 : -((y + 1).tmod 2) = -(y + 1) % 2 := by rw [← Int.neg_tmod]; exact Int.tmod_eq_emod_of_nonneg (by omega)
        have hb : 0 ≤ -(y + 1) % 2 ∧ -(y + 1) % 2 < 2 := by omega
        have dk : decide (y < 0) = true := decide_eq_true hneg
        by_cases ho : -(y + 1) % 2 = 1
        · have e4 : ((-((y + 1).tmod 2)) == 1) = true := by rw [e3, ho]; rfl
          have e5 : IntKind.i64.wrap (-((y + 1).tmod 2)) = -((y + 1).tmod 2) := by rw [e3]; exact IntWalk.i64_in _ (by omega)
          have HOD := hid (show oddP y = true by rw [hod, decide_eq_true ho])
          clear hod e3 ho hb
          go_wp2_with (first
            | (go_at_call 43; refine HP.out.mono ?_; rintro e w2 ⟨⟨z, rfl⟩, m2, t2⟩; have M2 := hid m2; have T2 := hid t2; clear m2 t2))
          go_roundw
          case rel =>
            obtain ⟨A'', q1, q2⟩ := HF.out w2 true HOD.out (fun _ => ⟨_, by rw [List.length_set]; exact HA'.out, M2.out⟩) (fun q => by cases q)
            exact ⟨j + 1, A'', by omega, by omega, by go_num, q1, q2, HT.out.trans T2.out⟩
          case measure => simp [intOf]; omega
        · have e4 : ((-((y + 1).tmod 2)) == 1) = false := by rw [e3]; simpa using ho
          have e5 : IntKind.i64.wrap (-((y + 1).tmod 2)) = -((y + 1).tmod 2) := by rw [e3]; exact IntWalk.i64_in _ (by omega)
          have HOD := hid (show oddP y = false by rw [hod, decide_eq_false ho])
          clear hod e3 ho hb
          go_wp2
          go_roundw
          case rel =>
            obtain ⟨A'', q1, q2⟩ := HF.out wr false HOD.out (fun q => by cases q) (fun _ => rfl)
            exact ⟨j + 1, A'', by omega, by omega, by go_num, q1, q2, HT.out⟩
          case measure => simp [intOf]; omega
      · have hod : oddP y = decide (y % 2 = 1) := by unfold oddP; rw [if_neg hneg]
        have e3 : y.tmod 2 = y % 2 := Int.tmod_eq_emod_of_nonneg (by omega)
        have hb : 0 ≤ y % 2 ∧ y % 2 < 2 := by omega
        have dk : decide (y < 0) = false := decide_eq_false hneg
        generalize y % 2 = r at *
        by_cases ho : r = 1
        · subst ho
          have e5 : IntKind.i64.wrap 1 = 1 := rfl
          have HOD := hid (show oddP y = true by rw [hod]; rfl)
          clear hod hb
          go_wp2_with (first
            | (go_at_call 43; refine HP.out.mono ?_; rintro e w2 ⟨⟨z, rfl⟩, m2, t2⟩; have M2 := hid m2; have T2 := hid t2; clear m2 t2))
          go_roundw
          case rel =>
            obtain ⟨A'', q1, q2⟩ := HF.out w2 true HOD.out (fun _ => ⟨_, by rw [List.length_set]; exact HA'.out, M2.out⟩) (fun q => by cases q)
            exact ⟨j + 1, A'', by omega, by omega, by go_num, q1, q2, HT.out.trans T2.out⟩
          case measure => simp [intOf]; omega
        · have e4 : (r == 1) = false := by simpa using ho
          have e5 : IntKind.i64.wrap r = r := IntWalk.i64_in _ (by omega)
          have HOD := hid (show oddP y = false by rw [hod, decide_eq_false ho])
          clear hod ho hb
          go_wp2
          go_roundw
          case rel =>
            obtain ⟨A'', q1, q2⟩ := HF.out wr false HOD.out (fun q => by cases q) (fun _ => rfl)
            exact ⟨j + 1, A'', by omega, by omega, by go_num, q1, q2, HT.out⟩
          case measure => simp [intOf]; omega
    · have hX : mixF (selF L picks j) M.V M.D = mixF (selF L picks L.length) M.V M.D := by
        rcases (by omega : picks.length ≤ j ∨ j = L.length) with q | q
        · exact mixF_congr fun k _ => (selF_stop q _ hj k).symm
        · rw [q]
      rw [hX] at hm
      clear hX
      generalize hXX : mixF (selF L picks L.length) M.V M.D = X at *
      have HXX := hid hXX
      clear hXX
      have hXl : X.length = M.V.length := hm.1.1
      have HM := hid hm; have HT := hid ht; have HA' := hid hA'; have HXL := hid hXl
      have hst := fun i (hi : i < X.length) => splice_stepD M.V X i hi hXl
      have HST := hid hst
      have i2 : ((j : Int) < (L.length : Int)) ∨ ¬ ((j : Int) < (L.length : Int)) := Classical.em _
      have i4 : ((j : Int) < (L.length : Int)) → ¬ ((j : Int) < (picks.length : Int)) := by omega
      clear hm ht hA' hXl hst hlt
      rcases i2 with i1 | i1
      · have i3 := i4 i1
        clear i4
        obtain ⟨wo, hwo⟩ : ∃ x, x = wr := ⟨_, rfl⟩
        subst hwo
        go_wp2
        go_loopw [7] (fun i wz => ∃ t : Nat, t ≤ X.length ∧ i = .int .i64 t ∧ Blk wz v 5 ((splice M.V 0 (X.take t)).map byteV) ∧ Turns (fun b => b = v) wo wz) (fun i _ => X.length - (intOf i).toNat)
        case atStart => exact ⟨0, by omega, rfl, by simpa [splice] using HM.out.2.2.2.1, Turns.refl _ _⟩
        case round =>
          obtain ⟨t, ht, rfl, hv, htt⟩ := hrel
          have hg := htt.blk HM.out.2.2.1 ag1
          have hd := htt.blk HM.out.2.2.2.2.1 av.symm
          have z0 : wr.cell? ⟨g, 0, none⟩ = some (.slice (some ⟨v, 0, none⟩) M.V.length M.V.length) := hg.cell (i := 0) (by simp)
          have z1 : wr.cell? ⟨g, 1, none⟩ = some (.slice (some ⟨d, 0, none⟩) M.V.length M.V.length) := hg.cell (i := 1) (by simp)
          by_cases htl : t < X.length
          · have hxl := HXL.out
            have hlen : (splice M.V 0 (X.take t)).length = M.V.length := length_splice _ _ _ (by simp; omega)
            have cv := blk_byte hv (i := t) (by omega)
            have fv := hv.frozen t
            have cd := blk_byte hd (i := t) htl
            have j1 : (t : Int) < (M.V.length : Int) := by omega
            have j2 : t < M.V.length := by omega
            have j3 : IntKind.i64.wrap ((t : Int) + 1) = (t : Int) + 1 := IntWalk.i64_in _ (by omega)
            have hnew := hv.set t (.int .u8 (bAt X t : Int))
            rw [HST.out t htl] at hnew
            have HB := hid hnew; have HTT := hid htt
            clear hv hg hd htt hlen hnew hxl
            generalize bAt X t = x at *
            go_wp2_with fail
            go_region
            all_goals
              go_wp2
              go_roundw
              case rel => exact ⟨t + 1, by omega, by go_num, HB.out, (HTT.out.setCell (p := ⟨v, t, none⟩) rfl _).drew⟩
              case measure => simp [intOf]; omega
          · obtain rfl : t = X.length := by omega
            have j1 : ¬ ((X.length : Int) < (M.V.length : Int)) := by have := HXL.out; omega
            rw [List.take_length, splice_all HXL.out.symm] at hv
            have ha2 := htt.blk HM.out.2.2.2.2.2 ap2
            have HV := hid hv; have HG := hid hg; have HD := hid hd; have HTT := hid htt; have HA2 := hid ha2
            clear hv hg hd htt ha2 ht htl
            obtain ⟨w5, hw5⟩ : ∃ x, x = wr := ⟨_, rfl⟩
            subst hw5
            go_wp2
            go_loopw [8] (fun i wz => ∃ t : Nat, t ≤ M.A.length ∧ i = .int .i64 t ∧ Blk wz a 4 ((tabF M.A.length fun i => !decide (i < t) && A'.getD i false).map .bool) ∧ Turns (fun b => b = a) w5 wz) (fun i _ => M.A.length - (intOf i).toNat)
            case atStart =>
              refine ⟨0, by omega, rfl, ?_, Turns.refl _ _⟩
              rw [tabF_congr (g := fun k => A'.getD k false) (fun k _ => by simp), ← HA'.out, tabF_self]
              exact HA2.out
            case round =>
              obtain ⟨t, ht, rfl, ha, htt⟩ := hrel
              have hg := htt.blk HG.out ap1.symm
              have z2 : wr.cell? ⟨g, 2, none⟩ = some (.slice (some ⟨a, 0, none⟩) M.A.length M.A.length) := by
                have : wr.cell? ⟨g, 2, none⟩ = some (.slice (some ⟨a, 0, none⟩) A'.length A'.length) := hg.cell (i := 2) (by simp)
                rw [HA'.out] at this; exact this
              by_cases htl : t < M.A.length
              · have ca := blk_bool ha (k := t) (by rw [tabF_len]; exact htl)
                have fa := ha.frozen t
                have j1 : (t : Int) < (M.A.length : Int) := by omega
                have j3 : IntKind.i64.wrap ((t : Int) + 1) = (t : Int) + 1 := IntWalk.i64_in _ (by omega)
                have hnA := ha.set t (.bool false)
                rw [← List.map_set, tabF_set] at hnA
                have HB := hid hnA; have HT5 := hid htt
                clear ha hg htt hnA
                go_wp2
                go_roundw
                case rel =>
                  refine ⟨t + 1, by omega, by go_num, ?_, HT5.out.setCell (p := ⟨a, t, none⟩) rfl _⟩
                  rw [tabF_congr (g := fun i => if i = t then false else !decide (i < t) && A'.getD i false) (fun i _ => ?_)]
                  · exact HB.out
                  · by_cases e : i = t
                    · subst e; simp
                    · rw [if_neg e, show decide (i < t + 1) = decide (i < t) from by rw [decide_eq_decide]; omega]
                case measure => simp [intOf]; omega
              · obtain rfl : t = M.A.length := by omega
                rw [tabF_congr (g := fun _ => false) (fun i hi => by simp [hi])] at ha
                have HA5 := hid ha; have HT5 := hid htt; have HG5 := hid hg
                clear ha hg htt ht htl
                go_wp2
                go_end0
                obtain ⟨l1, l2, l3, l4, l5⟩ := HH.out.1
                have hx := HXL.out
                rw [HXX.out]
                refine ⟨⟨_, rfl⟩, ⟨⟨rfl, by show (tabF _ _).length * 8 = X.length; rw [tabF_len, hx]; exact l2, by show X.length % 64 = 0; rw [hx]; exact l3, by show 64 ≤ X.length; rw [hx]; exact l4, by show X.length ≤ 1048576; rw [hx]; exact l5⟩, av, ?_, HT5.out.blk HV.out ap2.symm, HT5.out.blk HD.out ap3.symm, HA5.out⟩,
                  (((Turns.of_below B1.out).trans (HT.out.mono (fun _ q => .inr q))).trans (HTT.out.mono (fun _ q => .inl q))).trans (HT5.out.mono (fun _ q => .inr (.inr q)))⟩
                have := HG5.out
                rw [HA'.out, ← hx] at this
                show Blk _ g _ [.slice (some ⟨v, 0, none⟩) X.length X.length, .slice (some ⟨d, 0, none⟩) X.length X.length, .slice (some ⟨a, 0, none⟩) (tabF _ _).length (tabF _ _).length]
                rw [tabF_len]
                exact this
      · clear i4
        obtain ⟨wo, hwo⟩ : ∃ x, x = wr := ⟨_, rfl⟩
        subst hwo
        go_wp2
        go_loopw [7] (fun i wz => ∃ t : Nat, t ≤ X.length ∧ i = .int .i64 t ∧ Blk wz v 5 ((splice M.V 0 (X.take t)).map byteV) ∧ Turns (fun b => b = v) wo wz) (fun i _ => X.length - (intOf i).toNat)
        case atStart => exact ⟨0, by omega, rfl, by simpa [splice] using HM.out.2.2.2.1, Turns.refl _ _⟩
        case round =>
          obtain ⟨t, ht, rfl, hv, htt⟩ := hrel
          have hg := htt.blk HM.out.2.2.1 ag1
          have hd := htt.blk HM.out.2.2.2.2.1 av.symm
          have z0 : wr.cell? ⟨g, 0, none⟩ = some (.slice (some ⟨v, 0, none⟩) M.V.length M.V.length) := hg.cell (i := 0) (by simp)
          have z1 : wr.cell? ⟨g, 1, none⟩ = some (.slice (some ⟨d, 0, none⟩) M.V.length M.V.length) := hg.cell (i := 1) (by simp)
          by_cases htl : t < X.length
          · have hxl := HXL.out
            have hlen : (splice M.V 0 (X.take t)).length = M.V.length := length_splice _ _ _ (by simp; omega)
            have cv := blk_byte hv (i := t) (by omega)
            have fv := hv.frozen t
            have cd := blk_byte hd (i := t) htl
            have j1 : (t : Int) < (M.V.length : Int) := by omega
            have j2 : t < M.V.length := by omega
            have j3 : IntKind.i64.wrap ((t : Int) + 1) = (t : Int) + 1 := IntWalk.i64_in _ (by omega)
            have hnew := hv.set t (.int .u8 (bAt X t : Int))
            rw [HST.out t htl] at hnew
            have HB := hid hnew; have HTT := hid htt
            clear hv hg hd htt hlen hnew hxl
            generalize bAt X t = x at *
            go_wp2_with fail
            go_region
            all_goals
              go_wp2
              go_roundw
              case rel => exact ⟨t + 1, by omega, by go_num, HB.out, (HTT.out.setCell (p := ⟨v, t, none⟩) rfl _).drew⟩
              case measure => simp [intOf]; omega
          · obtain rfl : t = X.length := by omega
            have j1 : ¬ ((X.length : Int) < (M.V.length : Int)) := by have := HXL.out; omega
            rw [List.take_length, splice_all HXL.out.symm] at hv
            have ha2 := htt.blk HM.out.2.2.2.2.2 ap2
            have HV := hid hv; have HG := hid hg; have HD := hid hd; have HTT := hid htt; have HA2 := hid ha2
            clear hv hg hd htt ha2 ht htl
            obtain ⟨w5, hw5⟩ : ∃ x, x = wr := ⟨_, rfl⟩
            subst hw5
            go_wp2
            go_loopw [8] (fun i wz => ∃ t : Nat, t ≤ M.A.length ∧ i = .int .i64 t ∧ Blk wz a 4 ((tabF M.A.length fun i => !decide (i < t) && A'.getD i false).map .bool) ∧ Turns (fun b => b = a) w5 wz) (fun i _ => M.A.length - (intOf i).toNat)
            case atStart =>
              refine ⟨0, by omega, rfl, ?_, Turns.refl _ _⟩
              rw [tabF_congr (g := fun k => A'.getD k false) (fun k _ => by simp), ← HA'.out, tabF_self]
              exact HA2.out
            case round =>
              obtain ⟨t, ht, rfl, ha, htt⟩ := hrel
              have hg := htt.blk HG.out ap1.symm
              have z2 : wr.cell? ⟨g, 2, none⟩ = some (.slice (some ⟨a, 0, none⟩) M.A.length M.A.length) := by
                have : wr.cell? ⟨g, 2, none⟩ = some (.slice (some ⟨a, 0, none⟩) A'.length A'.length) := hg.cell (i := 2) (by simp)
                rw [HA'.out] at this; exact this
              by_cases htl : t < M.A.length
              · have ca := blk_bool ha (k := t) (by rw [tabF_len]; exact htl)
                have fa := ha.frozen t
                have j1 : (t : Int) < (M.A.length : Int) := by omega
                have j3 : IntKind.i64.wrap ((t : Int) + 1) = (t : Int) + 1 := IntWalk.i64_in _ (by omega)
                have hnA := ha.set t (.bool false)
                rw [← List.map_set, tabF_set] at hnA
                have HB := hid hnA; have HT5 := hid htt
                clear ha hg htt hnA
                go_wp2
                go_roundw
                case rel =>
                  refine ⟨t + 1, by omega, by go_num, ?_, HT5.out.setCell (p := ⟨a, t, none⟩) rfl _⟩
                  rw [tabF_congr (g := fun i => if i = t then false else !decide (i < t) && A'.getD i false) (fun i _ => ?_)]
                  · exact HB.out
                  · by_cases e : i = t
                    · subst e; simp
                    · rw [if_neg e, show decide (i < t + 1) = decide (i < t) from by rw [decide_eq_decide]; omega]
                case measure => simp [intOf]; omega
              · obtain rfl : t = M.A.length := by omega
                rw [tabF_congr (g := fun _ => false) (fun i hi => by simp [hi])] at ha
                have HA5 := hid ha; have HT5 := hid htt; have HG5 := hid hg
                clear ha hg htt ht htl
                go_wp2
                go_end0
                obtain ⟨l1, l2, l3, l4, l5⟩ := HH.out.1
                have hx := HXL.out
                rw [HXX.out]
                refine ⟨⟨_, rfl⟩, ⟨⟨rfl, by show (tabF _ _).length * 8 = X.length; rw [tabF_len, hx]; exact l2, by show X.length % 64 = 0; rw [hx]; exact l3, by show 64 ≤ X.length; rw [hx]; exact l4, by show X.length ≤ 1048576; rw [hx]; exact l5⟩, av, ?_, HT5.out.blk HV.out ap2.symm, HT5.out.blk HD.out ap3.symm, HA5.out⟩,
                  (((Turns.of_below B1.out).trans (HT.out.mono (fun _ q => .inr q))).trans (HTT.out.mono (fun _ q => .inl q))).trans (HT5.out.mono (fun _ q => .inr (.inr q)))⟩
                have := HG5.out
                rw [HA'.out, ← hx] at this
                show Blk _ g _ [.slice (some ⟨v, 0, none⟩) X.length X.length, .slice (some ⟨d, 0, none⟩) X.length X.length, .slice (some ⟨a, 0, none⟩) (tabF _ _).length (tabF _ _).length]
                rw [tabF_len]
                exact this
end Go.Proofs.YtcackliabemecaaGreatDoor
