import Derived.Test.YtngfpndikjbioaaClogZj
namespace Go.Proofs.Ytngfpndikjbioaa
open Go.RowKit Go.WideShapes
set_option linter.unusedSimpArgs false
set_option linter.unusedVariables false

theorem recL_len_any (c i o : Int) (t : Bool) (s : ByteArray) : (recL c i t o s).length ≤ 300 := by
  by_cases hm : recMay c i t o s = true
  · exact recL_len_leZ hm
  · unfold recL; rw [if_neg hm]; simp
theorem Own.addr {w : World} {B : Nat} {e : TypeId} {sz n c : Nat} {a : Option Addr} {cs : List Value} (h : Own w B e sz a n c cs) (hn : 0 < n) : ∃ g, a = some ⟨g, 0, none⟩ := by
  obtain ⟨h0, h⟩ := h
  rcases h with ⟨hv, hz⟩ | ⟨g', cap, cur, hv, _⟩
  · omega
  · cases hv; exact ⟨g', rfl⟩

set_option maxHeartbeats 8000000 in
set_option maxRecDepth 100000 in
theorem ClogScans_walk (w : World) (a0 : Option Addr) (c0 : Nat) (L0 : List RecT) (h0 : RowR w a0 c0 L0) (a1 : Option Addr) (c1 : Nat) (xs1 : List UInt8) (h1 : RowB w a1 c1 xs1) (at_ : Int) (wat : (Lit.int .i64 at_).wf = true) (en : Int) (wen : (Lit.int .i64 en).wf = true) (ep : Int) (wep : (Lit.int .i64 ep).wf = true) (hd : Int) (whd : (Lit.int .i64 hd).wf = true) :
    Calls Try.prog 7 #[.slice a0 L0.length c0, .slice a1 xs1.length c1, .int .i64 at_, .int .i64 en, .int .i64 ep, .int .i64 hd] w fun e w' => e = .returned (.bool true) ∧ Below w.heap.size w w' := by
  have bat := i64_bd wat
  have ben := i64_bd wen
  have hl0 := rowR_len h0
  have hl1 := rowB_len h1
  have H0 := hid h0; have H1 := hid h1
  clear h0 h1 wat wen wep whd
  obtain ⟨A, hA9, hA⟩ : ∃ A : Nat, A ≤ 9223372036854775807 ∧ ((at_ < 0 ∧ -(at_ + 1) = (A : Int)) ∨ at_ = (A : Int)) := by
    rcases Int.lt_or_le at_ 0 with h | h
    · exact ⟨(-(at_ + 1)).toNat, by omega, .inl ⟨h, by omega⟩⟩
    · exact ⟨at_.toNat, by omega, .inr (by omega)⟩
  have hr1000 : A % 1000 < 1000 := Nat.mod_lt _ (by omega)
  have em1 : ((A : Nat) : Int).tmod 1000 = ((A % 1000 : Nat) : Int) := rfl
  generalize A % 1000 = r at *
  have ew1 : IntKind.i64.wrap (r : Int) = r := IntWalk.i64_in _ (by omega)
  have dpos : ∀ (hh : at_ = (A : Int)), decide ((A : Int) < 0) = false := fun _ => decide_eq_false (by omega)
  have dneg : ∀ (hh : at_ < 0), decide (at_ < 0) = true := fun hh => decide_eq_true hh
  have wneg : ∀ (hh : at_ < 0 ∧ -(at_ + 1) = (A : Int)), IntKind.i64.wrap (at_ + 1) = at_ + 1 ∧ IntKind.i64.wrap (-(at_ + 1)) = (A : Int) := fun hh => ⟨IntWalk.i64_in _ (by omega), by rw [← hh.2]; exact IntWalk.i64_in _ (by omega)⟩
  rcases hA with hA | rfl
  · have dn := dneg hA.1
    obtain ⟨wn1, wn2⟩ := wneg hA
    clear dpos dneg wneg hA bat
    go_enter Try.func7, Try.ntmps7
    go_wp2_with fail
    go_loopw [13, 14] (fun b i wr => ∃ (k m cc : Nat) (a : Option Addr) (bs : List UInt8), k ≤ 12 ∧ k ≤ L0.length ∧ i = .int .i64 k ∧ b = .slice a m cc ∧ bs.length = m ∧ m ≤ 300 * k ∧ Own wr w.heap.size 5 1 a m cc (bs.map byteV) ∧ Below w.heap.size w wr) (fun _ i _ => 12 - (intOf i).toNat)
    case atStart => exact ⟨0, 0, 0, none, [], by omega, by omega, rfl, rfl, rfl, by omega, Own.nil _ _ _ _, Below.refl _ _⟩
    case round =>
    obtain ⟨k, m, cc, a, bs, hk12, hkl, rfl, rfl, hbs, hm, ob, hbel⟩ := hrel
    have HBS := hid hbs
    clear hbs
    by_cases hk : k < L0.length ∧ k < 12
    · obtain ⟨ba, oa, rfl, hba, hca⟩ := rowR_cells (H0.out.mono hbel) (by omega)
      have ca := hca k hk.1
      clear hca
      generalize L0.getD k rec0 = rr at *
      obtain ⟨rc, ri, rt, ro, rs⟩ := rr
      have q0 := ca 0 _ rfl; have q1 := ca 1 _ rfl; have q2 := ca 2 _ rfl; have q3 := ca 3 _ rfl; have q4 := ca 4 _ rfl
      simp only [Nat.add_zero] at q0
      clear ca
      have HC := fun w1 => cut_any rc ri rt ro rs w1
      have HE := fun s' w1 => encRef_any rc ri rt ro s' w1
      have HL := hid (fun s' => recL_len_any rc ri ro rt s')
      unfold recV at HC HE
      have HC := hid HC; have HE := hid HE
      have dk1 : decide ((k : Int) < (L0.length : Int)) = true := decide_eq_true (by omega)
      have dk1' : decide (k < L0.length) = true := decide_eq_true hk.1
      have dk2 : decide ((k : Int) < 12) = true := decide_eq_true (by omega)
      have dk2' : decide (k < 12) = true := decide_eq_true hk.2
      have ik : (k : Int) < (L0.length : Int) := by omega
      have t1 : True := trivial
      have OB := hid ob; have HB := hid hbel
      clear ob hbel
      go_wp2_with (first
        | (go_at_call 9; refine (HC.out _).mono ?_; rintro e w4 ⟨⟨s', rfl⟩, b4⟩; have R4 := hid b4; have L4 := hid (HL.out s'); clear b4)
        | (go_at_call 11; refine (HE.out s' _).mono ?_; rintro e w5 ⟨a5, c5, rfl, o5, b5⟩; have R5 := hid b5; have O5 := hid o5; clear b5 o5; (generalize recL rc ri rt ro s' = X at *); generalize (if recMay rc ri rt ro s' = true then (0 : Int) else 1) = ee at *)
        | (at_builtin; have _t := t1; have ob' := (OB.out.mono R4.out).mono R5.out; have hl4 := L4.out; have hB5 := (kept_trans (kept_trans HB.out R4.out) R5.out); refine wpl_append rfl (.tmp 46) (.tmp 47) rfl E8 w.heap.size rfl rfl ob' (O5.out.row) (byteV_one X) (by omega) (by omega) hB5.size ?_; clear t1; intro a6 c6 w6 o6 g6 b6; have O6 := hid o6; have B6 := hid (below_trans hB5 b6 (Nat.le_refl _)); clear o6 g6 b6 ob' hB5))
      go_roundw
      case rel => exact ⟨k + 1, m + X.length, c6, a6, bs ++ X, by omega, by omega, by go_num, rfl, by rw [List.length_append, HBS.out], by have := L4.out; omega, by rw [List.map_append]; exact O6.out, B6.out⟩
      case measure => simp [intOf]; omega
    · have HL3 := hid hm
      have OB := hid ob; have HB := hid hbel
      clear ob hbel
      have HLg := fun w1 r1 => log16_any en a cc bs w1 r1 ben.2
      rw [HBS.out] at HLg
      have HZL := logF_len en bs ben.2
      unfold RetB at HLg
      rw [HZL] at HLg
      have HLg := hid HLg; have HZL := hid HZL
      have ROB : RowB wr a cc bs := by have := OB.out.row; unfold RowB; rw [HBS.out]; exact this
      have ROB := hid ROB
      generalize logF en bs = zs0 at *
      rcases (by omega : ¬ k < L0.length ∨ (k < L0.length ∧ k = 12)) with h | ⟨h, rfl⟩
      · have dk1 : decide ((k : Int) < (L0.length : Int)) = false := decide_eq_false (by omega)
        have dk1' : decide (k < L0.length) = false := decide_eq_false h
        clear hk
        go_wp2_with fail
        refine (HLg.out wr ROB.out).mono ?_
        rintro e w2 ⟨p, pc, rfl, oz, b2⟩
        obtain ⟨g, rfl⟩ := Own.addr (show Own w2 wr.heap.size 5 1 p zs0.length pc (zs0.map byteV) from oz) (by rw [HZL.out]; omega)
        have OZ : Own w2 w.heap.size 5 1 (some ⟨g, 0, none⟩) 1024 pc (zs0.map byteV) := by have q := Own.low (show Own w2 wr.heap.size 5 1 (some ⟨g, 0, none⟩) zs0.length pc (zs0.map byteV) from oz) HB.out.size; rw [HZL.out] at q; exact q
        have B2 := kept_trans HB.out b2
        clear oz b2 HLg
        go_wp2_with fail
        go_loopw [18] (fun i wr => ∃ (k : Nat) (zs : List UInt8), k ≤ 30 ∧ k ≤ xs1.length ∧ i = .int .i64 k ∧ zs.length = 1024 ∧ Own wr w.heap.size 5 1 (some ⟨g, 0, none⟩) 1024 pc (zs.map byteV) ∧ Below w.heap.size w wr) (fun i _ => 30 - (intOf i).toNat)
        case atStart => exact ⟨0, zs0, by omega, by omega, rfl, HZL.out, OZ, B2⟩
        case round =>
        obtain ⟨j, zs, hj30, hjl, rfl, hzl, oz, bz⟩ := hrel
        have HZ1 := hid hzl
        by_cases hj : j < xs1.length ∧ j < 30
        · obtain ⟨bo, oo, rfl, hbo, hoc⟩ := (H1.out.mono bz).bytes (by omega)
          have co := hoc j hj.1
          clear hoc
          rw [show bAt xs1 j = (xs1.getD j 0).toNat from rfl] at co
          generalize xs1.getD j 0 = byt at *
          have hs : (r + j) % 1016 < 1016 := Nat.mod_lt _ (by omega)
          have em2 : ((r : Int) + (j : Int)).tmod 1016 = (((r + j) % 1016 : Nat) : Int) := by rw [show (r : Int) + (j : Int) = ((r + j : Nat) : Int) by omega]; rfl
          have ew2 : IntKind.i64.wrap ((r : Int) + (j : Int)) = (r : Int) + j := IntWalk.i64_in _ (by omega)
          generalize (r + j) % 1016 = s at *
          have ew3 : IntKind.i64.wrap (s : Int) = s := IntWalk.i64_in _ (by omega)
          have ew4 : IntKind.i64.wrap (8 + (s : Int)) = 8 + s := IntWalk.i64_in _ (by omega)
          obtain ⟨LL, kb, hll, hBg, htk, hnc, hcm⟩ := Own.blk oz
          obtain ⟨v0, hv0⟩ := kb.someCell (i := 8 + s) (by omega)
          have hfz := kb.frozen (8 + s)
          have ei : ((8 : Int) + (s : Int)).toNat = 8 + s := by omega
          have ij : (j : Int) < (xs1.length : Int) := by omega
          have is1 : (8 : Int) + (s : Int) < 1024 := by omega
          have is0 : 0 ≤ (8 : Int) + (s : Int) := by omega
          have dj1 : decide ((j : Int) < (xs1.length : Int)) = true := decide_eq_true (by omega)
          have dj1' : decide (j < xs1.length) = true := decide_eq_true hj.1
          have dj2 : decide ((j : Int) < 30) = true := decide_eq_true (by omega)
          have dj2' : decide (j < 30) = true := decide_eq_true hj.2
          have OS := hid (oz.set1 (8 + s) (byteV byt) (by omega))
          have BS := hid (bz.setCell (p := ⟨g, 8 + s, none⟩) hBg (byteV byt))
          clear kb htk oz bz
          go_wp2_with fail
          go_roundw
          case rel => exact ⟨j + 1, zs.set (8 + s) byt, by omega, by omega, by go_num, by rw [List.length_set]; exact HZ1.out, by rw [List.map_set]; exact OS.out, BS.out⟩
          case measure => simp [intOf]; omega
        · have rz : RowB wr (some ⟨g, 0, none⟩) pc zs := by have q := oz.row; unfold RowB; rw [hzl]; exact q
          have hpc : 1024 ≤ pc := by have := rz.2.1; omega
          have hpc63 : pc ≤ 9223372036854775807 := by have h2 := rz.2.2.1; unfold maxLen at h2; omega
          have r1z : RowB wr (some ⟨g, 1, none⟩) (pc - 1) (zs.drop 1) := by
            have q := rowB_sub rz 1 1023 (by omega)
            rw [List.take_of_length_le (by simp; omega)] at q
            exact q
          have S1 := scan_any (some ⟨g, 0, none⟩) pc zs ep hd wr rz
          have S2 := fun w1 r => scanRef_any (some ⟨g, 0, none⟩) pc zs ep hd w1 r
          have S5 := fun w1 r => scan_any (some ⟨g, 1, none⟩) (pc - 1) (zs.drop 1) ep hd w1 r
          have hz1 : (zs.drop 1).length = 1023 := by simp; omega
          have hF5 : scanF (zs.drop 1) ep hd = [] := by unfold scanF; rw [if_neg (fun hh => by have := hh.1; omega)]
          rw [hzl] at S1 S2
          rw [hz1, hF5] at S5
          have RZ := hid rz; have R1Z := hid r1z; have BZ := hid bz
          have hpc1 : ¬ pc = 1 := by omega
          clear rz r1z bz oz hz1 hF5
          generalize zs.drop 1 = zs1 at *
          generalize scanF zs ep hd = F at *
          have S1 := hid S1; have S2 := hid S2; have S5 := hid S5
          rcases (by omega : ¬ j < xs1.length ∨ (j < xs1.length ∧ j = 30)) with h | ⟨h, rfl⟩
          · have dj1 : decide ((j : Int) < (xs1.length : Int)) = false := decide_eq_false (by omega)
            have dj1' : decide (j < xs1.length) = false := decide_eq_false h
            clear hj
            go_wp2_with fail
            refine (S1.out).mono ?_
            rintro e w3 ⟨p1, d1, p2, d2, rfl, r1, r2, b3⟩
            go_wp2_with fail
            refine (S2.out w3 (RZ.out.mono b3)).mono ?_
            rintro e w4 ⟨p3, d3, p4, d4, rfl, r3, r4, b4⟩
            go_wp2_with fail
            have S3 := same16_any p1 p3 d1 d3 (F.map Prod.fst) w4 (r1.mono b4) r3
            rw [List.length_map] at S3
            refine S3.mono ?_
            clear S3
            rintro e w5 ⟨rfl, b5⟩
            go_wp2_with fail
            have S4 := sameInts_any p2 p4 d2 d4 (F.map fun x => (x.2 : Int)) (F.map fun x => (x.2 : Int)) w5 ((r2.mono b4).mono b5) (r4.mono b5)
            rw [List.length_map, decide_eq_true rfl] at S4
            refine S4.mono ?_
            clear S4
            rintro e w6 ⟨rfl, b6⟩
            have B6 := hid (kept_trans (kept_trans (kept_trans (kept_trans BZ.out b3) b4) b5) b6)
            have R6 := hid ((((R1Z.out.mono b3).mono b4).mono b5).mono b6)
            clear r1 r2 r3 r4 b3 b4 b5 b6
            go_wp2_with fail
            refine (S5.out w6 R6.out).mono ?_
            rintro e w7 ⟨p5, d5, p6, d6, rfl, r5, r6, b7⟩
            have B7 := hid (kept_trans B6.out b7)
            clear r5 r6 b7
            go_wp2_with (go_at_call 13; refine (lives16_any _).mono ?_; rintro en2 w10 ⟨rfl, rfl⟩)
            go_ret
            exact ⟨rfl, B7.out⟩
          · have dj1 : decide ((30 : Int) < (xs1.length : Int)) = true := decide_eq_true (by omega)
            have dj1' : decide (30 < xs1.length) = true := decide_eq_true h
            clear hj
            go_wp2_with fail
            refine (S1.out).mono ?_
            rintro e w3 ⟨p1, d1, p2, d2, rfl, r1, r2, b3⟩
            go_wp2_with fail
            refine (S2.out w3 (RZ.out.mono b3)).mono ?_
            rintro e w4 ⟨p3, d3, p4, d4, rfl, r3, r4, b4⟩
            go_wp2_with fail
            have S3 := same16_any p1 p3 d1 d3 (F.map Prod.fst) w4 (r1.mono b4) r3
            rw [List.length_map] at S3
            refine S3.mono ?_
            clear S3
            rintro e w5 ⟨rfl, b5⟩
            go_wp2_with fail
            have S4 := sameInts_any p2 p4 d2 d4 (F.map fun x => (x.2 : Int)) (F.map fun x => (x.2 : Int)) w5 ((r2.mono b4).mono b5) (r4.mono b5)
            rw [List.length_map, decide_eq_true rfl] at S4
            refine S4.mono ?_
            clear S4
            rintro e w6 ⟨rfl, b6⟩
            have B6 := hid (kept_trans (kept_trans (kept_trans (kept_trans BZ.out b3) b4) b5) b6)
            have R6 := hid ((((R1Z.out.mono b3).mono b4).mono b5).mono b6)
            clear r1 r2 r3 r4 b3 b4 b5 b6
            go_wp2_with fail
            refine (S5.out w6 R6.out).mono ?_
            rintro e w7 ⟨p5, d5, p6, d6, rfl, r5, r6, b7⟩
            have B7 := hid (kept_trans B6.out b7)
            clear r5 r6 b7
            go_wp2_with (go_at_call 13; refine (lives16_any _).mono ?_; rintro en2 w10 ⟨rfl, rfl⟩)
            go_ret
            exact ⟨rfl, B7.out⟩
      · have dk1 : decide ((12 : Int) < (L0.length : Int)) = true := decide_eq_true (by omega)
        have dk1' : decide (12 < L0.length) = true := decide_eq_true h
        clear hk
        go_wp2_with fail
        refine (HLg.out wr ROB.out).mono ?_
        rintro e w2 ⟨p, pc, rfl, oz, b2⟩
        obtain ⟨g, rfl⟩ := Own.addr (show Own w2 wr.heap.size 5 1 p zs0.length pc (zs0.map byteV) from oz) (by rw [HZL.out]; omega)
        have OZ : Own w2 w.heap.size 5 1 (some ⟨g, 0, none⟩) 1024 pc (zs0.map byteV) := by have q := Own.low (show Own w2 wr.heap.size 5 1 (some ⟨g, 0, none⟩) zs0.length pc (zs0.map byteV) from oz) HB.out.size; rw [HZL.out] at q; exact q
        have B2 := kept_trans HB.out b2
        clear oz b2 HLg
        go_wp2_with fail
        go_loopw [18] (fun i wr => ∃ (k : Nat) (zs : List UInt8), k ≤ 30 ∧ k ≤ xs1.length ∧ i = .int .i64 k ∧ zs.length = 1024 ∧ Own wr w.heap.size 5 1 (some ⟨g, 0, none⟩) 1024 pc (zs.map byteV) ∧ Below w.heap.size w wr) (fun i _ => 30 - (intOf i).toNat)
        case atStart => exact ⟨0, zs0, by omega, by omega, rfl, HZL.out, OZ, B2⟩
        case round =>
        obtain ⟨j, zs, hj30, hjl, rfl, hzl, oz, bz⟩ := hrel
        have HZ1 := hid hzl
        by_cases hj : j < xs1.length ∧ j < 30
        · obtain ⟨bo, oo, rfl, hbo, hoc⟩ := (H1.out.mono bz).bytes (by omega)
          have co := hoc j hj.1
          clear hoc
          rw [show bAt xs1 j = (xs1.getD j 0).toNat from rfl] at co
          generalize xs1.getD j 0 = byt at *
          have hs : (r + j) % 1016 < 1016 := Nat.mod_lt _ (by omega)
          have em2 : ((r : Int) + (j : Int)).tmod 1016 = (((r + j) % 1016 : Nat) : Int) := by rw [show (r : Int) + (j : Int) = ((r + j : Nat) : Int) by omega]; rfl
          have ew2 : IntKind.i64.wrap ((r : Int) + (j : Int)) = (r : Int) + j := IntWalk.i64_in _ (by omega)
          generalize (r + j) % 1016 = s at *
          have ew3 : IntKind.i64.wrap (s : Int) = s := IntWalk.i64_in _ (by omega)
          have ew4 : IntKind.i64.wrap (8 + (s : Int)) = 8 + s := IntWalk.i64_in _ (by omega)
          obtain ⟨LL, kb, hll, hBg, htk, hnc, hcm⟩ := Own.blk oz
          obtain ⟨v0, hv0⟩ := kb.someCell (i := 8 + s) (by omega)
          have hfz := kb.frozen (8 + s)
          have ei : ((8 : Int) + (s : Int)).toNat = 8 + s := by omega
          have ij : (j : Int) < (xs1.length : Int) := by omega
          have is1 : (8 : Int) + (s : Int) < 1024 := by omega
          have is0 : 0 ≤ (8 : Int) + (s : Int) := by omega
          have dj1 : decide ((j : Int) < (xs1.length : Int)) = true := decide_eq_true (by omega)
          have dj1' : decide (j < xs1.length) = true := decide_eq_true hj.1
          have dj2 : decide ((j : Int) < 30) = true := decide_eq_true (by omega)
          have dj2' : decide (j < 30) = true := decide_eq_true hj.2
          have OS := hid (oz.set1 (8 + s) (byteV byt) (by omega))
          have BS := hid (bz.setCell (p := ⟨g, 8 + s, none⟩) hBg (byteV byt))
          clear kb htk oz bz
          go_wp2_with fail
          go_roundw
          case rel => exact ⟨j + 1, zs.set (8 + s) byt, by omega, by omega, by go_num, by rw [List.length_set]; exact HZ1.out, by rw [List.map_set]; exact OS.out, BS.out⟩
          case measure => simp [intOf]; omega
        · have rz : RowB wr (some ⟨g, 0, none⟩) pc zs := by have q := oz.row; unfold RowB; rw [hzl]; exact q
          have hpc : 1024 ≤ pc := by have := rz.2.1; omega
          have hpc63 : pc ≤ 9223372036854775807 := by have h2 := rz.2.2.1; unfold maxLen at h2; omega
          have r1z : RowB wr (some ⟨g, 1, none⟩) (pc - 1) (zs.drop 1) := by
            have q := rowB_sub rz 1 1023 (by omega)
            rw [List.take_of_length_le (by simp; omega)] at q
            exact q
          have S1 := scan_any (some ⟨g, 0, none⟩) pc zs ep hd wr rz
          have S2 := fun w1 r => scanRef_any (some ⟨g, 0, none⟩) pc zs ep hd w1 r
          have S5 := fun w1 r => scan_any (some ⟨g, 1, none⟩) (pc - 1) (zs.drop 1) ep hd w1 r
          have hz1 : (zs.drop 1).length = 1023 := by simp; omega
          have hF5 : scanF (zs.drop 1) ep hd = [] := by unfold scanF; rw [if_neg (fun hh => by have := hh.1; omega)]
          rw [hzl] at S1 S2
          rw [hz1, hF5] at S5
          have RZ := hid rz; have R1Z := hid r1z; have BZ := hid bz
          have hpc1 : ¬ pc = 1 := by omega
          clear rz r1z bz oz hz1 hF5
          generalize zs.drop 1 = zs1 at *
          generalize scanF zs ep hd = F at *
          have S1 := hid S1; have S2 := hid S2; have S5 := hid S5
          rcases (by omega : ¬ j < xs1.length ∨ (j < xs1.length ∧ j = 30)) with h | ⟨h, rfl⟩
          · have dj1 : decide ((j : Int) < (xs1.length : Int)) = false := decide_eq_false (by omega)
            have dj1' : decide (j < xs1.length) = false := decide_eq_false h
            clear hj
            go_wp2_with fail
            refine (S1.out).mono ?_
            rintro e w3 ⟨p1, d1, p2, d2, rfl, r1, r2, b3⟩
            go_wp2_with fail
            refine (S2.out w3 (RZ.out.mono b3)).mono ?_
            rintro e w4 ⟨p3, d3, p4, d4, rfl, r3, r4, b4⟩
            go_wp2_with fail
            have S3 := same16_any p1 p3 d1 d3 (F.map Prod.fst) w4 (r1.mono b4) r3
            rw [List.length_map] at S3
            refine S3.mono ?_
            clear S3
            rintro e w5 ⟨rfl, b5⟩
            go_wp2_with fail
            have S4 := sameInts_any p2 p4 d2 d4 (F.map fun x => (x.2 : Int)) (F.map fun x => (x.2 : Int)) w5 ((r2.mono b4).mono b5) (r4.mono b5)
            rw [List.length_map, decide_eq_true rfl] at S4
            refine S4.mono ?_
            clear S4
            rintro e w6 ⟨rfl, b6⟩
            have B6 := hid (kept_trans (kept_trans (kept_trans (kept_trans BZ.out b3) b4) b5) b6)
            have R6 := hid ((((R1Z.out.mono b3).mono b4).mono b5).mono b6)
            clear r1 r2 r3 r4 b3 b4 b5 b6
            go_wp2_with fail
            refine (S5.out w6 R6.out).mono ?_
            rintro e w7 ⟨p5, d5, p6, d6, rfl, r5, r6, b7⟩
            have B7 := hid (kept_trans B6.out b7)
            clear r5 r6 b7
            go_wp2_with (go_at_call 13; refine (lives16_any _).mono ?_; rintro en2 w10 ⟨rfl, rfl⟩)
            go_ret
            exact ⟨rfl, B7.out⟩
          · have dj1 : decide ((30 : Int) < (xs1.length : Int)) = true := decide_eq_true (by omega)
            have dj1' : decide (30 < xs1.length) = true := decide_eq_true h
            clear hj
            go_wp2_with fail
            refine (S1.out).mono ?_
            rintro e w3 ⟨p1, d1, p2, d2, rfl, r1, r2, b3⟩
            go_wp2_with fail
            refine (S2.out w3 (RZ.out.mono b3)).mono ?_
            rintro e w4 ⟨p3, d3, p4, d4, rfl, r3, r4, b4⟩
            go_wp2_with fail
            have S3 := same16_any p1 p3 d1 d3 (F.map Prod.fst) w4 (r1.mono b4) r3
            rw [List.length_map] at S3
            refine S3.mono ?_
            clear S3
            rintro e w5 ⟨rfl, b5⟩
            go_wp2_with fail
            have S4 := sameInts_any p2 p4 d2 d4 (F.map fun x => (x.2 : Int)) (F.map fun x => (x.2 : Int)) w5 ((r2.mono b4).mono b5) (r4.mono b5)
            rw [List.length_map, decide_eq_true rfl] at S4
            refine S4.mono ?_
            clear S4
            rintro e w6 ⟨rfl, b6⟩
            have B6 := hid (kept_trans (kept_trans (kept_trans (kept_trans BZ.out b3) b4) b5) b6)
            have R6 := hid ((((R1Z.out.mono b3).mono b4).mono b5).mono b6)
            clear r1 r2 r3 r4 b3 b4 b5 b6
            go_wp2_with fail
            refine (S5.out w6 R6.out).mono ?_
            rintro e w7 ⟨p5, d5, p6, d6, rfl, r5, r6, b7⟩
            have B7 := hid (kept_trans B6.out b7)
            clear r5 r6 b7
            go_wp2_with (go_at_call 13; refine (lives16_any _).mono ?_; rintro en2 w10 ⟨rfl, rfl⟩)
            go_ret
            exact ⟨rfl, B7.out⟩
  · have dn := dpos rfl
    clear dpos dneg wneg bat
    go_enter Try.func7, Try.ntmps7
    go_wp2_with fail
    go_loopw [13, 14] (fun b i wr => ∃ (k m cc : Nat) (a : Option Addr) (bs : List UInt8), k ≤ 12 ∧ k ≤ L0.length ∧ i = .int .i64 k ∧ b = .slice a m cc ∧ bs.length = m ∧ m ≤ 300 * k ∧ Own wr w.heap.size 5 1 a m cc (bs.map byteV) ∧ Below w.heap.size w wr) (fun _ i _ => 12 - (intOf i).toNat)
    case atStart => exact ⟨0, 0, 0, none, [], by omega, by omega, rfl, rfl, rfl, by omega, Own.nil _ _ _ _, Below.refl _ _⟩
    case round =>
    obtain ⟨k, m, cc, a, bs, hk12, hkl, rfl, rfl, hbs, hm, ob, hbel⟩ := hrel
    have HBS := hid hbs
    clear hbs
    by_cases hk : k < L0.length ∧ k < 12
    · obtain ⟨ba, oa, rfl, hba, hca⟩ := rowR_cells (H0.out.mono hbel) (by omega)
      have ca := hca k hk.1
      clear hca
      generalize L0.getD k rec0 = rr at *
      obtain ⟨rc, ri, rt, ro, rs⟩ := rr
      have q0 := ca 0 _ rfl; have q1 := ca 1 _ rfl; have q2 := ca 2 _ rfl; have q3 := ca 3 _ rfl; have q4 := ca 4 _ rfl
      simp only [Nat.add_zero] at q0
      clear ca
      have HC := fun w1 => cut_any rc ri rt ro rs w1
      have HE := fun s' w1 => encRef_any rc ri rt ro s' w1
      have HL := hid (fun s' => recL_len_any rc ri ro rt s')
      unfold recV at HC HE
      have HC := hid HC; have HE := hid HE
      have dk1 : decide ((k : Int) < (L0.length : Int)) = true := decide_eq_true (by omega)
      have dk1' : decide (k < L0.length) = true := decide_eq_true hk.1
      have dk2 : decide ((k : Int) < 12) = true := decide_eq_true (by omega)
      have dk2' : decide (k < 12) = true := decide_eq_true hk.2
      have ik : (k : Int) < (L0.length : Int) := by omega
      have t1 : True := trivial
      have OB := hid ob; have HB := hid hbel
      clear ob hbel
      go_wp2_with (first
        | (go_at_call 9; refine (HC.out _).mono ?_; rintro e w4 ⟨⟨s', rfl⟩, b4⟩; have R4 := hid b4; have L4 := hid (HL.out s'); clear b4)
        | (go_at_call 11; refine (HE.out s' _).mono ?_; rintro e w5 ⟨a5, c5, rfl, o5, b5⟩; have R5 := hid b5; have O5 := hid o5; clear b5 o5; (generalize recL rc ri rt ro s' = X at *); generalize (if recMay rc ri rt ro s' = true then (0 : Int) else 1) = ee at *)
        | (at_builtin; have _t := t1; have ob' := (OB.out.mono R4.out).mono R5.out; have hl4 := L4.out; have hB5 := (kept_trans (kept_trans HB.out R4.out) R5.out); refine wpl_append rfl (.tmp 46) (.tmp 47) rfl E8 w.heap.size rfl rfl ob' (O5.out.row) (byteV_one X) (by omega) (by omega) hB5.size ?_; clear t1; intro a6 c6 w6 o6 g6 b6; have O6 := hid o6; have B6 := hid (below_trans hB5 b6 (Nat.le_refl _)); clear o6 g6 b6 ob' hB5))
      go_roundw
      case rel => exact ⟨k + 1, m + X.length, c6, a6, bs ++ X, by omega, by omega, by go_num, rfl, by rw [List.length_append, HBS.out], by have := L4.out; omega, by rw [List.map_append]; exact O6.out, B6.out⟩
      case measure => simp [intOf]; omega
    · have HL3 := hid hm
      have OB := hid ob; have HB := hid hbel
      clear ob hbel
      have HLg := fun w1 r1 => log16_any en a cc bs w1 r1 ben.2
      rw [HBS.out] at HLg
      have HZL := logF_len en bs ben.2
      unfold RetB at HLg
      rw [HZL] at HLg
      have HLg := hid HLg; have HZL := hid HZL
      have ROB : RowB wr a cc bs := by have := OB.out.row; unfold RowB; rw [HBS.out]; exact this
      have ROB := hid ROB
      generalize logF en bs = zs0 at *
      rcases (by omega : ¬ k < L0.length ∨ (k < L0.length ∧ k = 12)) with h | ⟨h, rfl⟩
      · have dk1 : decide ((k : Int) < (L0.length : Int)) = false := decide_eq_false (by omega)
        have dk1' : decide (k < L0.length) = false := decide_eq_false h
        clear hk
        go_wp2_with fail
        refine (HLg.out wr ROB.out).mono ?_
        rintro e w2 ⟨p, pc, rfl, oz, b2⟩
        obtain ⟨g, rfl⟩ := Own.addr (show Own w2 wr.heap.size 5 1 p zs0.length pc (zs0.map byteV) from oz) (by rw [HZL.out]; omega)
        have OZ : Own w2 w.heap.size 5 1 (some ⟨g, 0, none⟩) 1024 pc (zs0.map byteV) := by have q := Own.low (show Own w2 wr.heap.size 5 1 (some ⟨g, 0, none⟩) zs0.length pc (zs0.map byteV) from oz) HB.out.size; rw [HZL.out] at q; exact q
        have B2 := kept_trans HB.out b2
        clear oz b2 HLg
        go_wp2_with fail
        go_loopw [18] (fun i wr => ∃ (k : Nat) (zs : List UInt8), k ≤ 30 ∧ k ≤ xs1.length ∧ i = .int .i64 k ∧ zs.length = 1024 ∧ Own wr w.heap.size 5 1 (some ⟨g, 0, none⟩) 1024 pc (zs.map byteV) ∧ Below w.heap.size w wr) (fun i _ => 30 - (intOf i).toNat)
        case atStart => exact ⟨0, zs0, by omega, by omega, rfl, HZL.out, OZ, B2⟩
        case round =>
        obtain ⟨j, zs, hj30, hjl, rfl, hzl, oz, bz⟩ := hrel
        have HZ1 := hid hzl
        by_cases hj : j < xs1.length ∧ j < 30
        · obtain ⟨bo, oo, rfl, hbo, hoc⟩ := (H1.out.mono bz).bytes (by omega)
          have co := hoc j hj.1
          clear hoc
          rw [show bAt xs1 j = (xs1.getD j 0).toNat from rfl] at co
          generalize xs1.getD j 0 = byt at *
          have hs : (r + j) % 1016 < 1016 := Nat.mod_lt _ (by omega)
          have em2 : ((r : Int) + (j : Int)).tmod 1016 = (((r + j) % 1016 : Nat) : Int) := by rw [show (r : Int) + (j : Int) = ((r + j : Nat) : Int) by omega]; rfl
          have ew2 : IntKind.i64.wrap ((r : Int) + (j : Int)) = (r : Int) + j := IntWalk.i64_in _ (by omega)
          generalize (r + j) % 1016 = s at *
          have ew3 : IntKind.i64.wrap (s : Int) = s := IntWalk.i64_in _ (by omega)
          have ew4 : IntKind.i64.wrap (8 + (s : Int)) = 8 + s := IntWalk.i64_in _ (by omega)
          obtain ⟨LL, kb, hll, hBg, htk, hnc, hcm⟩ := Own.blk oz
          obtain ⟨v0, hv0⟩ := kb.someCell (i := 8 + s) (by omega)
          have hfz := kb.frozen (8 + s)
          have ei : ((8 : Int) + (s : Int)).toNat = 8 + s := by omega
          have ij : (j : Int) < (xs1.length : Int) := by omega
          have is1 : (8 : Int) + (s : Int) < 1024 := by omega
          have is0 : 0 ≤ (8 : Int) + (s : Int) := by omega
          have dj1 : decide ((j : Int) < (xs1.length : Int)) = true := decide_eq_true (by omega)
          have dj1' : decide (j < xs1.length) = true := decide_eq_true hj.1
          have dj2 : decide ((j : Int) < 30) = true := decide_eq_true (by omega)
          have dj2' : decide (j < 30) = true := decide_eq_true hj.2
          have OS := hid (oz.set1 (8 + s) (byteV byt) (by omega))
          have BS := hid (bz.setCell (p := ⟨g, 8 + s, none⟩) hBg (byteV byt))
          clear kb htk oz bz
          go_wp2_with fail
          go_roundw
          case rel => exact ⟨j + 1, zs.set (8 + s) byt, by omega, by omega, by go_num, by rw [List.length_set]; exact HZ1.out, by rw [List.map_set]; exact OS.out, BS.out⟩
          case measure => simp [intOf]; omega
        · have rz : RowB wr (some ⟨g, 0, none⟩) pc zs := by have q := oz.row; unfold RowB; rw [hzl]; exact q
          have hpc : 1024 ≤ pc := by have := rz.2.1; omega
          have hpc63 : pc ≤ 9223372036854775807 := by have h2 := rz.2.2.1; unfold maxLen at h2; omega
          have r1z : RowB wr (some ⟨g, 1, none⟩) (pc - 1) (zs.drop 1) := by
            have q := rowB_sub rz 1 1023 (by omega)
            rw [List.take_of_length_le (by simp; omega)] at q
            exact q
          have S1 := scan_any (some ⟨g, 0, none⟩) pc zs ep hd wr rz
          have S2 := fun w1 r => scanRef_any (some ⟨g, 0, none⟩) pc zs ep hd w1 r
          have S5 := fun w1 r => scan_any (some ⟨g, 1, none⟩) (pc - 1) (zs.drop 1) ep hd w1 r
          have hz1 : (zs.drop 1).length = 1023 := by simp; omega
          have hF5 : scanF (zs.drop 1) ep hd = [] := by unfold scanF; rw [if_neg (fun hh => by have := hh.1; omega)]
          rw [hzl] at S1 S2
          rw [hz1, hF5] at S5
          have RZ := hid rz; have R1Z := hid r1z; have BZ := hid bz
          have hpc1 : ¬ pc = 1 := by omega
          clear rz r1z bz oz hz1 hF5
          generalize zs.drop 1 = zs1 at *
          generalize scanF zs ep hd = F at *
          have S1 := hid S1; have S2 := hid S2; have S5 := hid S5
          rcases (by omega : ¬ j < xs1.length ∨ (j < xs1.length ∧ j = 30)) with h | ⟨h, rfl⟩
          · have dj1 : decide ((j : Int) < (xs1.length : Int)) = false := decide_eq_false (by omega)
            have dj1' : decide (j < xs1.length) = false := decide_eq_false h
            clear hj
            go_wp2_with fail
            refine (S1.out).mono ?_
            rintro e w3 ⟨p1, d1, p2, d2, rfl, r1, r2, b3⟩
            go_wp2_with fail
            refine (S2.out w3 (RZ.out.mono b3)).mono ?_
            rintro e w4 ⟨p3, d3, p4, d4, rfl, r3, r4, b4⟩
            go_wp2_with fail
            have S3 := same16_any p1 p3 d1 d3 (F.map Prod.fst) w4 (r1.mono b4) r3
            rw [List.length_map] at S3
            refine S3.mono ?_
            clear S3
            rintro e w5 ⟨rfl, b5⟩
            go_wp2_with fail
            have S4 := sameInts_any p2 p4 d2 d4 (F.map fun x => (x.2 : Int)) (F.map fun x => (x.2 : Int)) w5 ((r2.mono b4).mono b5) (r4.mono b5)
            rw [List.length_map, decide_eq_true rfl] at S4
            refine S4.mono ?_
            clear S4
            rintro e w6 ⟨rfl, b6⟩
            have B6 := hid (kept_trans (kept_trans (kept_trans (kept_trans BZ.out b3) b4) b5) b6)
            have R6 := hid ((((R1Z.out.mono b3).mono b4).mono b5).mono b6)
            clear r1 r2 r3 r4 b3 b4 b5 b6
            go_wp2_with fail
            refine (S5.out w6 R6.out).mono ?_
            rintro e w7 ⟨p5, d5, p6, d6, rfl, r5, r6, b7⟩
            have B7 := hid (kept_trans B6.out b7)
            clear r5 r6 b7
            go_wp2_with (go_at_call 13; refine (lives16_any _).mono ?_; rintro en2 w10 ⟨rfl, rfl⟩)
            go_ret
            exact ⟨rfl, B7.out⟩
          · have dj1 : decide ((30 : Int) < (xs1.length : Int)) = true := decide_eq_true (by omega)
            have dj1' : decide (30 < xs1.length) = true := decide_eq_true h
            clear hj
            go_wp2_with fail
            refine (S1.out).mono ?_
            rintro e w3 ⟨p1, d1, p2, d2, rfl, r1, r2, b3⟩
            go_wp2_with fail
            refine (S2.out w3 (RZ.out.mono b3)).mono ?_
            rintro e w4 ⟨p3, d3, p4, d4, rfl, r3, r4, b4⟩
            go_wp2_with fail
            have S3 := same16_any p1 p3 d1 d3 (F.map Prod.fst) w4 (r1.mono b4) r3
            rw [List.length_map] at S3
            refine S3.mono ?_
            clear S3
            rintro e w5 ⟨rfl, b5⟩
            go_wp2_with fail
            have S4 := sameInts_any p2 p4 d2 d4 (F.map fun x => (x.2 : Int)) (F.map fun x => (x.2 : Int)) w5 ((r2.mono b4).mono b5) (r4.mono b5)
            rw [List.length_map, decide_eq_true rfl] at S4
            refine S4.mono ?_
            clear S4
            rintro e w6 ⟨rfl, b6⟩
            have B6 := hid (kept_trans (kept_trans (kept_trans (kept_trans BZ.out b3) b4) b5) b6)
            have R6 := hid ((((R1Z.out.mono b3).mono b4).mono b5).mono b6)
            clear r1 r2 r3 r4 b3 b4 b5 b6
            go_wp2_with fail
            refine (S5.out w6 R6.out).mono ?_
            rintro e w7 ⟨p5, d5, p6, d6, rfl, r5, r6, b7⟩
            have B7 := hid (kept_trans B6.out b7)
            clear r5 r6 b7
            go_wp2_with (go_at_call 13; refine (lives16_any _).mono ?_; rintro en2 w10 ⟨rfl, rfl⟩)
            go_ret
            exact ⟨rfl, B7.out⟩
      · have dk1 : decide ((12 : Int) < (L0.length : Int)) = true := decide_eq_true (by omega)
        have dk1' : decide (12 < L0.length) = true := decide_eq_true h
        clear hk
        go_wp2_with fail
        refine (HLg.out wr ROB.out).mono ?_
        rintro e w2 ⟨p, pc, rfl, oz, b2⟩
        obtain ⟨g, rfl⟩ := Own.addr (show Own w2 wr.heap.size 5 1 p zs0.length pc (zs0.map byteV) from oz) (by rw [HZL.out]; omega)
        have OZ : Own w2 w.heap.size 5 1 (some ⟨g, 0, none⟩) 1024 pc (zs0.map byteV) := by have q := Own.low (show Own w2 wr.heap.size 5 1 (some ⟨g, 0, none⟩) zs0.length pc (zs0.map byteV) from oz) HB.out.size; rw [HZL.out] at q; exact q
        have B2 := kept_trans HB.out b2
        clear oz b2 HLg
        go_wp2_with fail
        go_loopw [18] (fun i wr => ∃ (k : Nat) (zs : List UInt8), k ≤ 30 ∧ k ≤ xs1.length ∧ i = .int .i64 k ∧ zs.length = 1024 ∧ Own wr w.heap.size 5 1 (some ⟨g, 0, none⟩) 1024 pc (zs.map byteV) ∧ Below w.heap.size w wr) (fun i _ => 30 - (intOf i).toNat)
        case atStart => exact ⟨0, zs0, by omega, by omega, rfl, HZL.out, OZ, B2⟩
        case round =>
        obtain ⟨j, zs, hj30, hjl, rfl, hzl, oz, bz⟩ := hrel
        have HZ1 := hid hzl
        by_cases hj : j < xs1.length ∧ j < 30
        · obtain ⟨bo, oo, rfl, hbo, hoc⟩ := (H1.out.mono bz).bytes (by omega)
          have co := hoc j hj.1
          clear hoc
          rw [show bAt xs1 j = (xs1.getD j 0).toNat from rfl] at co
          generalize xs1.getD j 0 = byt at *
          have hs : (r + j) % 1016 < 1016 := Nat.mod_lt _ (by omega)
          have em2 : ((r : Int) + (j : Int)).tmod 1016 = (((r + j) % 1016 : Nat) : Int) := by rw [show (r : Int) + (j : Int) = ((r + j : Nat) : Int) by omega]; rfl
          have ew2 : IntKind.i64.wrap ((r : Int) + (j : Int)) = (r : Int) + j := IntWalk.i64_in _ (by omega)
          generalize (r + j) % 1016 = s at *
          have ew3 : IntKind.i64.wrap (s : Int) = s := IntWalk.i64_in _ (by omega)
          have ew4 : IntKind.i64.wrap (8 + (s : Int)) = 8 + s := IntWalk.i64_in _ (by omega)
          obtain ⟨LL, kb, hll, hBg, htk, hnc, hcm⟩ := Own.blk oz
          obtain ⟨v0, hv0⟩ := kb.someCell (i := 8 + s) (by omega)
          have hfz := kb.frozen (8 + s)
          have ei : ((8 : Int) + (s : Int)).toNat = 8 + s := by omega
          have ij : (j : Int) < (xs1.length : Int) := by omega
          have is1 : (8 : Int) + (s : Int) < 1024 := by omega
          have is0 : 0 ≤ (8 : Int) + (s : Int) := by omega
          have dj1 : decide ((j : Int) < (xs1.length : Int)) = true := decide_eq_true (by omega)
          have dj1' : decide (j < xs1.length) = true := decide_eq_true hj.1
          have dj2 : decide ((j : Int) < 30) = true := decide_eq_true (by omega)
          have dj2' : decide (j < 30) = true := decide_eq_true hj.2
          have OS := hid (oz.set1 (8 + s) (byteV byt) (by omega))
          have BS := hid (bz.setCell (p := ⟨g, 8 + s, none⟩) hBg (byteV byt))
          clear kb htk oz bz
          go_wp2_with fail
          go_roundw
          case rel => exact ⟨j + 1, zs.set (8 + s) byt, by omega, by omega, by go_num, by rw [List.length_set]; exact HZ1.out, by rw [List.map_set]; exact OS.out, BS.out⟩
          case measure => simp [intOf]; omega
        · have rz : RowB wr (some ⟨g, 0, none⟩) pc zs := by have q := oz.row; unfold RowB; rw [hzl]; exact q
          have hpc : 1024 ≤ pc := by have := rz.2.1; omega
          have hpc63 : pc ≤ 9223372036854775807 := by have h2 := rz.2.2.1; unfold maxLen at h2; omega
          have r1z : RowB wr (some ⟨g, 1, none⟩) (pc - 1) (zs.drop 1) := by
            have q := rowB_sub rz 1 1023 (by omega)
            rw [List.take_of_length_le (by simp; omega)] at q
            exact q
          have S1 := scan_any (some ⟨g, 0, none⟩) pc zs ep hd wr rz
          have S2 := fun w1 r => scanRef_any (some ⟨g, 0, none⟩) pc zs ep hd w1 r
          have S5 := fun w1 r => scan_any (some ⟨g, 1, none⟩) (pc - 1) (zs.drop 1) ep hd w1 r
          have hz1 : (zs.drop 1).length = 1023 := by simp; omega
          have hF5 : scanF (zs.drop 1) ep hd = [] := by unfold scanF; rw [if_neg (fun hh => by have := hh.1; omega)]
          rw [hzl] at S1 S2
          rw [hz1, hF5] at S5
          have RZ := hid rz; have R1Z := hid r1z; have BZ := hid bz
          have hpc1 : ¬ pc = 1 := by omega
          clear rz r1z bz oz hz1 hF5
          generalize zs.drop 1 = zs1 at *
          generalize scanF zs ep hd = F at *
          have S1 := hid S1; have S2 := hid S2; have S5 := hid S5
          rcases (by omega : ¬ j < xs1.length ∨ (j < xs1.length ∧ j = 30)) with h | ⟨h, rfl⟩
          · have dj1 : decide ((j : Int) < (xs1.length : Int)) = false := decide_eq_false (by omega)
            have dj1' : decide (j < xs1.length) = false := decide_eq_false h
            clear hj
            go_wp2_with fail
            refine (S1.out).mono ?_
            rintro e w3 ⟨p1, d1, p2, d2, rfl, r1, r2, b3⟩
            go_wp2_with fail
            refine (S2.out w3 (RZ.out.mono b3)).mono ?_
            rintro e w4 ⟨p3, d3, p4, d4, rfl, r3, r4, b4⟩
            go_wp2_with fail
            have S3 := same16_any p1 p3 d1 d3 (F.map Prod.fst) w4 (r1.mono b4) r3
            rw [List.length_map] at S3
            refine S3.mono ?_
            clear S3
            rintro e w5 ⟨rfl, b5⟩
            go_wp2_with fail
            have S4 := sameInts_any p2 p4 d2 d4 (F.map fun x => (x.2 : Int)) (F.map fun x => (x.2 : Int)) w5 ((r2.mono b4).mono b5) (r4.mono b5)
            rw [List.length_map, decide_eq_true rfl] at S4
            refine S4.mono ?_
            clear S4
            rintro e w6 ⟨rfl, b6⟩
            have B6 := hid (kept_trans (kept_trans (kept_trans (kept_trans BZ.out b3) b4) b5) b6)
            have R6 := hid ((((R1Z.out.mono b3).mono b4).mono b5).mono b6)
            clear r1 r2 r3 r4 b3 b4 b5 b6
            go_wp2_with fail
            refine (S5.out w6 R6.out).mono ?_
            rintro e w7 ⟨p5, d5, p6, d6, rfl, r5, r6, b7⟩
            have B7 := hid (kept_trans B6.out b7)
            clear r5 r6 b7
            go_wp2_with (go_at_call 13; refine (lives16_any _).mono ?_; rintro en2 w10 ⟨rfl, rfl⟩)
            go_ret
            exact ⟨rfl, B7.out⟩
          · have dj1 : decide ((30 : Int) < (xs1.length : Int)) = true := decide_eq_true (by omega)
            have dj1' : decide (30 < xs1.length) = true := decide_eq_true h
            clear hj
            go_wp2_with fail
            refine (S1.out).mono ?_
            rintro e w3 ⟨p1, d1, p2, d2, rfl, r1, r2, b3⟩
            go_wp2_with fail
            refine (S2.out w3 (RZ.out.mono b3)).mono ?_
            rintro e w4 ⟨p3, d3, p4, d4, rfl, r3, r4, b4⟩
            go_wp2_with fail
            have S3 := same16_any p1 p3 d1 d3 (F.map Prod.fst) w4 (r1.mono b4) r3
            rw [List.length_map] at S3
            refine S3.mono ?_
            clear S3
            rintro e w5 ⟨rfl, b5⟩
            go_wp2_with fail
            have S4 := sameInts_any p2 p4 d2 d4 (F.map fun x => (x.2 : Int)) (F.map fun x => (x.2 : Int)) w5 ((r2.mono b4).mono b5) (r4.mono b5)
            rw [List.length_map, decide_eq_true rfl] at S4
            refine S4.mono ?_
            clear S4
            rintro e w6 ⟨rfl, b6⟩
            have B6 := hid (kept_trans (kept_trans (kept_trans (kept_trans BZ.out b3) b4) b5) b6)
            have R6 := hid ((((R1Z.out.mono b3).mono b4).mono b5).mono b6)
            clear r1 r2 r3 r4 b3 b4 b5 b6
            go_wp2_with fail
            refine (S5.out w6 R6.out).mono ?_
            rintro e w7 ⟨p5, d5, p6, d6, rfl, r5, r6, b7⟩
            have B7 := hid (kept_trans B6.out b7)
            clear r5 r6 b7
            go_wp2_with (go_at_call 13; refine (lives16_any _).mono ?_; rintro en2 w10 ⟨rfl, rfl⟩)
            go_ret
            exact ⟨rfl, B7.out⟩

end Go.Proofs.Ytngfpndikjbioaa
