/- The statements of stage 12: the table of what is handed in. -/
import Derived.Test.YtejfkjfidhdfaaaDirH
namespace Go.Proofs.Ytejfkjfidhdfaaa
open Go.RowKit Go.Shelf
set_option linter.unusedSimpArgs false
set_option linter.unusedVariables false

abbrev e0D : EntT := ⟨⟨#[]⟩, 0⟩
abbrev RowE (w : World) (a : Option Addr) (c : Nat) (L : List EntT) : Prop := Row w 2 a L.length c (tabC L)
/-- an entry with a short name -/
def cutE (e : EntT) : EntT := ⟨shortB e.nm, e.ino⟩
/-- 16 entries of what is handed in -/
def tabE (L : List EntT) : List EntT := (List.range 16).map fun i => cutE (L.getD i e0D)
theorem tabE_len (L : List EntT) : (tabE L).length = 16 := by simp [tabE]
theorem tabE_get (L : List EntT) {i : Nat} (h : i < 16) : (tabE L)[i]? = some (cutE (L.getD i e0D)) := by simp [tabE, h]
theorem tabE_snoc (L : List EntT) {i : Nat} (h : i < 16) : (tabE L).take (i + 1) = (tabE L).take i ++ [cutE (L.getD i e0D)] := by
  rw [List.take_add_one, tabE_get L h]; rfl
/-- the table, filled so far -/
def fillE (L : List EntT) (k : Nat) : List EntT := (tabE L).take k ++ List.replicate (16 - k) e0D
theorem fillE_len (L : List EntT) {k : Nat} (h : k ≤ 16) : (fillE L k).length = 16 := by simp [fillE, tabE_len]; omega
theorem fillE_zero (L : List EntT) : fillE L 0 = zeroT := by simp [fillE, zeroT]
theorem fillE_all (L : List EntT) : fillE L 16 = tabE L := by simp [fillE, List.take_of_length_le, tabE_len]
theorem fillE_set (L : List EntT) {k : Nat} (h : k < 16) : (fillE L k).set k (cutE (L.getD k e0D)) = fillE L (k + 1) := by
  unfold fillE
  have hl : ((tabE L).take k).length = k := by rw [List.length_take, tabE_len]; omega
  rw [List.set_append_right _ _ (by omega), hl, Nat.sub_self, show 16 - k = (16 - (k + 1)) + 1 by omega, List.replicate_succ, List.set_cons_zero, tabE_snoc L h, List.append_assoc]
  rfl
theorem tabC_append (A B : List EntT) : tabC (A ++ B) = tabC A ++ tabC B := by simp [tabC]
theorem tabC_one' (e : EntT) : tabC [e] = entC e := by simp [tabC]
theorem EntT.eta (e : EntT) : (⟨e.nm, e.ino⟩ : EntT) = e := rfl
theorem ET : ElemT Try.prog 22 24 2 24 := elemT Try.underlying22 (z := .agg #[.string ⟨#[]⟩, .int .i64 0]) (by kernel_rfl) rfl (by omega)

theorem rowE_cells {w : World} {a : Option Addr} {c : Nat} {L : List EntT} (h : RowE w a c L) (hn : 0 < L.length) :
    ∃ b off, a = some ⟨b, off, none⟩ ∧ b < w.heap.size ∧ ∀ i (hi : i < L.length), w.cell? ⟨b, off + i * 2, none⟩ = some (.string L[i].nm) ∧ w.cell? ⟨b, off + i * 2 + 1, none⟩ = some (.int .i64 L[i].ino) := by
  obtain ⟨b, off, e, hlt, hc⟩ := h.at hn
  refine ⟨b, off, e, hlt, fun i hi => ?_⟩
  obtain ⟨h1, h2⟩ := tabC_get L i hi
  rw [Nat.mul_comm 2 i] at h1 h2
  exact ⟨hc _ _ h1, hc _ _ h2⟩
theorem rowE_len {w : World} {a : Option Addr} {c : Nat} {L : List EntT} (h : RowE w a c L) : L.length ≤ 9223372036854775807 := by
  have h1 := h.2.1; have h2 := h.2.2.1; unfold maxLen at h2; omega

/-- an entry stored into a table -/
theorem wpl_storeEn {w : World} {ops : Array Oper} {rest : List Oper} {o : Oper} {act : Act} {Q : Exit → Act → World → Prop} (hgd : o.guard = none) (x y : Operand)
    (ho : o.op = .store 24 x y) (g k : Nat) (hx : act.eval x = .pointer (some ⟨g, k * 2, none⟩)) (n : ByteArray) (i : Int) (hy : act.eval y = .agg #[.string n, .int .i64 i]) {e : TypeId} {t : List EntT} (hb : Blk w g e (tabC t)) (hk : k < t.length)
    (h : ∀ w', Blk w' g e (tabC (t.set k ⟨n, i⟩)) → w.grownBy w' (some g) → wpList Try.prog ops Q rest (act.put o.dst undef) w') : wpList Try.prog ops Q (o :: rest) act w := by
  refine wpl_storeM hgd 24 x y ho g (k * 2) hx [.string n, .int .i64 i] hy (by rw [infoEnt]; rfl) (entC_one ⟨n, i⟩) hb (by rw [tabC_len]; simp; omega) ?_
  intro w' h1 h2
  refine h w' ?_ h2
  have := flat_set entC 2 (fun _ => rfl) t k ⟨n, i⟩ hk
  unfold tabC
  rw [this]; exact h1

set_option maxHeartbeats 1000000 in
set_option maxRecDepth 100000 in
theorem table_any (a : Option Addr) (c : Nat) (L : List EntT) (w : World) (h : RowE w a c L) :
    Calls Try.prog 10 #[.slice a L.length c] w fun e w' => ∃ g c', e = .returned (.tuple #[.agg (tabC (tabE L)).toArray, .slice (some ⟨g, 0, none⟩) 16 c']) ∧ Own w' w.heap.size 24 2 (some ⟨g, 0, none⟩) 16 c' (tabC (tabE L)) ∧ Below w.heap.size w w' := by
  obtain ⟨z, hz⟩ : ∃ z, z = zeroT := ⟨_, rfl⟩
  have hz16 : z.length = 16 := by rw [hz]; exact zero_len
  have hzl : (tabC z).length = 32 := tab_len hz16
  have HZE := hid hz; have HZ := hid hz16; have HL := hid hzl
  have hll := rowE_len h
  have HR := hid h
  clear hz hz16 hzl h
  go_enter Try.func10, Try.ntmps10
  go_wp2_with (first
    | (have _t := K1; (with_reducible refine wpl_allocT (z := z) HZE.out rfl rfl ?_); intro w2 k2 b2 s2; have K2 := hid k2; have B2 := hid b2; have S2 := hid s2; clear k2 b2 s2)
    | ((with_reducible refine wpl_allocT (z := z) HZE.out rfl rfl ?_); intro w1 k1 b1 s1; have K1 := hid k1; have B1 := hid b1; have S1 := hid s1; clear k1 b1 s1))
  have K1' := K1.out.mono B2.out
  have K2' := K2.out
  have B2' := kept_trans B1.out B2.out
  have s2 : w2.heap.size = w.heap.size + 2 := by rw [S2.out, S1.out]
  rw [S1.out] at K2' ⊢
  rw [HZE.out, ← fillE_zero L] at K2'
  go_loopw [5, 6] (fun o i wr => ∃ (k : Nat) (a1 : Option Addr) (c1 : Nat), k ≤ 16 ∧ i = .int .i64 k ∧ o = .slice a1 k c1 ∧ Own wr (w.heap.size + 2) 24 2 a1 k c1 (tabC ((tabE L).take k)) ∧ Blk wr (w.heap.size + 1) 26 (tabC (fillE L k)) ∧ Blk wr w.heap.size 26 (tabC z) ∧ Below w.heap.size w wr ∧ w.heap.size + 2 ≤ wr.heap.size) (fun _ i _ => 16 - (intOf i).toNat)
  case atStart => exact ⟨0, none, 0, by omega, rfl, rfl, Own.nil _ _ _ _, K2', K1', B2', by omega⟩
  case round =>
    obtain ⟨k, a1, c1, hk, rfl, rfl, ho, hb1, hb0, hbl, hsz⟩ := hrel
    clear K1 K2 B1 B2 S1 S2 K1' K2' B2' s2
    have HO := hid ho; have HB1 := hid hb1; have HB0 := hid hb0; have HBL := hid hbl
    clear ho hb1 hb0 hbl
    by_cases hk16 : k < 16
    · have hsn := tabE_snoc L hk16
      have hse := fillE_set L hk16
      have hfl := fillE_len L hk
      have dk : decide ((k : Int) < 16) = true := decide_eq_true (by omega)
      have ik : (k : Int) < 16 := by omega
      by_cases hkl : k < L.length
      · obtain ⟨ba, oa, rfl, hba, hca⟩ := rowE_cells (HR.out.mono HBL.out) (by omega)
        have ca := hca k hkl
        obtain ⟨ca0, ca1⟩ := ca
        have hcut : cutE (L.getD k e0D) = cutE L[k] := by simp [hkl]
        rw [hcut] at hsn hse
        unfold cutE at hsn hse
        generalize L[k].nm = nm at *
        generalize L[k].ino = ino at *
        have HSN := hid hsn; have HSE := hid hse; have HFL := hid hfl
        clear hca hcut hsn hse hfl
        have dl : decide ((k : Int) < (L.length : Int)) = true := decide_eq_true (by omega)
        have il : (k : Int) < (L.length : Int) := by omega
        by_cases hln : nm.size ≤ 20
        · have hsh : shortB nm = nm := if_pos hln
          have dn : decide ((20 : Int) < (nm.size : Int)) = false := decide_eq_false (by omega)
          rw [hsh] at HSN HSE
          clear hsh
          have HB1a : Hid (Blk (wr.alloc (.cells #[.string nm, .int .i64 ino] 24)) (w.heap.size + 1) 26 (tabC (fillE L k))) := HB1.out.mono (albO _ _)
          have HEa : Hid (Blk (wr.alloc (.cells #[.string nm, .int .i64 ino] 24)) wr.heap.size 24 [.string nm, .int .i64 ino]) := blk_newO rfl _ _
          have hkf : k < (fillE L k).length := by rw [HFL.out]; exact hk16
          have HKF := hid hkf
          clear hkf
          go_wp2_with (first
            | ((with_reducible refine wpl_storeEn rfl _ _ rfl (w.heap.size + 1) k rfl nm ino rfl HB1a.out HKF.out ?_); intro w3 k3 g3; rw [HSE.out] at k3; have K3 := hid k3; have G3 := hid g3; clear k3 g3
               have E3 := HEa.out.grownS G3.out (by omega)
               have e30 := E3.cell (i := 0) (by simp); have e31 := E3.cell (i := 1) (by simp)
               simp only [List.getElem_cons_zero, List.getElem_cons_succ] at e30 e31
               have z3 := G3.out.size
               simp at z3
               have o3 := own_grownO (HO.out.alloc (.cells #[.string nm, .int .i64 ino] 24)) G3.out (show w.heap.size + 1 < w.heap.size + 2 by omega)
               have b3 := below_grown0 (HBL.out.alloc HBL.out.size (.cells #[.string nm, .int .i64 ino] 24)) G3.out (show w.heap.size ≤ w.heap.size + 1 by omega) (by simp; omega)
               have h3 := (HB0.out.mono (albO _ (.cells #[.string nm, .int .i64 ino] 24))).grownS G3.out (by omega)
               have O3 := hid o3; have B3 := hid b3; have H3 := hid h3
               clear o3 b3 h3 E3)
            | (at_builtin; have o4 := O3.out.alloc (.cells #[.string nm, .int .i64 ino] 24); have r4 := row_blkO (blk_newO (W := w3) rfl 24 [.string nm, .int .i64 ino]) 2 1 rfl (by omega)
               refine wpl_append rfl (.tmp 31) (.tmp 33) rfl ET (w.heap.size + 2) rfl rfl o4 r4 (entC_one ⟨nm, ino⟩) (by omega) (by omega) (by simp; omega) ?_
               intro a5 c5 w5 o5 g5 b5
               have b6 := (B3.out.alloc B3.out.size (.cells #[.string nm, .int .i64 ino] 24)).trans (b5.mono (by omega))
               have h6 := (H3.out.mono (albO _ (.cells #[.string nm, .int .i64 ino] 24))).below b5 (by omega)
               have k6 := (K3.out.mono (albO _ (.cells #[.string nm, .int .i64 ino] 24))).below b5 (by omega)
               have z6 : w.heap.size + 2 ≤ w5.heap.size := by have := b5.size; simp at this; omega
               have O6 := hid o5; have B6 := hid b6; have H6 := hid h6; have K6 := hid k6
               clear o4 r4 o5 g5 b5 b6 h6 k6))
          go_roundw
          case rel => exact ⟨k + 1, a5, c5, by omega, by go_num, rfl, by have := O6.out; rw [HSN.out, tabC_append, tabC_one']; exact this, K6.out, H6.out, B6.out, z6⟩
          case measure => simp [intOf]; omega
        · have hsh : shortB nm = nm.extract 0 20 := if_neg hln
          have dn : decide ((20 : Int) < (nm.size : Int)) = true := decide_eq_true (by omega)
          have dn2 : (20 : Int) ≤ nm.size := by omega
          rw [hsh] at HSN HSE
          clear hsh
          have HB1a : Hid (Blk (wr.alloc (.cells #[.string (nm.extract 0 20), .int .i64 ino] 24)) (w.heap.size + 1) 26 (tabC (fillE L k))) := HB1.out.mono (albO _ _)
          have HEa : Hid (Blk (wr.alloc (.cells #[.string (nm.extract 0 20), .int .i64 ino] 24)) wr.heap.size 24 [.string (nm.extract 0 20), .int .i64 ino]) := blk_newO rfl _ _
          have hkf : k < (fillE L k).length := by rw [HFL.out]; exact hk16
          have HKF := hid hkf
          clear hkf
          go_wp2_with (first
            | ((with_reducible refine wpl_storeEn rfl _ _ rfl (w.heap.size + 1) k rfl (nm.extract 0 20) ino rfl HB1a.out HKF.out ?_); intro w3 k3 g3; rw [HSE.out] at k3; have K3 := hid k3; have G3 := hid g3; clear k3 g3
               have E3 := HEa.out.grownS G3.out (by omega)
               have e30 := E3.cell (i := 0) (by simp); have e31 := E3.cell (i := 1) (by simp)
               simp only [List.getElem_cons_zero, List.getElem_cons_succ] at e30 e31
               have z3 := G3.out.size
               simp at z3
               have o3 := own_grownO (HO.out.alloc (.cells #[.string (nm.extract 0 20), .int .i64 ino] 24)) G3.out (show w.heap.size + 1 < w.heap.size + 2 by omega)
               have b3 := below_grown0 (HBL.out.alloc HBL.out.size (.cells #[.string (nm.extract 0 20), .int .i64 ino] 24)) G3.out (show w.heap.size ≤ w.heap.size + 1 by omega) (by simp; omega)
               have h3 := (HB0.out.mono (albO _ (.cells #[.string (nm.extract 0 20), .int .i64 ino] 24))).grownS G3.out (by omega)
               have O3 := hid o3; have B3 := hid b3; have H3 := hid h3
               clear o3 b3 h3 E3)
            | (at_builtin; have o4 := O3.out.alloc (.cells #[.string (nm.extract 0 20), .int .i64 ino] 24); have r4 := row_blkO (blk_newO (W := w3) rfl 24 [.string (nm.extract 0 20), .int .i64 ino]) 2 1 rfl (by omega)
               refine wpl_append rfl (.tmp 31) (.tmp 33) rfl ET (w.heap.size + 2) rfl rfl o4 r4 (entC_one ⟨(nm.extract 0 20), ino⟩) (by omega) (by omega) (by simp; omega) ?_
               intro a5 c5 w5 o5 g5 b5
               have b6 := (B3.out.alloc B3.out.size (.cells #[.string (nm.extract 0 20), .int .i64 ino] 24)).trans (b5.mono (by omega))
               have h6 := (H3.out.mono (albO _ (.cells #[.string (nm.extract 0 20), .int .i64 ino] 24))).below b5 (by omega)
               have k6 := (K3.out.mono (albO _ (.cells #[.string (nm.extract 0 20), .int .i64 ino] 24))).below b5 (by omega)
               have z6 : w.heap.size + 2 ≤ w5.heap.size := by have := b5.size; simp at this; omega
               have O6 := hid o5; have B6 := hid b6; have H6 := hid h6; have K6 := hid k6
               clear o4 r4 o5 g5 b5 b6 h6 k6))
          go_roundw
          case rel => exact ⟨k + 1, a5, c5, by omega, by go_num, rfl, by have := O6.out; rw [HSN.out, tabC_append, tabC_one']; exact this, K6.out, H6.out, B6.out, z6⟩
          case measure => simp [intOf]; omega
      · have hcut : cutE (L.getD k e0D) = ⟨⟨#[]⟩, 0⟩ := by simp [hkl, cutE]; decide +kernel
        rw [hcut] at hsn hse
        have HSN := hid hsn; have HSE := hid hse; have HFL := hid hfl
        clear hcut hsn hse hfl
        have dl : decide ((k : Int) < (L.length : Int)) = false := decide_eq_false (by omega)
        have il : ¬ (k : Int) < (L.length : Int) := by omega
        have HB1a : Hid (Blk (wr.alloc (.cells #[.string ⟨#[]⟩, .int .i64 0] 24)) (w.heap.size + 1) 26 (tabC (fillE L k))) := HB1.out.mono (albO _ _)
        have HEa : Hid (Blk (wr.alloc (.cells #[.string ⟨#[]⟩, .int .i64 0] 24)) wr.heap.size 24 [.string ⟨#[]⟩, .int .i64 0]) := blk_newO rfl _ _
        have hkf : k < (fillE L k).length := by rw [HFL.out]; exact hk16
        have HKF := hid hkf
        clear hkf
        go_wp2_with (first
          | ((with_reducible refine wpl_storeEn rfl _ _ rfl (w.heap.size + 1) k rfl ⟨#[]⟩ 0 rfl HB1a.out HKF.out ?_); intro w3 k3 g3; rw [HSE.out] at k3; have K3 := hid k3; have G3 := hid g3; clear k3 g3
             have E3 := HEa.out.grownS G3.out (by omega)
             have e30 := E3.cell (i := 0) (by simp); have e31 := E3.cell (i := 1) (by simp)
             simp only [List.getElem_cons_zero, List.getElem_cons_succ] at e30 e31
             have z3 := G3.out.size
             simp at z3
             have o3 := own_grownO (HO.out.alloc (.cells #[.string ⟨#[]⟩, .int .i64 0] 24)) G3.out (show w.heap.size + 1 < w.heap.size + 2 by omega)
             have b3 := below_grown0 (HBL.out.alloc HBL.out.size (.cells #[.string ⟨#[]⟩, .int .i64 0] 24)) G3.out (show w.heap.size ≤ w.heap.size + 1 by omega) (by simp; omega)
             have h3 := (HB0.out.mono (albO _ (.cells #[.string ⟨#[]⟩, .int .i64 0] 24))).grownS G3.out (by omega)
             have O3 := hid o3; have B3 := hid b3; have H3 := hid h3
             clear o3 b3 h3 E3)
          | (at_builtin; have o4 := O3.out.alloc (.cells #[.string ⟨#[]⟩, .int .i64 0] 24); have r4 := row_blkO (blk_newO (W := w3) rfl 24 [.string ⟨#[]⟩, .int .i64 0]) 2 1 rfl (by omega)
             refine wpl_append rfl (.tmp 31) (.tmp 33) rfl ET (w.heap.size + 2) rfl rfl o4 r4 (entC_one ⟨⟨#[]⟩, 0⟩) (by omega) (by omega) (by simp; omega) ?_
             intro a5 c5 w5 o5 g5 b5
             have b6 := (B3.out.alloc B3.out.size (.cells #[.string ⟨#[]⟩, .int .i64 0] 24)).trans (b5.mono (by omega))
             have h6 := (H3.out.mono (albO _ (.cells #[.string ⟨#[]⟩, .int .i64 0] 24))).below b5 (by omega)
             have k6 := (K3.out.mono (albO _ (.cells #[.string ⟨#[]⟩, .int .i64 0] 24))).below b5 (by omega)
             have z6 : w.heap.size + 2 ≤ w5.heap.size := by have := b5.size; simp at this; omega
             have O6 := hid o5; have B6 := hid b6; have H6 := hid h6; have K6 := hid k6
             clear o4 r4 o5 g5 b5 b6 h6 k6))
        go_roundw
        case rel => exact ⟨k + 1, a5, c5, by omega, by go_num, rfl, by have := O6.out; rw [HSN.out, tabC_append, tabC_one']; exact this, K6.out, H6.out, B6.out, z6⟩
        case measure => simp [intOf]; omega
    · obtain rfl : k = 16 := by omega
      rw [fillE_all] at HB1
      rw [List.take_of_length_le (by rw [tabE_len]; omega)] at HO
      have dk : decide (((16 : Nat) : Int) < 16) = false := by decide
      have ht16 := hid (tabE_len L)
      go_wp2_with (first
        | (with_reducible refine wpl_loadT rfl _ rfl (w.heap.size + 1) rfl (tabE L) ht16.out HB1.out ?_)
        | ((with_reducible refine wpl_storeT rfl _ _ rfl w.heap.size rfl (tabE L) ht16.out rfl HB0.out HL.out ?_); intro w4 k4 g4; have K4 := hid k4; have G4 := hid g4; clear k4 g4))
      have o4 := own_grownO HO.out G4.out (show w.heap.size < w.heap.size + 2 by omega)
      obtain ⟨g, rfl⟩ := own_someO o4 (by omega)
      refine bodyPost_ret (results_cell2 rfl rfl K4.out Try.underlying26 rfl (by rw [infoTab, tabC_len, ht16.out])) rfl ⟨g, c1, rfl, o4.low (by omega), below_grown0 HBL.out G4.out (Nat.le_refl _) HBL.out.size⟩
end Go.Proofs.Ytejfkjfidhdfaaa
