/- The document's bag: Drop, Lose, To, Take. -/
import Derived.Test.YtgigadjohjpdkaaNetK
import Derived.BigQuiet
import Derived.WalkSmall
namespace Go.Proofs.Ytgigadjohjpdkaa
open Go.RowKit
set_option linter.unusedSimpArgs false
set_option linter.unusedVariables false

def eraF {α : Type} (k : Nat) : List α → Nat → List α
  | [], _ => []
  | x :: r, j => if j = k then eraF k r (j + 1) else x :: eraF k r (j + 1)
theorem eraF_gt {α : Type} (k : Nat) : ∀ (M : List α) (j : Nat), k < j → eraF k M j = M
  | [], _, _ => rfl
  | x :: r, j, h => by
    unfold eraF
    rw [if_neg (by omega), eraF_gt k r (j + 1) (by omega)]
theorem eraF_eq {α : Type} (k : Nat) : ∀ (M : List α) (j : Nat), j ≤ k → eraF k M j = M.eraseIdx (k - j)
  | [], _, _ => rfl
  | x :: r, j, h => by
    unfold eraF
    by_cases hj : j = k
    · subst hj
      rw [if_pos rfl, eraF_gt j r (j + 1) (by omega), Nat.sub_self]; rfl
    · rw [if_neg hj, eraF_eq k r (j + 1) (by omega), show k - j = (k - (j + 1)) + 1 by omega]; rfl
def idxR (node : Int) : List (Int × List UInt8) → Nat → List Int
  | [], _ => []
  | p :: r, j => if p.1 = node then (j : Int) :: idxR node r (j + 1) else idxR node r (j + 1)
/-- what a bag's packets are to the document -/
def seenP (p : PkT) : Int × List UInt8 := (p.to, p.xs)
theorem idxR_map (node : Int) : ∀ (L : List PkT) (j : Nat), idxR node (L.map seenP) j = idxT node L j
  | [], _ => rfl
  | p :: r, j => by
    show (if p.to = node then _ else _) = _
    unfold idxT
    rw [idxR_map node r (j + 1)]

theorem rdrop_no (g : Nat) (ra : Option Addr) (n rc : Nat) (k : Int) (w : World) (h : Blk w g 28 [.slice ra n rc]) (hno : ¬ (0 ≤ k ∧ k < n)) :
    Calls Try.prog 17 #[.pointer (some ⟨g, 0, none⟩), .int .i64 k] w fun e w' => e = .returned (.bool false) ∧ w = w' := by
  have c0 : w.cell? ⟨g, 0, none⟩ = some (.slice ra n rc) := h.cell (i := 0) (by simp)
  clear h
  by_cases h0 : k < 0
  · have d0 : decide (k < 0) = true := decide_eq_true h0
    clear hno
    go_enter Try.func17, Try.ntmps17
    go_wp2
    go_ret
    exact ⟨rfl, rfl⟩
  · have d0 : decide (k < 0) = false := decide_eq_false h0
    have d1 : decide ((n : Int) ≤ k) = true := decide_eq_true (by omega)
    clear hno
    go_enter Try.func17, Try.ntmps17
    go_wp2
    go_ret
    exact ⟨rfl, rfl⟩
theorem ex2_set {w wr : World} {B g : Nat} (hb : Below w.heap.size w wr) (v : Value) : Ex2 g g w (wr.setCell ⟨g, 0, none⟩ v) := by
  have G := sg_set (sg_refl wr (some g)) 0 v
  exact ⟨Nat.le_trans hb.size G.size, fun k' h1 h2 h3 => (G.block k' (Nat.lt_of_lt_of_le h1 hb.size) (by simpa using h3)).trans (hb.block k' h1)⟩
theorem RefP.stored {w wr : World} {B g : Nat} {ra a : Option Addr} {rc c : Nat} {M R : List (Int × List UInt8)} {n : Nat} (hBg : B ≤ g) (hk : Blk wr g 28 [.slice ra n rc]) (ho : Own wr w.heap.size 52 2 a R.length c (R.flatMap rkC)) (hb : Below w.heap.size w wr) (hB : B ≤ w.heap.size) :
    RefP (wr.setCell ⟨g, 0, none⟩ (.slice a R.length c)) B g a c R ∧ Below B w (wr.setCell ⟨g, 0, none⟩ (.slice a R.length c)) ∧ StayT 28 52 w (wr.setCell ⟨g, 0, none⟩ (.slice a R.length c)) := by
  have G := sg_set (sg_refl wr (some g)) 0 (.slice a R.length c)
  exact ⟨⟨hBg, hk.set 0 _, (Own.staysO ho G (.inr (own_ne_blk ho hk (by decide)))).low hB⟩, (hb.mono hB).setCell (p := ⟨g, 0, none⟩) hBg _, (StayT.of_below hb).trans (StayT.of_grown1 hk G)⟩

set_option maxHeartbeats 2000000 in
theorem rdrop_yes (B g : Nat) (ra : Option Addr) (rc : Nat) (M : List (Int × List UInt8)) (k : Nat) (w : World) (h : RefP w B g ra rc M) (hk : k < M.length) (hn9 : M.length ≤ 200) (hB : B ≤ w.heap.size) :
    Calls Try.prog 17 #[.pointer (some ⟨g, 0, none⟩), .int .i64 k] w fun e w' => e = .returned (.bool true) ∧ ∃ ra' rc', RefP w' B g ra' rc' (M.eraseIdx k) ∧ Below B w w' ∧ StayT 28 52 w w' ∧ Ex2 g g w w' := by
  have t1 : True := trivial
  obtain ⟨hBg, hb, ho⟩ := h
  have hrow := ho.row
  have HK := hid hb
  have HROW := hid hrow
  have HBg := hid hBg
  have hgl := hb.lt
  have c0 : w.cell? ⟨g, 0, none⟩ = some (.slice ra M.length rc) := hb.cell (i := 0) (by simp)
  obtain ⟨R, hR⟩ : ∃ R, R = M.eraseIdx k := ⟨_, rfl⟩
  rw [← hR]
  have HR := hid (show ([] : List (Int × List UInt8)) ++ eraF k (M.drop 0) 0 = R by rw [hR]; exact eraF_eq k M 0 (Nat.zero_le _))
  have d0 : decide ((k : Int) < 0) = false := decide_eq_false (by omega)
  have d1 : decide ((M.length : Int) ≤ (k : Int)) = false := decide_eq_false (by omega)
  have d2 : decide (M.length ≤ k) = false := decide_eq_false (by omega)
  clear hb ho hrow hR hBg
  go_enter Try.func17, Try.ntmps17
  go_wp2_with fail
  go_loopw [6, 5] (fun i l wr => ∃ (j : Nat) (acc : List (Int × List UInt8)) (a : Option Addr) (c : Nat), j ≤ M.length ∧ acc.length ≤ j ∧ i = .int .i64 j ∧ l = .slice a acc.length c ∧ Own wr w.heap.size 52 2 a acc.length c (acc.flatMap rkC) ∧ acc ++ eraF k (M.drop j) j = R ∧ Below w.heap.size w wr) (fun i _ _ => M.length - (intOf i).toNat)
  case atStart => exact ⟨0, [], none, 0, Nat.zero_le _, Nat.le_refl _, rfl, rfl, Own.nil _ _ _ _, HR.out, Below.refl _ _⟩
  case round =>
    obtain ⟨j, acc, a, c, hj, haj, rfl, rfl, hown, hacc, hbel⟩ := hrel
    have cg : wr.cell? ⟨g, 0, none⟩ = some (.slice ra M.length rc) := (HK.out.mono hbel).cell (i := 0) (by simp)
    have fg : wr.frozen? ⟨g, 0, none⟩ = false := (HK.out.mono hbel).frozen 0
    by_cases hlt : j < M.length
    · obtain ⟨b, off, e, hbl, hc⟩ := row_flat (enc := rkC) (fun _ => rfl) (HROW.out.mono hbel) (by omega)
      subst e
      have hc0 : wr.cell? ⟨b, off + j * 2, none⟩ = some (.int .i64 M[j].1) := hc j hlt 0 _ rfl
      have hc1 : wr.cell? ⟨b, off + j * 2 + 1, none⟩ = some (.string ⟨M[j].2.toArray⟩) := hc j hlt 1 _ rfl
      have hcap : M.length ≤ rc := HROW.out.2.1
      have hc9 := HROW.out.2.2.1
      have ltd : decide ((j : Int) < (M.length : Int)) = true := decide_eq_true (by omega)
      rw [List.drop_eq_getElem_cons hlt] at hacc
      have ONE := hid (show ∀ v ∈ ([.int .i64 M[j].1, .string ⟨M[j].2.toArray⟩] : List Value), v.oneCell' = true from rkC_one M[j])
      have HCAT := hid (show acc.flatMap rkC ++ [Value.int .i64 M[j].1, .string ⟨M[j].2.toArray⟩] = (acc ++ [M[j]]).flatMap rkC by rw [List.flatMap_append]; rfl)
      have HW := hid (hown.mono (albO wr (.cells #[.int .i64 M[j].1, .string ⟨M[j].2.toArray⟩] 52)))
      have R4 := hid (row_blkO (blk_newO (W := wr) rfl 52 [.int .i64 M[j].1, .string ⟨M[j].2.toArray⟩]) 2 1 rfl (by omega))
      have HA := hid (albO wr (.cells #[.int .i64 M[j].1, .string ⟨M[j].2.toArray⟩] 52))
      have hzr := hbel.size
      have HBL := hid hbel
      have HOWN := hid hown
      clear hc hbel hown
      by_cases hjk : j = k
      · have dk : ((j : Int) == (k : Int)) = true := by rw [beq_iff_eq]; omega
        have dk1 : decide ((j : Int) = (k : Int)) = true := decide_eq_true (by omega)
        subst hjk
        have HACC := hid (show acc ++ eraF j (M.drop (j + 1)) (j + 1) = R by rw [← hacc]; simp only [eraF, if_true])
        clear hacc
        generalize M[j] = q at *
        go_wp2_with fail
        go_roundw
        case rel => exact ⟨j + 1, acc, a, c, by omega, by omega, by go_num, rfl, HOWN.out, HACC.out, HBL.out⟩
        case measure => simp [intOf]; omega
      · have dk : ((j : Int) == (k : Int)) = false := by rw [beq_eq_false_iff_ne]; omega
        have dk1 : decide ((j : Int) = (k : Int)) = false := decide_eq_false (by omega)
        have HACC := hid (show (acc ++ [M[j]]) ++ eraF k (M.drop (j + 1)) (j + 1) = R by rw [← hacc]; simp only [eraF, hjk, if_false, List.append_assoc, List.cons_append, List.nil_append])
        clear hacc
        generalize M[j] = q at *
        go_wp2_with (at_builtin; have _t := t1; (refine wpl_append rfl (.tmp 30) (.tmp 38) rfl ERk w.heap.size rfl rfl HW.out R4.out ONE.out (by omega) (by omega) (Nat.le_trans hzr HA.out.size) ?_); clear t1; intro a6 c6 w6 o6 g6 b6; have O6 := hid o6; have B6 := hid b6; clear o6 g6 b6)
        go_roundw
        case rel =>
          refine ⟨j + 1, acc ++ [q], a6, c6, by omega, by simp; omega, by go_num, by simp, ?_, HACC.out, HBL.out.trans ((HA.out.mono hzr).trans B6.out)⟩
          have := O6.out
          rw [HCAT.out] at this
          rw [List.length_append]
          exact this
        case measure => simp [intOf]; omega
    · obtain rfl : j = M.length := by omega
      rw [List.drop_length] at hacc
      have HE := hid (show acc = R by rw [← hacc]; exact (List.append_nil _).symm)
      have HS := hid (RefP.stored (M := M) HBg.out (HK.out.mono hbel) hown hbel hB)
      have HX := hid (ex2_set (B := B) (g := g) hbel (.slice a acc.length c))
      have ltd : decide ((M.length : Int) < (M.length : Int)) = false := decide_eq_false (by omega)
      clear hacc hown hbel
      go_wp2_with fail
      go_ret
      have e := HE.out
      subst e
      obtain ⟨h1, h2, h3⟩ := HS.out
      exact ⟨rfl, a, c, h1, h2, h3, HX.out⟩

set_option maxHeartbeats 2000000 in
theorem rlose_any (B g : Nat) (ra : Option Addr) (rc : Nat) (M : List (Int × List UInt8)) (node : Int) (w : World) (h : RefP w B g ra rc M) (hn9 : M.length ≤ 200) (hB : B ≤ w.heap.size) :
    Calls Try.prog 19 #[.pointer (some ⟨g, 0, none⟩), .int .i64 node] w fun e w' => e = .returned (.tuple #[]) ∧ ∃ ra' rc', RefP w' B g ra' rc' (M.filter (fun q => !decide (q.1 = node))) ∧ Below B w w' ∧ StayT 28 52 w w' ∧ Ex2 g g w w' := by
  have t1 : True := trivial
  obtain ⟨hBg, hb, ho⟩ := h
  have hrow := ho.row
  have HK := hid hb
  have HROW := hid hrow
  have HBg := hid hBg
  have hgl := hb.lt
  have c0 : w.cell? ⟨g, 0, none⟩ = some (.slice ra M.length rc) := hb.cell (i := 0) (by simp)
  obtain ⟨R, hR⟩ : ∃ R, R = M.filter (fun q => !decide (q.1 = node)) := ⟨_, rfl⟩
  rw [← hR]
  have HR := hid (show ([] : List (Int × List UInt8)) ++ (M.drop 0).filter (fun q => !decide (q.1 = node)) = R by rw [hR]; rfl)
  clear hb ho hrow hR hBg
  go_enter Try.func19, Try.ntmps19
  go_wp2_with fail
  go_loopw [5, 4] (fun i l wr => ∃ (j : Nat) (acc : List (Int × List UInt8)) (a : Option Addr) (c : Nat), j ≤ M.length ∧ acc.length ≤ j ∧ i = .int .i64 j ∧ l = .slice a acc.length c ∧ Own wr w.heap.size 52 2 a acc.length c (acc.flatMap rkC) ∧ acc ++ (M.drop j).filter (fun q => !decide (q.1 = node)) = R ∧ Below w.heap.size w wr) (fun i _ _ => M.length - (intOf i).toNat)
  case atStart => exact ⟨0, [], none, 0, Nat.zero_le _, Nat.le_refl _, rfl, rfl, Own.nil _ _ _ _, HR.out, Below.refl _ _⟩
  case round =>
    obtain ⟨j, acc, a, c, hj, haj, rfl, rfl, hown, hacc, hbel⟩ := hrel
    have cg : wr.cell? ⟨g, 0, none⟩ = some (.slice ra M.length rc) := (HK.out.mono hbel).cell (i := 0) (by simp)
    have fg : wr.frozen? ⟨g, 0, none⟩ = false := (HK.out.mono hbel).frozen 0
    by_cases hlt : j < M.length
    · obtain ⟨b, off, e, hbl, hc⟩ := row_flat (enc := rkC) (fun _ => rfl) (HROW.out.mono hbel) (by omega)
      subst e
      have hc0 : wr.cell? ⟨b, off + j * 2, none⟩ = some (.int .i64 M[j].1) := hc j hlt 0 _ rfl
      have hc1 : wr.cell? ⟨b, off + j * 2 + 1, none⟩ = some (.string ⟨M[j].2.toArray⟩) := hc j hlt 1 _ rfl
      have hcap : M.length ≤ rc := HROW.out.2.1
      have hc9 := HROW.out.2.2.1
      have ltd : decide ((j : Int) < (M.length : Int)) = true := decide_eq_true (by omega)
      rw [List.drop_eq_getElem_cons hlt] at hacc
      have ONE := hid (show ∀ v ∈ ([.int .i64 M[j].1, .string ⟨M[j].2.toArray⟩] : List Value), v.oneCell' = true from rkC_one M[j])
      have HCAT := hid (show acc.flatMap rkC ++ [Value.int .i64 M[j].1, .string ⟨M[j].2.toArray⟩] = (acc ++ [M[j]]).flatMap rkC by rw [List.flatMap_append]; rfl)
      have HW := hid (hown.mono (albO wr (.cells #[.int .i64 M[j].1, .string ⟨M[j].2.toArray⟩] 52)))
      have R4 := hid (row_blkO (blk_newO (W := wr) rfl 52 [.int .i64 M[j].1, .string ⟨M[j].2.toArray⟩]) 2 1 rfl (by omega))
      have HA := hid (albO wr (.cells #[.int .i64 M[j].1, .string ⟨M[j].2.toArray⟩] 52))
      have hzr := hbel.size
      have HBL := hid hbel
      have HOWN := hid hown
      clear hc hbel hown
      by_cases hjk : M[j].1 = node
      · have dk : (M[j].1 == node) = true := by rw [beq_iff_eq]; exact hjk
        have dk1 : decide (M[j].1 = node) = true := decide_eq_true hjk
        have HACC := hid (show acc ++ (M.drop (j + 1)).filter (fun q => !decide (q.1 = node)) = R by rw [← hacc]; rw [List.filter_cons_of_neg (by simp [hjk])])
        clear hacc hjk
        generalize M[j] = q at *
        go_wp2_with fail
        go_roundw
        case rel => exact ⟨j + 1, acc, a, c, by omega, by omega, by go_num, rfl, HOWN.out, HACC.out, HBL.out⟩
        case measure => simp [intOf]; omega
      · have dk : (M[j].1 == node) = false := by rw [beq_eq_false_iff_ne]; exact hjk
        have dk1 : decide (M[j].1 = node) = false := decide_eq_false hjk
        have HACC := hid (show (acc ++ [M[j]]) ++ (M.drop (j + 1)).filter (fun q => !decide (q.1 = node)) = R by rw [← hacc]; rw [List.append_assoc, List.filter_cons_of_pos (by simp [hjk])]; rfl)
        clear hacc hjk
        generalize M[j] = q at *
        go_wp2_with (at_builtin; have _t := t1; (refine wpl_append rfl (.tmp 25) (.tmp 33) rfl ERk w.heap.size rfl rfl HW.out R4.out ONE.out (by omega) (by omega) (Nat.le_trans hzr HA.out.size) ?_); clear t1; intro a6 c6 w6 o6 g6 b6; have O6 := hid o6; have B6 := hid b6; clear o6 g6 b6)
        go_roundw
        case rel =>
          refine ⟨j + 1, acc ++ [q], a6, c6, by omega, by simp; omega, by go_num, by simp, ?_, HACC.out, HBL.out.trans ((HA.out.mono hzr).trans B6.out)⟩
          have := O6.out
          rw [HCAT.out] at this
          rw [List.length_append]
          exact this
        case measure => simp [intOf]; omega
    · obtain rfl : j = M.length := by omega
      rw [List.drop_length] at hacc
      have HE := hid (show acc = R by rw [← hacc]; exact (List.append_nil _).symm)
      have HS := hid (RefP.stored (M := M) HBg.out (HK.out.mono hbel) hown hbel hB)
      have HX := hid (ex2_set (B := B) (g := g) hbel (.slice a acc.length c))
      have ltd : decide ((M.length : Int) < (M.length : Int)) = false := decide_eq_false (by omega)
      clear hacc hown hbel
      go_wp2_with fail
      go_end0
      have e := HE.out
      subst e
      obtain ⟨h1, h2, h3⟩ := HS.out
      exact ⟨rfl, a, c, h1, h2, h3, HX.out⟩

theorem EI21r : ElemT Try.prog 38 3 1 8 := EI21
set_option maxHeartbeats 2000000 in
theorem rTo_any (B g : Nat) (ra : Option Addr) (rc : Nat) (M : List (Int × List UInt8)) (node : Int) (w : World) (h : RefP w B g ra rc M) (hn9 : M.length ≤ 1000) :
    Calls Try.prog 21 #[.pointer (some ⟨g, 0, none⟩), .int .i64 node] w fun e w' => ∃ a c, e = .returned (.slice a (idxR node M 0).length c) ∧ RowI w' a c (idxR node M 0) ∧ Below w.heap.size w w' := by
  have t1 : True := trivial
  obtain ⟨hBg, hb, ho⟩ := h
  have hrow := ho.row
  have HK := hid hb
  have HROW := hid hrow
  have c0 : w.cell? ⟨g, 0, none⟩ = some (.slice ra M.length rc) := hb.cell (i := 0) (by simp)
  obtain ⟨R, hR⟩ : ∃ R, R = idxR node M 0 := ⟨_, rfl⟩
  rw [← hR]
  have HR := hid (show ([] : List Int) ++ idxR node (M.drop 0) 0 = R by rw [hR]; rfl)
  clear hb ho hrow hR hBg
  go_enter Try.func21, Try.ntmps21
  go_wp2_with fail
  go_loopw [6, 5] (fun i l wr => ∃ (j : Nat) (acc : List Int) (a : Option Addr) (c : Nat), j ≤ M.length ∧ acc.length ≤ j ∧ i = .int .i64 j ∧ l = .slice a acc.length c ∧ Own wr w.heap.size 3 1 a acc.length c (acc.map iV) ∧ acc ++ idxR node (M.drop j) j = R ∧ Below w.heap.size w wr) (fun i _ _ => M.length - (intOf i).toNat)
  case atStart => exact ⟨0, [], none, 0, Nat.zero_le _, Nat.le_refl _, rfl, rfl, Own.nil _ _ _ _, HR.out, Below.refl _ _⟩
  case round =>
    obtain ⟨j, acc, a, c, hj, haj, rfl, rfl, hown, hacc, hbel⟩ := hrel
    have cg : wr.cell? ⟨g, 0, none⟩ = some (.slice ra M.length rc) := (HK.out.mono hbel).cell (i := 0) (by simp)
    by_cases hlt : j < M.length
    · obtain ⟨b, off, e, hbl, hc⟩ := row_flat (enc := rkC) (fun _ => rfl) (HROW.out.mono hbel) (by omega)
      subst e
      have hc0 : wr.cell? ⟨b, off + j * 2, none⟩ = some (.int .i64 M[j].1) := hc j hlt 0 _ rfl
      have hcap : M.length ≤ rc := HROW.out.2.1
      have hc9 := HROW.out.2.2.1
      have ltd : decide ((j : Int) < (M.length : Int)) = true := decide_eq_true (by omega)
      rw [List.drop_eq_getElem_cons hlt] at hacc
      have HW := hid (hown.mono (albO wr (.cells #[iV j] 3)))
      have R4 := hid (row_new1 wr (iV j) 3)
      have HA := hid (albO wr (.cells #[iV j] 3))
      have hzr := hbel.size
      have HBL := hid hbel
      have HOWN := hid hown
      clear hc hbel hown
      by_cases hjk : M[j].1 = node
      · have dk : (M[j].1 == node) = true := by rw [beq_iff_eq]; exact hjk
        have HACC := hid (show (acc ++ [(j : Int)]) ++ idxR node (M.drop (j + 1)) (j + 1) = R by rw [← hacc]; simp only [idxR, hjk, if_true, List.append_assoc, List.cons_append, List.nil_append])
        clear hacc hjk
        generalize M[j].1 = q at *
        go_wp2_with (at_builtin; have _t := t1; (refine wpl_append rfl (.tmp 26) (.tmp 28) rfl EI21 w.heap.size rfl rfl HW.out R4.out (by intro u hu; rw [List.mem_singleton.1 hu]; rfl) (by omega) (by omega) (Nat.le_trans hzr HA.out.size) ?_); clear t1; intro a6 c6 w6 o6 g6 b6; have O6 := hid o6; have B6 := hid b6; clear o6 g6 b6)
        go_roundw
        case rel =>
          refine ⟨j + 1, acc ++ [(j : Int)], a6, c6, by omega, by simp; omega, by go_num, by simp, ?_, HACC.out, HBL.out.trans ((HA.out.mono hzr).trans B6.out)⟩
          have := O6.out
          rw [List.length_append, List.map_append]
          exact this
        case measure => simp [intOf]; omega
      · have dk : (M[j].1 == node) = false := by rw [beq_eq_false_iff_ne]; exact hjk
        have HACC := hid (show acc ++ idxR node (M.drop (j + 1)) (j + 1) = R by rw [← hacc]; simp only [idxR, hjk, if_false])
        clear hacc hjk
        generalize M[j].1 = q at *
        go_wp2_with fail
        go_roundw
        case rel => exact ⟨j + 1, acc, a, c, by omega, by omega, by go_num, rfl, HOWN.out, HACC.out, HBL.out⟩
        case measure => simp [intOf]; omega
    · obtain rfl : j = M.length := by omega
      rw [List.drop_length] at hacc
      have HE := hid (show acc = R by rw [← hacc]; exact (List.append_nil _).symm)
      have HRW := hid hown.row
      have HBL := hid hbel
      have ltd : decide ((M.length : Int) < (M.length : Int)) = false := decide_eq_false (by omega)
      clear hacc hown hbel
      go_wp2_with fail
      go_ret
      have e := HE.out
      subst e
      exact ⟨a, c, rfl, HRW.out, HBL.out⟩

theorem rtake_no (g : Nat) (ra : Option Addr) (n rc : Nat) (k : Int) (st : Bool) (w : World) (h : Blk w g 28 [.slice ra n rc]) (hno : ¬ (0 ≤ k ∧ k < n)) :
    Calls Try.prog 15 #[.pointer (some ⟨g, 0, none⟩), .int .i64 k, .bool st] w fun e w' => e = .returned (.tuple #[.int .i64 0, .string ⟨#[]⟩, .bool false]) ∧ w = w' := by
  have c0 : w.cell? ⟨g, 0, none⟩ = some (.slice ra n rc) := h.cell (i := 0) (by simp)
  clear h
  by_cases h0 : k < 0
  · have d0 : decide (k < 0) = true := decide_eq_true h0
    clear hno
    go_enter Try.func15, Try.ntmps15
    go_wp2
    go_ret3
    exact ⟨rfl, rfl⟩
  · have d0 : decide (k < 0) = false := decide_eq_false h0
    have d1 : decide ((n : Int) ≤ k) = true := decide_eq_true (by omega)
    clear hno
    go_enter Try.func15, Try.ntmps15
    go_wp2
    go_ret3
    exact ⟨rfl, rfl⟩

set_option maxHeartbeats 2000000 in
theorem rtake_stay (B g : Nat) (ra : Option Addr) (rc : Nat) (M : List (Int × List UInt8)) (k : Nat) (w : World) (h : RefP w B g ra rc M) (hk : k < M.length) (hn9 : M.length ≤ 200) (hB : B ≤ w.heap.size) :
    Calls Try.prog 15 #[.pointer (some ⟨g, 0, none⟩), .int .i64 k, .bool true] w fun e w' => e = .returned (.tuple #[.int .i64 M[k].1, .string ⟨M[k].2.toArray⟩, .bool true]) ∧ Below w.heap.size w w' := by
  obtain ⟨hBg, hb, ho⟩ := h
  have hgl := hb.lt
  have c0 : w.cell? ⟨g, 0, none⟩ = some (.slice ra M.length rc) := hb.cell (i := 0) (by simp)
  have hrow := ho.row
  obtain ⟨b, off, e, hbl, hc⟩ := row_flat (enc := rkC) (fun _ => rfl) hrow (by omega)
  subst e
  have hc0 : w.cell? ⟨b, off + k * 2, none⟩ = some (.int .i64 M[k].1) := hc k hk 0 _ rfl
  have hc1 : w.cell? ⟨b, off + k * 2 + 1, none⟩ = some (.string ⟨M[k].2.toArray⟩) := hc k hk 1 _ rfl
  have hcap : M.length ≤ rc := hrow.2.1
  have hc9 := hrow.2.2.1
  have d0 : decide ((k : Int) < 0) = false := decide_eq_false (by omega)
  have d1 : decide ((M.length : Int) ≤ (k : Int)) = false := decide_eq_false (by omega)
  have d2 : decide (M.length ≤ k) = false := decide_eq_false (by omega)
  clear hb ho hrow hc
  obtain ⟨S, hS⟩ : ∃ S : ByteArray, S = ⟨M[k].2.toArray⟩ := ⟨_, rfl⟩
  rw [← hS] at hc1 ⊢
  generalize M[k].1 = to at *
  clear hS
  have B0 := hid (albO w (.cells #[.int .i64 to, .string S] 52))
  have HW0 := hid (blk_newO (W := w) rfl 52 [.int .i64 to, .string S])
  go_enter Try.func15, Try.ntmps15
  go_wp2_with fail
  go_quiet (fail)
  go_wp2_with fail
  go_ret3
  exact ⟨rfl, below_drewN B0.out _⟩

set_option maxHeartbeats 2000000 in
theorem rtake_off (B g : Nat) (ra : Option Addr) (rc : Nat) (M : List (Int × List UInt8)) (k : Nat) (w : World) (h : RefP w B g ra rc M) (hk : k < M.length) (hn9 : M.length ≤ 200) (hB : B ≤ w.heap.size) :
    Calls Try.prog 15 #[.pointer (some ⟨g, 0, none⟩), .int .i64 k, .bool false] w fun e w' => e = .returned (.tuple #[.int .i64 M[k].1, .string ⟨M[k].2.toArray⟩, .bool true]) ∧ ∃ ra' rc', RefP w' B g ra' rc' (M.eraseIdx k) ∧ Below B w w' ∧ StayT 28 52 w w' := by
  have HD := hid (fun (X : World) (q : Below w.heap.size w X) => rdrop_yes B g ra rc M k X (h.mono q) hk hn9 (Nat.le_trans hB q.size))
  obtain ⟨hBg, hb, ho⟩ := h
  have hgl := hb.lt
  have c0 : w.cell? ⟨g, 0, none⟩ = some (.slice ra M.length rc) := hb.cell (i := 0) (by simp)
  have hrow := ho.row
  obtain ⟨b, off, e, hbl, hc⟩ := row_flat (enc := rkC) (fun _ => rfl) hrow (by omega)
  subst e
  have hc0 : w.cell? ⟨b, off + k * 2, none⟩ = some (.int .i64 M[k].1) := hc k hk 0 _ rfl
  have hc1 : w.cell? ⟨b, off + k * 2 + 1, none⟩ = some (.string ⟨M[k].2.toArray⟩) := hc k hk 1 _ rfl
  have hcap : M.length ≤ rc := hrow.2.1
  have hc9 := hrow.2.2.1
  have d0 : decide ((k : Int) < 0) = false := decide_eq_false (by omega)
  have d1 : decide ((M.length : Int) ≤ (k : Int)) = false := decide_eq_false (by omega)
  have d2 : decide (M.length ≤ k) = false := decide_eq_false (by omega)
  clear hb ho hrow hc
  obtain ⟨S, hS⟩ : ∃ S : ByteArray, S = ⟨M[k].2.toArray⟩ := ⟨_, rfl⟩
  rw [← hS] at hc1 ⊢
  generalize M[k].1 = to at *
  clear hS
  have B0 := hid (albO w (.cells #[.int .i64 to, .string S] 52))
  have HW0 := hid (blk_newO (W := w) rfl 52 [.int .i64 to, .string S])
  go_enter Try.func15, Try.ntmps15
  go_wp2_with (go_at_call 17; refine (HD.out _ B0.out).mono ?_; rintro e w2 ⟨rfl, ra', rc', p2, b2, s2, x2⟩; have P2 := hid p2; have BB2 := hid ((B0.out.mono hB).trans b2); have S2 := hid ((StayT.of_below B0.out).trans s2); have K2 : Blk w2 w.heap.size 52 [.int .i64 to, .string S] := (x2.2 w.heap.size (by simp) (by omega) (by omega)).trans HW0.out; have x0 := K2.cell (i := 0) (by simp); have x1 := K2.cell (i := 1) (by simp); simp only [List.getElem_cons_zero, List.getElem_cons_succ] at x0 x1; clear K2 p2 b2 s2 x2)
  go_quiet (fail)
  go_wp2_with fail
  go_ret3
  exact ⟨rfl, ra', rc', P2.out.mono (below_drewN (Below.refl _ _) _), below_drewN BB2.out _, S2.out.trans (StayT.of_below (below_drewN (Below.refl _ _) _))⟩
end Go.Proofs.Ytgigadjohjpdkaa
