/- A directory's table: Set. -/
import Derived.Test.YtejfkjfidhdfaaaDirE
namespace Go.Proofs.Ytejfkjfidhdfaaa
open Go.RowKit Go.Shelf
set_option linter.unusedSimpArgs false
set_option linter.unusedVariables false

theorem infoTab : (Try.prog.info? 26).map (·.size) = some 32 := by kernel_rfl
def zeroT : List EntT := List.replicate 16 ⟨⟨#[]⟩, 0⟩
def litT : Array Value := #[.string ⟨#[]⟩, .int .i64 0, .string ⟨#[]⟩, .int .i64 0, .string ⟨#[]⟩, .int .i64 0, .string ⟨#[]⟩, .int .i64 0, .string ⟨#[]⟩, .int .i64 0, .string ⟨#[]⟩, .int .i64 0, .string ⟨#[]⟩, .int .i64 0, .string ⟨#[]⟩, .int .i64 0, .string ⟨#[]⟩, .int .i64 0, .string ⟨#[]⟩, .int .i64 0, .string ⟨#[]⟩, .int .i64 0, .string ⟨#[]⟩, .int .i64 0, .string ⟨#[]⟩, .int .i64 0, .string ⟨#[]⟩, .int .i64 0, .string ⟨#[]⟩, .int .i64 0, .string ⟨#[]⟩, .int .i64 0]
theorem litT_eq : litT = (tabC zeroT).toArray := rfl
theorem entC_one (e : EntT) : ∀ v ∈ entC e, v.oneCell' = true := by
  intro v hv
  unfold entC at hv
  simp only [List.mem_cons, List.not_mem_nil, or_false] at hv
  rcases hv with e | e <;> rw [e] <;> rfl
theorem tabC_one (t : List EntT) : ∀ v ∈ tabC t, v.oneCell' = true := by
  intro v hv
  simp only [tabC, List.mem_flatMap] at hv
  obtain ⟨e, _, he⟩ := hv
  exact entC_one e v he
theorem tabC_set (t : List EntT) (e : EntT) : ∀ i, i < t.length → tabC (t.set i e) = ((tabC t).set (2 * i) (.string e.nm)).set (2 * i + 1) (.int .i64 e.ino) := by
  induction t with
  | nil => intro i h; cases h
  | cons d r ih =>
    intro i h
    cases i with
    | zero => rfl
    | succ k =>
      rw [show 2 * (k + 1) = 2 * k + 1 + 1 by omega]
      show entC d ++ tabC (r.set k e) = _
      rw [ih k (by simpa using h)]
      rfl
theorem wpl_loadT {w : World} {ops : Array Oper} {rest : List Oper} {o : Oper} {act : Act} {Q : Exit → Act → World → Prop} (hgd : o.guard = none) (x : Operand)
    (ho : o.op = .load 26 x) (g : Nat) (hx : act.eval x = .pointer (some ⟨g, 0, none⟩)) {e : TypeId} (t : List EntT) (ht : t.length = 16) (hb : Blk w g e (tabC t))
    (h : wpList Try.prog ops Q rest (act.put o.dst (.agg (tabC t).toArray)) w) : wpList Try.prog ops Q (o :: rest) act w :=
  wpList_load_mid hgd 26 x ho g 0 hx (tabC t) _ hb.range Try.underlying26 rfl (by rw [infoTab, tabC_len, ht]) h
theorem wpl_storeT {w : World} {ops : Array Oper} {rest : List Oper} {o : Oper} {act : Act} {Q : Exit → Act → World → Prop} (hgd : o.guard = none) (x y : Operand)
    (ho : o.op = .store 26 x y) (g : Nat) (hx : act.eval x = .pointer (some ⟨g, 0, none⟩)) {e : TypeId} (t : List EntT) (ht : t.length = 16) (hy : act.eval y = .agg (tabC t).toArray) {L : List Value} (hb : Blk w g e L) (hL : L.length = 32)
    (h : ∀ w', Blk w' g e (tabC t) → w.grownBy w' (some g) → wpList Try.prog ops Q rest (act.put o.dst undef) w') : wpList Try.prog ops Q (o :: rest) act w :=
  wpl_storeS hgd 26 x y ho g hx (tabC t) hy (by rw [infoTab, tabC_len, ht]) (tabC_one _) hb (by rw [tabC_len, ht, hL]) h
def setT (t : List EntT) (at_ : Int) (e : EntT) : List EntT := if 0 ≤ at_ ∧ at_ < 16 then t.set at_.toNat e else t
theorem setT_len (t : List EntT) (at_ : Int) (e : EntT) : (setT t at_ e).length = t.length := by unfold setT; split <;> simp

theorem infoEnt : (Try.prog.info? 24).map (·.size) = some 2 := by kernel_rfl
theorem wpl_loadEn {w : World} {ops : Array Oper} {rest : List Oper} {o : Oper} {act : Act} {Q : Exit → Act → World → Prop} (hgd : o.guard = none) (x : Operand)
    (ho : o.op = .load 24 x) (g : Nat) (hx : act.eval x = .pointer (some ⟨g, 0, none⟩)) {e : TypeId} (n : ByteArray) (i : Int) (hb : Blk w g e [.string n, .int .i64 i])
    (h : wpList Try.prog ops Q rest (act.put o.dst (.agg #[.string n, .int .i64 i])) w) : wpList Try.prog ops Q (o :: rest) act w :=
  wpList_load_mid hgd 24 x ho g 0 hx [.string n, .int .i64 i] _ hb.range Try.underlying24 rfl (by rw [infoEnt]; rfl) h
theorem tabC_set2 (t : List EntT) (n : ByteArray) (i : Int) (k : Nat) (h : k < t.length) : tabC (t.set k ⟨n, i⟩) = ((tabC t).set (k * 2) (.string n)).set (k * 2 + 1) (.int .i64 i) := by
  rw [tabC_set t ⟨n, i⟩ k h, Nat.mul_comm k 2]

set_option maxHeartbeats 4000000 in
set_option maxRecDepth 100000 in
theorem setT_any (t : List EntT) (at_ : Int) (n : ByteArray) (i : Int) (ht : t.length = 16) (w : World) :
    Calls Try.prog 17 #[.agg (tabC t).toArray, .int .i64 at_, .agg #[.string n, .int .i64 i]] w fun e w' => e = .returned (.agg (tabC (setT t at_ ⟨n, i⟩)).toArray) ∧ Below w.heap.size w w' := by
  obtain ⟨w3, hw3⟩ : ∃ w3, w3 = (((w.alloc (.cells (tabC t).toArray 26)).alloc (.cells #[.string n, .int .i64 i] 24)).alloc (.cells #[.string ⟨#[]⟩, .int .i64 0, .string ⟨#[]⟩, .int .i64 0, .string ⟨#[]⟩, .int .i64 0, .string ⟨#[]⟩, .int .i64 0, .string ⟨#[]⟩, .int .i64 0, .string ⟨#[]⟩, .int .i64 0, .string ⟨#[]⟩, .int .i64 0, .string ⟨#[]⟩, .int .i64 0, .string ⟨#[]⟩, .int .i64 0, .string ⟨#[]⟩, .int .i64 0, .string ⟨#[]⟩, .int .i64 0, .string ⟨#[]⟩, .int .i64 0, .string ⟨#[]⟩, .int .i64 0, .string ⟨#[]⟩, .int .i64 0, .string ⟨#[]⟩, .int .i64 0, .string ⟨#[]⟩, .int .i64 0] 26)) := ⟨_, rfl⟩
  have b0 : Below w.heap.size w (((w.alloc (.cells (tabC t).toArray 26)).alloc (.cells #[.string n, .int .i64 i] 24)).alloc (.cells #[.string ⟨#[]⟩, .int .i64 0, .string ⟨#[]⟩, .int .i64 0, .string ⟨#[]⟩, .int .i64 0, .string ⟨#[]⟩, .int .i64 0, .string ⟨#[]⟩, .int .i64 0, .string ⟨#[]⟩, .int .i64 0, .string ⟨#[]⟩, .int .i64 0, .string ⟨#[]⟩, .int .i64 0, .string ⟨#[]⟩, .int .i64 0, .string ⟨#[]⟩, .int .i64 0, .string ⟨#[]⟩, .int .i64 0, .string ⟨#[]⟩, .int .i64 0, .string ⟨#[]⟩, .int .i64 0, .string ⟨#[]⟩, .int .i64 0, .string ⟨#[]⟩, .int .i64 0, .string ⟨#[]⟩, .int .i64 0] 26)) := (((Below.refl _ w).alloc (Nat.le_refl _) _).alloc (by simp; try omega) _).alloc (by simp; try omega) _
  have k0 : Blk (((w.alloc (.cells (tabC t).toArray 26)).alloc (.cells #[.string n, .int .i64 i] 24)).alloc (.cells #[.string ⟨#[]⟩, .int .i64 0, .string ⟨#[]⟩, .int .i64 0, .string ⟨#[]⟩, .int .i64 0, .string ⟨#[]⟩, .int .i64 0, .string ⟨#[]⟩, .int .i64 0, .string ⟨#[]⟩, .int .i64 0, .string ⟨#[]⟩, .int .i64 0, .string ⟨#[]⟩, .int .i64 0, .string ⟨#[]⟩, .int .i64 0, .string ⟨#[]⟩, .int .i64 0, .string ⟨#[]⟩, .int .i64 0, .string ⟨#[]⟩, .int .i64 0, .string ⟨#[]⟩, .int .i64 0, .string ⟨#[]⟩, .int .i64 0, .string ⟨#[]⟩, .int .i64 0, .string ⟨#[]⟩, .int .i64 0] 26)) w.heap.size 26 (tabC t) := ((blk_newD rfl _ (tabC t)).mono (albD _ _)).mono (albD _ _)
  have k1 : Blk (((w.alloc (.cells (tabC t).toArray 26)).alloc (.cells #[.string n, .int .i64 i] 24)).alloc (.cells #[.string ⟨#[]⟩, .int .i64 0, .string ⟨#[]⟩, .int .i64 0, .string ⟨#[]⟩, .int .i64 0, .string ⟨#[]⟩, .int .i64 0, .string ⟨#[]⟩, .int .i64 0, .string ⟨#[]⟩, .int .i64 0, .string ⟨#[]⟩, .int .i64 0, .string ⟨#[]⟩, .int .i64 0, .string ⟨#[]⟩, .int .i64 0, .string ⟨#[]⟩, .int .i64 0, .string ⟨#[]⟩, .int .i64 0, .string ⟨#[]⟩, .int .i64 0, .string ⟨#[]⟩, .int .i64 0, .string ⟨#[]⟩, .int .i64 0, .string ⟨#[]⟩, .int .i64 0, .string ⟨#[]⟩, .int .i64 0] 26)) (w.heap.size + 1) 24 [.string n, .int .i64 i] := (blk_newD (by simp) _ [.string n, .int .i64 i]).mono (albD _ _)
  have k2 : Blk (((w.alloc (.cells (tabC t).toArray 26)).alloc (.cells #[.string n, .int .i64 i] 24)).alloc (.cells #[.string ⟨#[]⟩, .int .i64 0, .string ⟨#[]⟩, .int .i64 0, .string ⟨#[]⟩, .int .i64 0, .string ⟨#[]⟩, .int .i64 0, .string ⟨#[]⟩, .int .i64 0, .string ⟨#[]⟩, .int .i64 0, .string ⟨#[]⟩, .int .i64 0, .string ⟨#[]⟩, .int .i64 0, .string ⟨#[]⟩, .int .i64 0, .string ⟨#[]⟩, .int .i64 0, .string ⟨#[]⟩, .int .i64 0, .string ⟨#[]⟩, .int .i64 0, .string ⟨#[]⟩, .int .i64 0, .string ⟨#[]⟩, .int .i64 0, .string ⟨#[]⟩, .int .i64 0, .string ⟨#[]⟩, .int .i64 0] 26)) (w.heap.size + 1 + 1) 26 (tabC zeroT) := blk_newD (by simp) _ (tabC zeroT)
  have hz : (tabC zeroT).length = 32 := by rw [tabC_len]; rfl
  have K0 := hid k0; have K1 := hid k1; have K2 := hid k2; have B0 := hid b0; have HW := hid hw3
  clear k0 k1 k2 b0 hw3
  by_cases h1 : 0 ≤ at_ ∧ at_ < 16
  · obtain ⟨k, rfl⟩ : ∃ k : Nat, at_ = k := ⟨at_.toNat, by omega⟩
    have hk : k < t.length := by omega
    have hr : setT t (k : Int) ⟨n, i⟩ = t.set k ⟨n, i⟩ := by unfold setT; rw [if_pos h1]; rfl
    rw [hr]
    have d1 : decide ((0 : Int) ≤ k) = true := decide_eq_true (by omega)
    have d2 : decide ((k : Int) < 16) = true := decide_eq_true (by omega)
    have d3 : (k : Int) < 16 := h1.2
    have K0' : Hid (Blk w3 w.heap.size 26 (tabC t)) := by rw [HW.out]; exact K0.out
    have K1' : Hid (Blk w3 (w.heap.size + 1) 24 [.string n, .int .i64 i]) := by rw [HW.out]; exact K1.out
    have K2' : Hid (Blk w3 (w.heap.size + 1 + 1) 26 (tabC zeroT)) := by rw [HW.out]; exact K2.out
    have B0' : Hid (Below w.heap.size w w3) := by rw [HW.out]; exact B0.out
    obtain ⟨hq0, hv0⟩ := List.getElem?_eq_some_iff.1 (tabC_get t k hk).1
    obtain ⟨hq1, hv1⟩ := List.getElem?_eq_some_iff.1 (tabC_get t k hk).2
    have c0 : w3.cell? ⟨w.heap.size, k * 2, none⟩ = some (.string t[k].nm) := by rw [Nat.mul_comm k 2, K0'.out.cell (i := 2 * k) hq0, hv0]
    have c1 : w3.cell? ⟨w.heap.size, k * 2 + 1, none⟩ = some (.int .i64 t[k].ino) := by rw [Nat.mul_comm k 2, K0'.out.cell (i := 2 * k + 1) hq1, hv1]
    have f0 : w3.frozen? ⟨w.heap.size, k * 2, none⟩ = false := K0'.out.frozen _
    have f1 : w3.frozen? ⟨w.heap.size, k * 2 + 1, none⟩ = false := K0'.out.frozen _
    have ks := (K0'.out.set (k * 2) (.string n)).set (k * 2 + 1) (.int .i64 i)
    rw [← tabC_set2 t n i k hk] at ks
    have kz := (K2'.out.setOtherS (show w.heap.size + 1 + 1 ≠ w.heap.size by omega) (k * 2) (.string n)).setOtherS (show w.heap.size + 1 + 1 ≠ w.heap.size by omega) (k * 2 + 1) (.int .i64 i)
    have KS := hid ks; have KZ := hid kz
    have hl : (t.set k ⟨n, i⟩).length = 16 := by simp [ht]
    have HL := hid hl
    clear hr ks kz hq0 hq1 hv0 hv1 hl
    generalize t[k].nm = nm0 at *
    generalize t[k].ino = ino0 at *
    go_enter Try.func17, Try.ntmps17
    go_wp2_with (first
      | (rw [← HW.out]; with_reducible refine wpl_loadEn rfl _ rfl (w.heap.size + 1) rfl n i K1'.out ?_)
      | (with_reducible refine wpl_loadT rfl _ rfl w.heap.size rfl (t.set k ⟨n, i⟩) HL.out KS.out ?_)
      | ((with_reducible refine wpl_storeT rfl _ _ rfl (w.heap.size + 1 + 1) rfl (t.set k ⟨n, i⟩) HL.out rfl KZ.out hz ?_); intro w5 k5 g5; have K5 := hid k5; have G5 := hid g5; clear k5 g5))
    refine bodyPost_ret (results_cell1 rfl rfl K5.out Try.underlying26 rfl (by rw [infoTab, tabC_len, HL.out])) rfl ⟨rfl, ?_⟩
    have q := (B0'.out.setCell (p := ⟨w.heap.size, k * 2, none⟩) (Nat.le_refl _) (.string n)).setCell (p := ⟨w.heap.size, k * 2 + 1, none⟩) (Nat.le_refl _) (.int .i64 i)
    exact below_grownS q G5.out (by omega) q.size
  · have hr : setT t at_ ⟨n, i⟩ = t := if_neg h1
    rw [hr]
    clear hr
    by_cases h0 : 0 ≤ at_
    · have d1 : decide (0 ≤ at_) = true := decide_eq_true h0
      have d2 : decide (at_ < 16) = false := decide_eq_false (fun h => h1 ⟨h0, h⟩)
      clear h1 h0
      go_enter Try.func17, Try.ntmps17
      go_wp2_with (first
        | (with_reducible refine wpl_loadT rfl _ rfl w.heap.size rfl t ht K0.out ?_)
        | ((with_reducible refine wpl_storeT rfl _ _ rfl (w.heap.size + 1 + 1) rfl t ht rfl K2.out hz ?_); intro w5 k5 g5; have K5 := hid k5; have G5 := hid g5; clear k5 g5))
      refine bodyPost_ret (results_cell1 rfl rfl K5.out Try.underlying26 rfl (by rw [infoTab, tabC_len, ht])) rfl ⟨rfl, ?_⟩
      exact below_grownS B0.out G5.out (by omega) B0.out.size
    · have d1 : decide (0 ≤ at_) = false := decide_eq_false h0
      clear h1 h0
      go_enter Try.func17, Try.ntmps17
      go_wp2_with (first
        | (with_reducible refine wpl_loadT rfl _ rfl w.heap.size rfl t ht K0.out ?_)
        | ((with_reducible refine wpl_storeT rfl _ _ rfl (w.heap.size + 1 + 1) rfl t ht rfl K2.out hz ?_); intro w5 k5 g5; have K5 := hid k5; have G5 := hid g5; clear k5 g5))
      refine bodyPost_ret (results_cell1 rfl rfl K5.out Try.underlying26 rfl (by rw [infoTab, tabC_len, ht])) rfl ⟨rfl, ?_⟩
      exact below_grownS B0.out G5.out (by omega) B0.out.size
end Go.Proofs.Ytejfkjfidhdfaaa
