/- Merged: PmB PmC PmD. -/
import Derived.Test.YtcackliabemecaaGreatDoorPmA
import Derived.Lib.SliceRun
import Derived.Deep.RegionLaw
import Derived.Laws.BitsAllLaws
/- Laws at the operation: copy with all other blocks kept, delete, store and clear of a set; bytes.Clone; a memory's small functions. -/
namespace Go.Proofs.YtcackliabemecaaGreatDoor
open Go.RowKit
set_option linter.unusedSimpArgs false
set_option linter.unusedVariables false
set_option maxRecDepth 100000

theorem grown_setRow (w : World) (g : Nat) (cs : Array Value) : w.grownBy (w.setRow g cs) (some g) :=
  ⟨rfl, rfl, rfl, by simp [World.setRow], fun k _ hn => setRow_other w g k cs (by rintro rfl; exact hn rfl)⟩

theorem run_copyG {P : Program} (w : World) {t e et ty : TypeId} (under : P.underlying t = some (.slice e)) (hsz : (P.info? e).map (·.size) = some 1)
    {g off dLen dCap sLen sCap : Nat} {dp sp : Option Addr} (hdp : 0 < min sLen dLen → dp = some ⟨g, off, none⟩)
    {L ds : List Value} (hblk : Blk w g et L) (hrow : Row w 1 sp sLen sCap ds) (h1 : ∀ u ∈ ds, u.oneCell' = true) (hfit : off + min sLen dLen ≤ L.length) :
    ∃ w', (Builtin.copy_ #[t, t] ty #[.slice dp dLen dCap, .slice sp sLen sCap]).run P w = .ok (goInt (min sLen dLen : Nat)) w' ∧ Blk w' g et (splice L off (ds.take (min sLen dLen))) ∧ w.grownBy w' (some g) := by
  have hlen : (ds.take (min sLen dLen)).length = min sLen dLen := by have := hrow.1; simp; omega
  by_cases h0 : min sLen dLen = 0
  · refine ⟨w, ?_, ?_, sg_refl w _⟩
    · rw [h0]; exact run_copy_none (P := P) w t t ty e dp sp dLen dCap sLen sCap under hsz h0
    · rw [h0]; simpa [splice] using hblk
  · obtain rfl := hdp (by omega)
    obtain ⟨b, off', rfl, hlt, hc⟩ := hrow.at (by omega)
    have hrun := run_copy_row (P := P) w t t ty e g off dLen dCap ⟨b, off', none⟩ sLen sCap L.toArray et (ds.take (min sLen dLen)) under hsz hblk hlen (by
      intro j v hj
      have hj' : ds[j]? = some v := by
        rw [List.getElem?_take] at hj
        split at hj
        · exact hj
        · cases hj
      have := hc j v hj'
      unfold Addr.add
      split
      · subst j; simpa using this
      · exact this) (by simp; omega) (fun v hv => h1 v (List.mem_of_mem_take hv))
    refine ⟨_, hrun.trans (by rw [hlen]), ?_, grown_setRow w g _⟩
    unfold Blk
    rw [setRow_heap w g _ _ et _ hblk]
    generalize ds.take (min sLen dLen) = cs at hlen
    simp [splice, hlen]

theorem wpi_copyG {F : Fence} {nF : Nat} {P : Program} {w : World} {ops : Array Oper} {rest : List Oper} {o : Oper} {act : Act} {Q : Exit → Act → World → Prop} (hgd : o.guard = none) (d s : Operand) {t e et : TypeId}
    (ho : o.op = .call { callee := .builtin .copy, args := #[d, s], argTypes := #[t, t] }) (under : P.underlying t = some (.slice e)) (hsz : (P.info? e).map (·.size) = some 1)
    {g off dLen dCap sLen sCap : Nat} {dp sp : Option Addr} (hd : act.eval d = .slice dp dLen dCap) (hs : act.eval s = .slice sp sLen sCap) (hdp : 0 < min sLen dLen → dp = some ⟨g, off, none⟩)
    {L ds : List Value} (hblk : Blk w g et L) (hrow : Row w 1 sp sLen sCap ds) (h1 : ∀ u ∈ ds, u.oneCell' = true) (hfit : off + min sLen dLen ≤ L.length)
    (h : ∀ w', Blk w' g et (splice L off (ds.take (min sLen dLen))) → w.grownBy w' (some g) → wpListIn F nF P ops Q rest (act.put o.dst (goInt (min sLen dLen : Nat))) w') :
    wpListIn F nF P ops Q (o :: rest) act w := by
  obtain ⟨w', hrun, hb, hg⟩ := run_copyG (ty := o.type) w under hsz hdp hblk hrow h1 hfit (dCap := dCap)
  refine wpListIn_plain hgd fun K' hK' => ?_
  unfold Oper.wpIn
  refine ⟨by simp [Oper.about, ho, resolve, Target.leads, Sem.run_pure], ?_⟩
  rw [Oper.semAt_plain F _ _ (by rw [ho]; intro c hc'; cases hc')]
  simp [execOp, ho, resolve, invoke, builtin, hd, hs, hrun, Result.andThen]
  exact hK' _ _ (h w' hb hg)
/-- as one step of a region that draws its order -/
theorem step_copyG {P : Program} {ops : Array Oper} {o : Oper} {act : Act} {w : World} {K : Act → World → Prop} {Q : Exit → Act → World → Prop} {E : Prop} (hgd : o.guard = none) (d s : Operand) {t e et : TypeId}
    (ho : o.op = .call { callee := .builtin .copy, args := #[d, s], argTypes := #[t, t] }) (under : P.underlying t = some (.slice e)) (hsz : (P.info? e).map (·.size) = some 1)
    {g off dLen dCap sLen sCap : Nat} {dp sp : Option Addr} (hd : act.eval d = .slice dp dLen dCap) (hs : act.eval s = .slice sp sLen sCap) (hdp : 0 < min sLen dLen → dp = some ⟨g, off, none⟩)
    {L ds : List Value} (hblk : Blk w g et L) (hrow : Row w 1 sp sLen sCap ds) (h1 : ∀ u ∈ ds, u.oneCell' = true) (hfit : off + min sLen dLen ≤ L.length)
    (h : ∀ w', Blk w' g et (splice L off (ds.take (min sLen dLen))) → w.grownBy w' (some g) → K (act.put o.dst (goInt (min sLen dLen : Nat))) w') :
    if Region.wanted o (yielded ops act.tmps) = true then Oper.wp P o act w K Q else E := by
  have hw : Region.wanted o (yielded ops act.tmps) = true := by simp [Region.wanted, hgd]
  rw [if_pos hw]
  obtain ⟨w', hrun, hb, hg⟩ := run_copyG (ty := o.type) w under hsz hdp hblk hrow h1 hfit (dCap := dCap)
  unfold Oper.wp
  simp [execOp, ho, resolve, invoke, builtin, hd, hs, hrun, Result.andThen]
  exact h w' hb hg

/-! ### a set's operations -/
theorem run_clearM {P : Program} (w : World) {t k e ty : TypeId} {p : Nat} {es : Array MapEntry} {clock : Nat} (ht : P.underlying t = some (.map k e)) (hb : w.heap[p]? = some (.map es clock)) :
    (Builtin.clear_ #[t] ty #[.map (some p)]).run P w = .ok (.tuple #[]) (ChangeMaps.setBlock w p (.map #[] clock)) := by
  simp [Builtin.clear_, run_underlying ht, MapKept.run_getObj_map hb, MapKept.run_setObj_map _ hb, Result.andThen, ChangeMaps.setBlock]
theorem PendP.clear {w : World} {p : Nat} {A : List Bool} (h : PendP w p A) {t e ty : TypeId} (ht : Tryz.prog.underlying t = some (.map 3 e)) (n : Nat) :
    ∃ w', (Builtin.clear_ #[t] ty #[.map (some p)]).run Tryz.prog w = .ok (.tuple #[]) w' ∧ PendP w' p (tabF n fun _ => false) ∧ w.grownBy w' (some p) := by
  obtain ⟨D, m, ⟨es, clock, hb, F, hs, hD⟩, h1, h2⟩ := h
  refine ⟨_, run_clearM w ht hb, ?_, ⟨rfl, rfl, rfl, by simp [ChangeMaps.setBlock], fun i _ hi => ChangeMaps.heap_setBlock_other hb _ (fun e => hi (by rw [e]))⟩⟩
  obtain ⟨D0, n0, ⟨es0, clock0, hb0, F0, hs0, hD0⟩, r⟩ := PendP.made w n
  have hz : es0 = #[] := by
    have : (w.alloc (.map #[] 0)).heap[w.heap.size]? = some (.map #[] 0) := heap_alloc_new w _
    rw [this] at hb0
    cases hb0; rfl
  subst hz
  exact ⟨D0, n0, ⟨#[], clock, ChangeMaps.heap_setBlock_same hb _, ⟨by simp, MapKept.stamped_empty _, by simp⟩, hs0, hD0⟩, r⟩
theorem wpi_delP {F : Fence} {nF : Nat} {w : World} {ops : Array Oper} {rest : List Oper} {o : Oper} {act : Act} {Q : Exit → Act → World → Prop} (hgd : o.guard = none) (m x : Operand) {t e : TypeId}
    (ho : o.op = .call { callee := .builtin .delete, args := #[m, x], argTypes := #[t, 3] }) (ht : Tryz.prog.underlying t = some (.map 3 e)) {p k : Nat} {A : List Bool} (hm : act.eval m = .map (some p)) (hx : act.eval x = .int .i64 k) (hk : k < A.length) (hk2 : k ≤ 1000000) (hp : PendP w p A)
    (h : ∀ w', PendP w' p (A.set k false) → w.grownBy w' (some p) → wpListIn F nF Tryz.prog ops Q rest (act.put o.dst (.tuple #[])) w') : wpListIn F nF Tryz.prog ops Q (o :: rest) act w := by
  obtain ⟨D, n, ho', h1, h2⟩ := hp
  refine wpListIn_delete_own w hgd m x t 3 ho e keyedI ht unitElem p n D hm ho' _ _ hx (keyI k (WalkArith.wf_i64 (by omega))) ?_
  intro w1 o1 t1
  exact h w1 (PendP.del hk hk2 ho' h1 h2 o1) t1.grown
theorem wpi_putP {F : Fence} {nF : Nat} {w : World} {ops : Array Oper} {rest : List Oper} {o : Oper} {act : Act} {Q : Exit → Act → World → Prop} (hgd : o.guard = none) (m x v : Operand) {t e : TypeId}
    (ho : o.op = .mapUpdate t m x v) (ht : Tryz.prog.underlying t = some (.map 3 e)) {p k : Nat} {A : List Bool} (hm : act.eval m = .map (some p)) (hx : act.eval x = .int .i64 k) (hv : act.eval v = .agg #[]) (hk : k < A.length) (hk2 : k ≤ 1000000) (hl : A.length ≤ 1000000) (hp : PendP w p A)
    (h : ∀ w', PendP w' p (A.set k true) → w.grownBy w' (some p) → wpListIn F nF Tryz.prog ops Q rest (act.put o.dst undef) w') : wpListIn F nF Tryz.prog ops Q (o :: rest) act w := by
  obtain ⟨D, ho', h1, h2⟩ := hp.norm
  have hc : A.count true ≤ A.length := List.count_le_length
  refine wpListIn_mapUpdate_in w hgd m x v t ho 3 e keyedI ht unitElem p _ D hm ho' (by unfold maxLen; omega) _ _ _ hx hv (keyI k (WalkArith.wf_i64 (by omega))) (.agg []) [] unitElem_mk ?_
  intro w1 o1 t1
  exact h w1 (PendP.put hk hk2 ho' h1 h2 o1) t1.grown

/-! ### bytes.Clone -/
theorem own_emptyM (w : World) : OwnB (w.alloc (.cells #[] 5)) w.heap.size (some ⟨w.heap.size, 0, none⟩) 0 [] := by
  refine ⟨rfl, .inr ⟨w.heap.size, 0, #[], rfl, Nat.le_refl _, ?_, Nat.le_refl _, Nat.zero_le _, rfl, rfl⟩⟩
  exact heap_alloc_new w _
set_option maxHeartbeats 1000000 in
theorem cloneM_any (a : Option Addr) (c : Nat) (xs : List UInt8) (w : World) (h : RowB w a c xs) (hx : xs.length ≤ 1048576) :
    Calls Tryz.prog 31 #[.slice a xs.length c] w (RetB w xs) := by
  have qT : ∀ (w : World) (a : Option Addr) (n c n' c' : Nat), (binOp .eql 26 (.slice a n c) (.slice none n' c')).run Tryz.prog w = .ok (.bool a.isNone) w := fun w a n c n' c' => Lib.run_eql_slice_nil w _ _ a n c n' c' Tryz.underlying26
  cases a with
  | none =>
    have hc : c = 0 := h.2.2.2.1 rfl
    have hl : xs = [] := List.eq_nil_of_length_eq_zero (by have := h.2.1; omega)
    subst hl
    clear h hx hc
    go_enter Tryz.func31, Tryz.ntmps31
    go_wp2
    go_ret
    exact ⟨none, 0, rfl, Own.nil _ _ _ _, Below.refl _ _⟩
  | some ad =>
    have HO := hid (own_emptyM w)
    have HR := hid (h.mono (albO w (.cells #[] 5)))
    have B0 := hid (albO w (.cells #[] 5))
    clear h
    go_enter Tryz.func31, Tryz.ntmps31
    go_wp2_with (at_builtin; (refine wpl_append rfl (.tmp 5) (.tmp 6) rfl E8 w.heap.size rfl rfl HO.out HR.out (byteV_one xs) (by omega) (by omega) (by simp) ?_); intro a2 c2 w2 o2 g2 b2; have O2 := hid o2; have B2 := hid (B0.out.trans b2); clear o2 g2 b2)
    go_ret
    exact ⟨a2, c2, by simp, by have := O2.out; simpa using this, B2.out⟩

/-! ### small functions -/
theorem MemP.cells {w : World} {g v d p : Nat} {M : MemM} (h : MemP w g v d p M) :
    w.cell? ⟨g, 0, none⟩ = some (.slice (some ⟨v, 0, none⟩) M.V.length M.V.length) ∧ w.cell? ⟨g, 1, none⟩ = some (.slice (some ⟨d, 0, none⟩) M.V.length M.V.length) ∧ w.cell? ⟨g, 2, none⟩ = some (.map (some p)) :=
  ⟨h.2.2.1.cell (i := 0) (by simp), h.2.2.1.cell (i := 1) (by simp), h.2.2.1.cell (i := 2) (by simp)⟩
theorem odd_any (k : Int) (w : World) (hk : -9223372036854775808 ≤ k ∧ k ≤ 9223372036854775807) : Calls Tryz.prog 40 #[.int .i64 k] w fun e w' => e = .returned (.bool (oddP k)) ∧ w = w' := by
  have hO : oddP k = decide ((if k < 0 then -(k + 1) else k) % 2 = 1) := rfl
  by_cases h : k < 0
  · have e1 : IntKind.i64.wrap (k + 1) = k + 1 := IntWalk.i64_in _ (by omega)
    have e2 : IntKind.i64.wrap (-(k + 1)) = -(k + 1) := IntWalk.i64_in _ (by omega)
    have e3 : -((k + 1).tmod 2) = -(k + 1) % 2 := by rw [← Int.neg_tmod]; exact Int.tmod_eq_emod_of_nonneg (by omega)
    rw [if_pos h] at hO
    have hb : 0 ≤ -(k + 1) % 2 ∧ -(k + 1) % 2 < 2 := by omega
    rw [hO]
    generalize -(k + 1) % 2 = r at *
    have e4 : IntKind.i64.wrap r = r := IntWalk.i64_in _ (by omega)
    have dk : decide (k < 0) = true := decide_eq_true h
    have E3 := hid e3
    have e5 : IntKind.i64.wrap (-((k + 1).tmod 2)) = -((k + 1).tmod 2) := by rw [e3]; exact e4
    clear hO e3
    go_enter Tryz.func40, Tryz.ntmps40
    go_wp2
    go_ret
    exact ⟨ret_bool (by rw [E3.out]; rfl), rfl⟩
  · have e3 : k.tmod 2 = k % 2 := Int.tmod_eq_emod_of_nonneg (by omega)
    rw [if_neg h] at hO
    have hb : 0 ≤ k % 2 ∧ k % 2 < 2 := by omega
    rw [hO]
    generalize k % 2 = r at *
    have e4 : IntKind.i64.wrap r = r := IntWalk.i64_in _ (by omega)
    clear hO
    go_enter Tryz.func40, Tryz.ntmps40
    go_wp2
    go_ret
    exact ⟨ret_bool (by rfl), rfl⟩
theorem size_any {w : World} {g v d p : Nat} {M : MemM} (h : MemP w g v d p M) : Calls Tryz.prog 35 #[.pointer (some ⟨g, 0, none⟩)] w fun e w' => e = .returned (.int .i64 M.V.length) ∧ w = w' := by
  obtain ⟨c0, _, _⟩ := h.cells
  clear h
  go_enter Tryz.func35, Tryz.ntmps35
  go_wp2
  go_ret
  exact ⟨rfl, rfl⟩
/-- do n bytes from at on lie within -/
def inM (M : MemM) (at_ n : Int) : Bool := decide (0 ≤ at_ ∧ 0 ≤ n ∧ at_ ≤ (M.V.length : Int) - n)
theorem within_any {w : World} {g v d p : Nat} {M : MemM} (h : MemP w g v d p M) (at_ n : Int) (ha : -9223372036854775808 ≤ at_ ∧ at_ ≤ 9223372036854775807) (hn : -9223372036854775808 ≤ n ∧ n ≤ 9223372036854775807) :
    Calls Tryz.prog 30 #[.pointer (some ⟨g, 0, none⟩), .int .i64 at_, .int .i64 n] w fun e w' => e = .returned (.bool (inM M at_ n)) ∧ w = w' := by
  have hl := h.1.2.2.2.2
  have HS := hid (size_any h)
  clear h
  unfold inM
  by_cases h1 : 0 ≤ at_
  · have d1 : decide (0 ≤ at_) = true := decide_eq_true h1
    by_cases h2 : 0 ≤ n
    · have d2 : decide (0 ≤ n) = true := decide_eq_true h2
      have e1 : IntKind.i64.wrap ((M.V.length : Int) - n) = (M.V.length : Int) - n := IntWalk.i64_in _ (by omega)
      by_cases h3 : at_ ≤ (M.V.length : Int) - n
      · have d3 : decide (at_ ≤ (M.V.length : Int) - n) = true := decide_eq_true h3
        rw [decide_eq_true ⟨h1, h2, h3⟩]
        go_enter Tryz.func30, Tryz.ntmps30
        go_wp2_with (go_at_call 35; refine HS.out.mono ?_; rintro e w1 ⟨rfl, rfl⟩)
        go_ret
        exact ⟨rfl, rfl⟩
      · have d3 : decide (at_ ≤ (M.V.length : Int) - n) = false := decide_eq_false h3
        rw [decide_eq_false (fun q => h3 q.2.2)]
        go_enter Tryz.func30, Tryz.ntmps30
        go_wp2_with (go_at_call 35; refine HS.out.mono ?_; rintro e w1 ⟨rfl, rfl⟩)
        go_ret
        exact ⟨rfl, rfl⟩
    · have d2 : decide (0 ≤ n) = false := decide_eq_false h2
      rw [decide_eq_false (fun q => h2 q.2.1)]
      clear HS
      go_enter Tryz.func30, Tryz.ntmps30
      go_wp2
      go_ret
      exact ⟨rfl, rfl⟩
  · have d1 : decide (0 ≤ at_) = false := decide_eq_false h1
    rw [decide_eq_false (fun q => h1 q.1)]
    clear HS
    go_enter Tryz.func30, Tryz.ntmps30
    go_wp2
    go_ret
    exact ⟨rfl, rfl⟩
end Go.Proofs.YtcackliabemecaaGreatDoor
/- A memory's cells: one made to last, one looked at. -/
namespace Go.Proofs.YtcackliabemecaaGreatDoor
open Go.RowKit
set_option linter.unusedSimpArgs false
set_option linter.unusedVariables false
set_option maxRecDepth 100000

/-- the end of a block, as a slice -/
theorem row_end {w : World} {g : Nat} {e : TypeId} {L : List Value} (h : Blk w g e L) (lo : Nat) (hl : L.length ≤ 9223372036854775807) (hlo : lo ≤ L.length) : Row w 1 (some ⟨g, lo, none⟩) (L.length - lo) (L.length - lo) (L.drop lo) :=
  ⟨by simp, Nat.le_refl _, by unfold maxLen; omega, (fun h => by cases h), fun hn => ⟨g, lo, rfl, h.lt, fun j u hu => by
    rw [List.getElem?_drop] at hu
    obtain ⟨h1, h2⟩ := List.getElem?_eq_some_iff.1 hu
    rw [h.cell h1, h2]⟩⟩
theorem row_mid {w : World} {g : Nat} {e : TypeId} {L : List Value} (h : Blk w g e L) (lo n c : Nat) (hc : n ≤ c) (hc2 : c ≤ 9223372036854775807) (hlo : lo + n ≤ L.length) : Row w 1 (some ⟨g, lo, none⟩) n c ((L.drop lo).take n) :=
  ⟨by simp; omega, hc, by unfold maxLen; omega, (fun h => by cases h), fun hn => ⟨g, lo, rfl, h.lt, fun j u hu => by
    rw [List.getElem?_take] at hu
    split at hu
    · rw [List.getElem?_drop] at hu
      obtain ⟨h1, h2⟩ := List.getElem?_eq_some_iff.1 hu
      rw [h.cell h1, h2]
    · cases hu⟩⟩
theorem map_drop8 (V : List UInt8) (k n : Nat) (hn : min n 8 = 8) : ((V.map byteV).drop (8 * k)).take (min n 8) = (cell8 V k).map byteV := by
  rw [hn, cell8, List.map_take, List.map_drop]

set_option maxHeartbeats 1000000 in
theorem persist_any {w : World} {g v d p : Nat} {M : MemM} (h : MemP w g v d p M) (k : Nat) (hk : k < M.A.length) :
    Calls Tryz.prog 41 #[.pointer (some ⟨g, 0, none⟩), .int .i64 (k : Int)] w fun e w' => (∃ x, e = .returned x) ∧ MemP w' g v d p ⟨M.V, mixF (fun i => i == k) M.V M.D, M.A⟩ ∧ Turns (fun b => b = d) w w' := by
  obtain ⟨hok, hne, hg, hv, hd, hp⟩ := h
  obtain ⟨_, ag1, ag2, ag3, ag4, ag5, _, _, _, _⟩ := mem_apart ⟨hok, hne, hg, hv, hd, hp⟩
  obtain ⟨c0, c1, c2⟩ := MemP.cells ⟨hok, hne, hg, hv, hd, hp⟩
  obtain ⟨l1, l2, l3, l4, l5⟩ := hok
  have hk8 : 8 * k + 8 ≤ M.V.length := by omega
  have e1 : IntKind.i64.wrap ((k : Int) * 8) = ((8 * k : Nat) : Int) := by rw [IntWalk.i64_in _ (by omega)]; omega
  have e2 : IntKind.i64.wrap (((8 * k : Nat) : Int) + 8) = ((8 * k + 8 : Nat) : Int) := by rw [IntWalk.i64_in _ (by omega)]; omega
  have hsrc := row_end hv (8 * k) (by simp; omega) (by simp; omega)
  rw [List.length_map] at hsrc
  have H0 : ∀ w', Blk w' d 5 (splice (M.D.map byteV) (8 * k) (((M.V.map byteV).drop (8 * k)).take (min (M.V.length - 8 * k) 8))) → w.grownBy w' (some d) → MemP w' g v d p ⟨M.V, mixF (fun i => i == k) M.V M.D, M.A⟩ ∧ Turns (fun b => b = d) w w' := by
    intro w' hb hg'
    have t : Turns (fun b => b = d) w w' := Turns.of_grown hg' rfl
    rw [map_drop8 _ _ _ (by omega), ← map_splice, splice_mix l1 (by omega)] at hb
    refine ⟨⟨⟨by rw [mixF_len]; exact l1, l2, l3, l4, l5⟩, hne, t.blk hg ag2, t.blk hv hne, hb, t.pend hp ag5⟩, t⟩
  have HO := hid H0; have HD := hid hd; have HS := hid hsrc; have HK := hid hk8
  have hDl : M.D.length = M.V.length := l1
  have HL := hid hDl
  have hVl : M.V.length ≤ 1048576 := l5
  clear H0 hd hsrc hv hg hp hDl l1 l2 l3 l4 l5 ag1 ag2 ag3 ag4 ag5 c2
  generalize hq : 8 * k = q at *
  have HQ := hid hq; clear hq
  have f1 : (0 ≤ (q : Int) + 8) = True := eq_true (by omega)
  have f2 : ((q : Int) + 8 ≤ (M.V.length : Int)) = True := eq_true (by omega)
  have f3 : ((q : Int) + 8).toNat = q + 8 := by omega
  have f4 : (M.V.length = q) = False := eq_false (by omega)
  have f5 : ((q : Int) ≤ (M.V.length : Int)) = True := eq_true (by omega)
  have f6 : (q ≤ M.V.length) = True := eq_true (by omega)
  have f7 : (q + 8 ≤ M.V.length) = True := eq_true (by omega)
  go_enter Tryz.func41, Tryz.ntmps41
  go_wp2_with fail
  go_region_law (refine step_copyG rfl (.tmp 14) (.tmp 20) rfl Tryz.underlying26 (by kernel_rfl) rfl rfl (fun _ => rfl) HD.out HS.out (fun u hu => byteV_one M.V u (List.mem_of_mem_drop hu)) (by rw [List.length_map, HL.out]; omega) ?_; intro w4 b4 g4)
  all_goals
    have G4 := hid (HO.out w4 b4 ⟨g4.os, g4.tape, g4.output, g4.size, g4.block⟩)
    clear b4 g4
    go_end0
    exact ⟨⟨_, rfl⟩, G4.out⟩

/-! arrays of eight bytes compared -/
def arrC8 (xs : List UInt8) : Array Value := (xs.map byteV).toArray
theorem run_size8' (w : World) : (sizeOf 5).run Tryz.prog w = .ok 1 w := by
  have : (Tryz.prog.info? 5).map (·.size) = some 1 := by kernel_rfl
  cases hq : Tryz.prog.info? 5 with
  | none => simp [hq] at this
  | some i =>
    simp [hq] at this
    simp [sizeOf, typeInfo, hq, this]
theorem run_part8 (xs : List UInt8) (i : Nat) (w : World) (hi : i < xs.length) : (part 5 (arrC8 xs) i).run Tryz.prog w = .ok (.int .u8 (bAt xs i : Int)) w := by
  have hagg : (isAgg 5).run Tryz.prog w = .ok false w := by
    unfold isAgg
    rw [Sem.run_bind, run_underlying Tryz.underlying5 w]
    rfl
  have hc : (arrC8 xs)[i]? = some (.int .u8 (bAt xs i : Int)) := by
    simp [arrC8, hi, byteV, bAt_eq hi]
  simp [part, Sem.run_bind, hagg, hc]
theorem drop_bAt8 {xs : List UInt8} {i : Nat} (h : i < xs.length) : xs.drop i = UInt8.ofNat (bAt xs i) :: xs.drop (i + 1) := by
  rw [List.drop_eq_getElem_cons h, bAt_eq h]; simp
theorem run_eqLoop8 (xs ys : List UInt8) (w : World) (d : Nat) (hx : xs.length = 8) (hy : ys.length = 8) : ∀ (n i : Nat), i + n = 8 →
    Sem.run Tryz.prog (forIn (List.range' i n) ((none : Option Bool), ()) fun i __s => do
      let a ← part 5 (arrC8 xs) i
      let b ← part 5 (arrC8 ys) i
      let c ← Op.equalIn (d + 1) 5 a b
      if (!c) = true then pure (ForInStep.done (some false, ())) else pure (ForInStep.yield (none, ()))) w = .ok (if xs.drop i = ys.drop i then (none, ()) else (some false, ())) w
  | 0, i, h => by
    have h1 : xs.drop i = [] := List.drop_eq_nil_of_le (by omega)
    have h2 : ys.drop i = [] := List.drop_eq_nil_of_le (by omega)
    simp [h1, h2]
  | n + 1, i, h => by
    have ih := run_eqLoop8 xs ys w d hx hy n (i + 1) (by omega)
    rw [List.range'_succ, List.forIn_cons]
    simp only [Sem.run_bind, run_part8 xs i w (by omega), run_part8 ys i w (by omega), Result.andThen_ok, run_equalIn_int w d 5 .u8 .u8 _ _ Tryz.underlying5]
    have ha := bAt_lt xs i
    have hb := bAt_lt ys i
    by_cases e : bAt xs i = bAt ys i
    · have e' : ((bAt xs i : Int) == (bAt ys i : Int)) = true := by simp [e]
      simp only [e', Bool.not_true, Bool.false_eq_true, if_false, Sem.run_pure, Result.andThen_ok]
      rw [ih, drop_bAt8 (xs := xs) (i := i) (by omega), drop_bAt8 (xs := ys) (i := i) (by omega), e]
      simp
    · have e' : ((bAt xs i : Int) == (bAt ys i : Int)) = false := by simp; omega
      simp only [e', Bool.not_false, if_true, Sem.run_pure, Result.andThen_ok]
      rw [drop_bAt8 (xs := xs) (i := i) (by omega), drop_bAt8 (xs := ys) (i := i) (by omega), if_neg]
      intro h2
      injection h2 with h3 _
      have := congrArg UInt8.toNat h3
      simp at this
      omega
theorem run_eq8' (xs ys : List UInt8) (w : World) (d : Nat) (hx : xs.length = 8) (hy : ys.length = 8) :
    (Op.equalIn (d + 1 + 1) 96 (.agg (arrC8 xs)) (.agg (arrC8 ys))).run Tryz.prog w = .ok (decide (xs = ys)) w := by
  rw [Op.equalIn]
  simp only [Sem.run_bind, run_underlying Tryz.underlying96, Result.andThen_ok, run_size8', Nat.mul_one]
  rw [Std.Legacy.Range.forIn_eq_forIn_range']
  simp only [Std.Legacy.Range.size, Nat.sub_zero]
  rw [show (8 + 1 - 1) / 1 = 8 from rfl, run_eqLoop8 xs ys w d hx hy 8 0 rfl]
  simp only [List.drop_zero, Result.andThen_ok]
  by_cases h : xs = ys
  · simp [h]
  · simp [h]
theorem run_array8 (a : Option Addr) (n c : Nat) (w : World) (h : 8 ≤ n) : (Instr.arrayAt 96 (.slice a n c)).run Tryz.prog w = .ok (.pointer a) w := by
  simp [Instr.arrayAt, run_underlying Tryz.underlying96]
  omega
end Go.Proofs.YtcackliabemecaaGreatDoor
/- A memory's cell looked at. (genPmD.py) -/
namespace Go.Proofs.YtcackliabemecaaGreatDoor
open Go.RowKit
set_option linter.unusedSimpArgs false
set_option linter.unusedVariables false
set_option maxRecDepth 100000

theorem range_mid {w : World} {g : Nat} {e : TypeId} {L : List Value} (h : Blk w g e L) (lo n : Nat) : w.rangeAt g lo ((L.drop lo).take n) := fun j u hu => by
  rw [List.getElem?_take] at hu
  split at hu
  · rw [List.getElem?_drop] at hu
    obtain ⟨h1, h2⟩ := List.getElem?_eq_some_iff.1 hu
    rw [h.cell h1, h2]
  · cases hu

set_option maxHeartbeats 1000000 in
theorem dirty_any {w : World} {g v d p : Nat} {M : MemM} (h : MemP w g v d p M) (k : Nat) (hk : k < M.A.length) :
    Calls Tryz.prog 58 #[.pointer (some ⟨g, 0, none⟩), .int .i64 (k : Int)] w fun e w' => e = .returned (.bool (dirtyB M.V M.D k)) ∧ Below w.heap.size w w' := by
  obtain ⟨hok, hne, hg, hv, hd, hp⟩ := h
  obtain ⟨c0, c1, c2⟩ := MemP.cells ⟨hok, hne, hg, hv, hd, hp⟩
  obtain ⟨l1, l2, l3, l4, l5⟩ := hok
  have hk8 : 8 * k + 8 ≤ M.V.length := by omega
  have e1 : IntKind.i64.wrap ((k : Int) * 8) = ((8 * k : Nat) : Int) := by rw [IntWalk.i64_in _ (by omega)]; omega
  have r1 := range_mid hv (8 * k) 8
  have r2 := range_mid hd (8 * k) 8
  rw [← List.map_drop, ← List.map_take] at r1 r2
  have hx := cell8_len (X := M.V) (k := k) hk8
  have hy := cell8_len (X := M.D) (k := k) (by omega)
  have hB : dirtyB M.V M.D k = !decide (cell8 M.V k = cell8 M.D k) := by unfold dirtyB; simp
  unfold cell8 at hx hy hB
  rw [hB]
  have hVl : M.V.length ≤ 1048576 := l5
  clear hB hv hd hg hp c2 l1 l2 l3 l4 l5
  generalize (M.V.drop (8 * k)).take 8 = xs at *
  generalize (M.D.drop (8 * k)).take 8 = ys at *
  have hneq : ∀ w, (Op.equalIn 10000 96 (.agg (xs.map byteV).toArray) (.agg (ys.map byteV).toArray)).run Tryz.prog w = .ok (decide (xs = ys)) w := fun w => run_eq8' xs ys w 9998 hx hy
  have ha1 := fun w => run_array8 (some ⟨v, 8 * k, none⟩) (M.V.length - 8 * k) (M.V.length - 8 * k) w (by omega)
  have ha2 := fun w => run_array8 (some ⟨d, 8 * k, none⟩) (M.V.length - 8 * k) (M.V.length - 8 * k) w (by omega)
  have HX := hid hx; have HY := hid hy
  clear hx hy
  generalize hq : 8 * k = q at *
  clear hq
  have f4 : (M.V.length = q) = False := eq_false (by omega)
  have f5 : ((q : Int) ≤ (M.V.length : Int)) = True := eq_true (by omega)
  have f6 : (q ≤ M.V.length) = True := eq_true (by omega)
  go_enter Tryz.func58, Tryz.ntmps58
  go_wp2_with fail
  refine wp_region_held_drew (S := fun w' => (w'.cell? ⟨g, 0, none⟩ = some (.slice (some ⟨v, 0, none⟩) M.V.length M.V.length) ∧ w'.cell? ⟨g, 1, none⟩ = some (.slice (some ⟨d, 0, none⟩) M.V.length M.V.length) ∧ w'.rangeAt v q (xs.map byteV) ∧ w'.rangeAt d q (ys.map byteV)) ∧ Below w.heap.size w w') (by kernel_rfl) ⟨⟨c0, c1, r1, r2⟩, (Below.refl _ _).drew⟩ (fun hS_0 => ?_)
  refine takeR (i := 0) (v := .pointer (some ⟨g, 0, none⟩)) rfl rfl (by kernel_rfl) (by kernel_rfl) (by kernel_rfl) (fun _ _ _ h => h) (Or.inl ⟨Eq.refl true, fun w1 hSw => ?_⟩) hS_0 ?_
  · first | rfl | (clear hSw; go_simp; done) | (clear hSw; go_simp; rfl)
  (try simp only [Act.put, List.setIfInBounds_toArray, List.set_cons_zero, List.set_cons_succ])
  refine takeR (i := 1) (v := .pointer (some ⟨g, 0, none⟩)) rfl rfl (by kernel_rfl) (by kernel_rfl) (by kernel_rfl) (fun _ _ _ h => h) (Or.inl ⟨Eq.refl true, fun w1 hSw => ?_⟩) hS_0 ?_
  · first | rfl | (clear hSw; go_simp; done) | (clear hSw; go_simp; rfl)
  (try simp only [Act.put, List.setIfInBounds_toArray, List.set_cons_zero, List.set_cons_succ])
  refine takeR (i := 2) (v := .pointer (some ⟨g, 0, none⟩)) rfl rfl (by kernel_rfl) (by kernel_rfl) (by kernel_rfl) (fun _ _ _ h => h) (Or.inl ⟨Eq.refl true, fun w1 hSw => ?_⟩) hS_0 ?_
  · first | rfl | (clear hSw; go_simp; done) | (clear hSw; go_simp; rfl)
  (try simp only [Act.put, List.setIfInBounds_toArray, List.set_cons_zero, List.set_cons_succ])
  refine takeR (i := 3) (v := .slice (some ⟨v, 0, none⟩) M.V.length M.V.length) rfl rfl (by kernel_rfl) (by kernel_rfl) (by kernel_rfl) (fun _ _ _ h => h) (Or.inl ⟨Eq.refl true, fun w1 hSw => ?_⟩) hS_0 ?_
  · (obtain ⟨⟨q1, q2, _, _⟩, _⟩ := hSw; go_simp; try rfl)
  (try simp only [Act.put, List.setIfInBounds_toArray, List.set_cons_zero, List.set_cons_succ])
  refine takeR (i := 4) (v := .int .i64 (q : Int)) rfl rfl (by kernel_rfl) (by kernel_rfl) (by kernel_rfl) (fun _ _ _ h => h) (Or.inl ⟨Eq.refl true, fun w1 hSw => ?_⟩) hS_0 ?_
  · first | rfl | (clear hSw; go_simp; done) | (clear hSw; go_simp; rfl)
  (try simp only [Act.put, List.setIfInBounds_toArray, List.set_cons_zero, List.set_cons_succ])
  refine takeR (i := 5) (v := .slice (some ⟨v, q, none⟩) (M.V.length - q) (M.V.length - q)) rfl rfl (by kernel_rfl) (by kernel_rfl) (by kernel_rfl) (fun _ _ _ h => h) (Or.inl ⟨Eq.refl true, fun w1 hSw => ?_⟩) hS_0 ?_
  · first | rfl | (clear hSw; go_simp; done) | (clear hSw; go_simp; rfl)
  (try simp only [Act.put, List.setIfInBounds_toArray, List.set_cons_zero, List.set_cons_succ])
  refine takeR (i := 6) (v := .pointer (some ⟨v, q, none⟩)) rfl rfl (by kernel_rfl) (by kernel_rfl) (by kernel_rfl) (fun _ _ _ h => h) (Or.inl ⟨Eq.refl true, fun w1 hSw => ?_⟩) hS_0 ?_
  · first | rfl | (clear hSw; go_simp; done) | (clear hSw; go_simp; rfl)
  (try simp only [Act.put, List.setIfInBounds_toArray, List.set_cons_zero, List.set_cons_succ])
  refine wpAnyH_loadC (i := 7) 96 _ (v) q (xs.map byteV) _ rfl rfl rfl rfl (Eq.refl true) Tryz.underlying96 rfl (by rw [List.length_map, HX.out]; kernel_rfl) (by kernel_rfl) (by kernel_rfl) (by kernel_rfl) (fun _ _ _ h => h) (fun w' h' => h'.1.2.2.1) hS_0 ?_
  (try simp only [Act.put, List.setIfInBounds_toArray, List.set_cons_zero, List.set_cons_succ])
  refine takeR (i := 8) (v := .pointer (some ⟨g, 0, none⟩)) rfl rfl (by kernel_rfl) (by kernel_rfl) (by kernel_rfl) (fun _ _ _ h => h) (Or.inl ⟨Eq.refl true, fun w1 hSw => ?_⟩) hS_0 ?_
  · first | rfl | (clear hSw; go_simp; done) | (clear hSw; go_simp; rfl)
  (try simp only [Act.put, List.setIfInBounds_toArray, List.set_cons_zero, List.set_cons_succ])
  refine takeR (i := 9) (v := .pointer (some ⟨g, 0, none⟩)) rfl rfl (by kernel_rfl) (by kernel_rfl) (by kernel_rfl) (fun _ _ _ h => h) (Or.inl ⟨Eq.refl true, fun w1 hSw => ?_⟩) hS_0 ?_
  · first | rfl | (clear hSw; go_simp; done) | (clear hSw; go_simp; rfl)
  (try simp only [Act.put, List.setIfInBounds_toArray, List.set_cons_zero, List.set_cons_succ])
  refine takeR (i := 10) (v := .pointer (some ⟨g, 1, none⟩)) rfl rfl (by kernel_rfl) (by kernel_rfl) (by kernel_rfl) (fun _ _ _ h => h) (Or.inl ⟨Eq.refl true, fun w1 hSw => ?_⟩) hS_0 ?_
  · first | rfl | (clear hSw; go_simp; done) | (clear hSw; go_simp; rfl)
  (try simp only [Act.put, List.setIfInBounds_toArray, List.set_cons_zero, List.set_cons_succ])
  refine takeR (i := 11) (v := .slice (some ⟨d, 0, none⟩) M.V.length M.V.length) rfl rfl (by kernel_rfl) (by kernel_rfl) (by kernel_rfl) (fun _ _ _ h => h) (Or.inl ⟨Eq.refl true, fun w1 hSw => ?_⟩) hS_0 ?_
  · (obtain ⟨⟨q1, q2, _, _⟩, _⟩ := hSw; go_simp; try rfl)
  (try simp only [Act.put, List.setIfInBounds_toArray, List.set_cons_zero, List.set_cons_succ])
  refine takeR (i := 12) (v := .int .i64 (q : Int)) rfl rfl (by kernel_rfl) (by kernel_rfl) (by kernel_rfl) (fun _ _ _ h => h) (Or.inl ⟨Eq.refl true, fun w1 hSw => ?_⟩) hS_0 ?_
  · first | rfl | (clear hSw; go_simp; done) | (clear hSw; go_simp; rfl)
  (try simp only [Act.put, List.setIfInBounds_toArray, List.set_cons_zero, List.set_cons_succ])
  refine takeR (i := 13) (v := .slice (some ⟨d, q, none⟩) (M.V.length - q) (M.V.length - q)) rfl rfl (by kernel_rfl) (by kernel_rfl) (by kernel_rfl) (fun _ _ _ h => h) (Or.inl ⟨Eq.refl true, fun w1 hSw => ?_⟩) hS_0 ?_
  · first | rfl | (clear hSw; go_simp; done) | (clear hSw; go_simp; rfl)
  (try simp only [Act.put, List.setIfInBounds_toArray, List.set_cons_zero, List.set_cons_succ])
  refine takeR (i := 14) (v := .pointer (some ⟨d, q, none⟩)) rfl rfl (by kernel_rfl) (by kernel_rfl) (by kernel_rfl) (fun _ _ _ h => h) (Or.inl ⟨Eq.refl true, fun w1 hSw => ?_⟩) hS_0 ?_
  · first | rfl | (clear hSw; go_simp; done) | (clear hSw; go_simp; rfl)
  (try simp only [Act.put, List.setIfInBounds_toArray, List.set_cons_zero, List.set_cons_succ])
  refine wpAnyH_loadC (i := 15) 96 _ (d) q (ys.map byteV) _ rfl rfl rfl rfl (Eq.refl true) Tryz.underlying96 rfl (by rw [List.length_map, HY.out]; kernel_rfl) (by kernel_rfl) (by kernel_rfl) (by kernel_rfl) (fun _ _ _ h => h) (fun w' h' => h'.1.2.2.2) hS_0 ?_
  (try simp only [Act.put, List.setIfInBounds_toArray, List.set_cons_zero, List.set_cons_succ])
  refine takeR (i := 16) (v := .bool (!decide (xs = ys))) rfl rfl (by kernel_rfl) (by kernel_rfl) (by kernel_rfl) (fun _ _ _ h => h) (Or.inl ⟨Eq.refl true, fun w1 hSw => ?_⟩) hS_0 ?_
  · first | rfl | (clear hSw; go_simp; done) | (clear hSw; go_simp; rfl)
  (try simp only [Act.put, List.setIfInBounds_toArray, List.set_cons_zero, List.set_cons_succ])
  refine takeR (i := 17) (v := .bool (!decide (xs = ys))) rfl rfl (by kernel_rfl) (by kernel_rfl) (by kernel_rfl) (fun _ _ _ h => h) (Or.inl ⟨Eq.refl true, fun w1 hSw => ?_⟩) hS_0 ?_
  · first | rfl | (clear hSw; go_simp; done) | (clear hSw; go_simp; rfl)
  (try simp only [Act.put, List.setIfInBounds_toArray, List.set_cons_zero, List.set_cons_succ])
  refine wpAnyH_done (by kernel_rfl) ?_ _
  go_wp2_with fail
  go_ret
  exact ⟨rfl, bel_drewN (Below.refl _ _) _⟩
end Go.Proofs.YtcackliabemecaaGreatDoor
