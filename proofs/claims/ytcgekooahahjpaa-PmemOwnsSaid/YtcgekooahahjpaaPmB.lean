/- Laws at the operation: copy with all other blocks kept, delete, store and clear of a set; bytes.Clone; a memory's small functions. -/
import Derived.Test.YtcgekooahahjpaaPmA
import Derived.Lib.SliceRun
import Derived.Deep.RegionLaw
namespace Go.Proofs.Ytcgekooahahjpaa
open Go.RowKit
set_option linter.unusedSimpArgs false
set_option linter.unusedVariables false

theorem grown_setRow (w : World) (g : Nat) (cs : Array Value) : w.grownBy (w.setRow g cs) (some g) :=
  ⟨rfl, rfl, rfl, by simp [World.setRow], fun k _ hn => setRow_other w g k cs (by rintro rfl; exact hn rfl)⟩

theorem run_copyG {P : Program} (w : World) {t e et ty : TypeId} (under : P.underlying t = some (.slice e)) (hsz : (P.info? e).map (·.size) = some 1)
    {g off dLen dCap sLen sCap : Nat} {dp sp : Option Addr} (hdp : 0 < min sLen dLen → dp = some ⟨g, off, none⟩)
    {L ds : List Value} (hblk : Blk w g et L) (hrow : Row w 1 sp sLen sCap ds) (h1 : ∀ u ∈ ds, u.oneCell' = true) (hfit : off + min sLen dLen ≤ L.length) :
    ∃ w', (Builtin.copy_ #[t, t] ty #[.slice dp dLen dCap, .slice sp sLen sCap]).run P w = .ok (goInt (min sLen dLen : Nat)) w' ∧ Blk w' g et (splice L off (ds.take (min sLen dLen))) ∧ w.grownBy w' (some g) := by
  have hlen : (ds.take (min sLen dLen)).length = min sLen dLen := by have := hrow.1; simp; omega
  by_cases h0 : min sLen dLen = 0
  · refine ⟨w, ?_, ?_, sg_refl w _⟩
    · rw [h0]; exact run_copy_none (P := P) w t t ty e dp sp dLen dCap sLen sCap under hsz h0
    · rw [h0]; simpa [splice] using hblk
  · obtain rfl := hdp (by omega)
    obtain ⟨b, off', rfl, hlt, hc⟩ := hrow.at (by omega)
    have hrun := run_copy_row (P := P) w t t ty e g off dLen dCap ⟨b, off', none⟩ sLen sCap L.toArray et (ds.take (min sLen dLen)) under hsz hblk hlen (by
      intro j v hj
      have hj' : ds[j]? = some v := by
        rw [List.getElem?_take] at hj
        split at hj
        · exact hj
        · cases hj
      have := hc j v hj'
      unfold Addr.add
      split
      · subst j; simpa using this
      · exact this) (by simp; omega) (fun v hv => h1 v (List.mem_of_mem_take hv))
    refine ⟨_, hrun.trans (by rw [hlen]), ?_, grown_setRow w g _⟩
    unfold Blk
    rw [setRow_heap w g _ _ et _ hblk]
    generalize ds.take (min sLen dLen) = cs at hlen
    simp [splice, hlen]

theorem wpl_copyG {P : Program} {w : World} {ops : Array Oper} {rest : List Oper} {o : Oper} {act : Act} {Q : Exit → Act → World → Prop} (hgd : o.guard = none) (d s : Operand) {t e et : TypeId}
    (ho : o.op = .call { callee := .builtin .copy, args := #[d, s], argTypes := #[t, t] }) (under : P.underlying t = some (.slice e)) (hsz : (P.info? e).map (·.size) = some 1)
    {g off dLen dCap sLen sCap : Nat} {dp sp : Option Addr} (hd : act.eval d = .slice dp dLen dCap) (hs : act.eval s = .slice sp sLen sCap) (hdp : 0 < min sLen dLen → dp = some ⟨g, off, none⟩)
    {L ds : List Value} (hblk : Blk w g et L) (hrow : Row w 1 sp sLen sCap ds) (h1 : ∀ u ∈ ds, u.oneCell' = true) (hfit : off + min sLen dLen ≤ L.length)
    (h : ∀ w', Blk w' g et (splice L off (ds.take (min sLen dLen))) → w.grownBy w' (some g) → wpList P ops Q rest (act.put o.dst (goInt (min sLen dLen : Nat))) w') :
    wpList P ops Q (o :: rest) act w := by
  obtain ⟨w', hrun, hb, hg⟩ := run_copyG (ty := o.type) w under hsz hdp hblk hrow h1 hfit (dCap := dCap)
  refine wpList_plain hgd fun K' hK' => ?_
  unfold Oper.wp
  simp [execOp, ho, resolve, invoke, builtin, hd, hs, hrun, Result.andThen]
  exact hK' _ _ (h w' hb hg)
theorem wpi_copyG {F : Fence} {nF : Nat} {P : Program} {w : World} {ops : Array Oper} {rest : List Oper} {o : Oper} {act : Act} {Q : Exit → Act → World → Prop} (hgd : o.guard = none) (d s : Operand) {t e et : TypeId}
    (ho : o.op = .call { callee := .builtin .copy, args := #[d, s], argTypes := #[t, t] }) (under : P.underlying t = some (.slice e)) (hsz : (P.info? e).map (·.size) = some 1)
    {g off dLen dCap sLen sCap : Nat} {dp sp : Option Addr} (hd : act.eval d = .slice dp dLen dCap) (hs : act.eval s = .slice sp sLen sCap) (hdp : 0 < min sLen dLen → dp = some ⟨g, off, none⟩)
    {L ds : List Value} (hblk : Blk w g et L) (hrow : Row w 1 sp sLen sCap ds) (h1 : ∀ u ∈ ds, u.oneCell' = true) (hfit : off + min sLen dLen ≤ L.length)
    (h : ∀ w', Blk w' g et (splice L off (ds.take (min sLen dLen))) → w.grownBy w' (some g) → wpListIn F nF P ops Q rest (act.put o.dst (goInt (min sLen dLen : Nat))) w') :
    wpListIn F nF P ops Q (o :: rest) act w := by
  obtain ⟨w', hrun, hb, hg⟩ := run_copyG (ty := o.type) w under hsz hdp hblk hrow h1 hfit (dCap := dCap)
  refine wpListIn_plain hgd fun K' hK' => ?_
  unfold Oper.wpIn
  refine ⟨by simp [Oper.about, ho, resolve, Target.leads, Sem.run_pure], ?_⟩
  rw [Oper.semAt_plain F _ _ (by rw [ho]; intro c hc'; cases hc')]
  simp [execOp, ho, resolve, invoke, builtin, hd, hs, hrun, Result.andThen]
  exact hK' _ _ (h w' hb hg)
/-- as one step of a region that draws its order -/
theorem step_copyG {P : Program} {ops : Array Oper} {o : Oper} {act : Act} {w : World} {K : Act → World → Prop} {Q : Exit → Act → World → Prop} {E : Prop} (hgd : o.guard = none) (d s : Operand) {t e et : TypeId}
    (ho : o.op = .call { callee := .builtin .copy, args := #[d, s], argTypes := #[t, t] }) (under : P.underlying t = some (.slice e)) (hsz : (P.info? e).map (·.size) = some 1)
    {g off dLen dCap sLen sCap : Nat} {dp sp : Option Addr} (hd : act.eval d = .slice dp dLen dCap) (hs : act.eval s = .slice sp sLen sCap) (hdp : 0 < min sLen dLen → dp = some ⟨g, off, none⟩)
    {L ds : List Value} (hblk : Blk w g et L) (hrow : Row w 1 sp sLen sCap ds) (h1 : ∀ u ∈ ds, u.oneCell' = true) (hfit : off + min sLen dLen ≤ L.length)
    (h : ∀ w', Blk w' g et (splice L off (ds.take (min sLen dLen))) → w.grownBy w' (some g) → K (act.put o.dst (goInt (min sLen dLen : Nat))) w') :
    if Region.wanted o (yielded ops act.tmps) = true then Oper.wp P o act w K Q else E := by
  have hw : Region.wanted o (yielded ops act.tmps) = true := by simp [Region.wanted, hgd]
  rw [if_pos hw]
  obtain ⟨w', hrun, hb, hg⟩ := run_copyG (ty := o.type) w under hsz hdp hblk hrow h1 hfit (dCap := dCap)
  unfold Oper.wp
  simp [execOp, ho, resolve, invoke, builtin, hd, hs, hrun, Result.andThen]
  exact h w' hb hg

/-! ### a set's operations -/
theorem run_clearM {P : Program} (w : World) {t k e ty : TypeId} {p : Nat} {es : Array MapEntry} {clock : Nat} (ht : P.underlying t = some (.map k e)) (hb : w.heap[p]? = some (.map es clock)) :
    (Builtin.clear_ #[t] ty #[.map (some p)]).run P w = .ok (.tuple #[]) (ChangeMaps.setBlock w p (.map #[] clock)) := by
  simp [Builtin.clear_, run_underlying ht, MapKept.run_getObj_map hb, MapKept.run_setObj_map _ hb, Result.andThen, ChangeMaps.setBlock]
theorem PendP.clear {w : World} {p : Nat} {A : List Bool} (h : PendP w p A) {t e ty : TypeId} (ht : Try.prog.underlying t = some (.map 3 e)) (n : Nat) :
    ∃ w', (Builtin.clear_ #[t] ty #[.map (some p)]).run Try.prog w = .ok (.tuple #[]) w' ∧ PendP w' p (tabF n fun _ => false) ∧ w.grownBy w' (some p) := by
  obtain ⟨D, m, ⟨es, clock, hb, F, hs, hD⟩, h1, h2⟩ := h
  refine ⟨_, run_clearM w ht hb, ?_, ⟨rfl, rfl, rfl, by simp [ChangeMaps.setBlock], fun i _ hi => ChangeMaps.heap_setBlock_other hb _ (fun e => hi (by rw [e]))⟩⟩
  obtain ⟨D0, n0, ⟨es0, clock0, hb0, F0, hs0, hD0⟩, r⟩ := PendP.made w n
  have hz : es0 = #[] := by
    have : (w.alloc (.map #[] 0)).heap[w.heap.size]? = some (.map #[] 0) := heap_alloc_new w _
    rw [this] at hb0
    cases hb0; rfl
  subst hz
  exact ⟨D0, n0, ⟨#[], clock, ChangeMaps.heap_setBlock_same hb _, ⟨by simp, MapKept.stamped_empty _, by simp⟩, hs0, hD0⟩, r⟩
theorem wpl_clearP {w : World} {ops : Array Oper} {rest : List Oper} {o : Oper} {act : Act} {Q : Exit → Act → World → Prop} (hgd : o.guard = none) (x : Operand) {t e : TypeId}
    (ho : o.op = .call { callee := .builtin .clear, args := #[x], argTypes := #[t] }) (ht : Try.prog.underlying t = some (.map 3 e)) (n : Nat) {p : Nat} {A : List Bool} (hx : act.eval x = .map (some p)) (hp : PendP w p A)
    (h : ∀ w', PendP w' p (tabF n fun _ => false) → w.grownBy w' (some p) → wpList Try.prog ops Q rest (act.put o.dst (.tuple #[])) w') : wpList Try.prog ops Q (o :: rest) act w := by
  obtain ⟨w', hrun, hb, hg⟩ := hp.clear (ty := o.type) ht n
  refine wpList_plain hgd fun K' hK' => ?_
  unfold Oper.wp
  simp [execOp, ho, resolve, invoke, builtin, hx, hrun, Result.andThen]
  exact hK' _ _ (h w' hb hg)
theorem wpi_delP {F : Fence} {nF : Nat} {w : World} {ops : Array Oper} {rest : List Oper} {o : Oper} {act : Act} {Q : Exit → Act → World → Prop} (hgd : o.guard = none) (m x : Operand) {t e : TypeId}
    (ho : o.op = .call { callee := .builtin .delete, args := #[m, x], argTypes := #[t, 3] }) (ht : Try.prog.underlying t = some (.map 3 e)) {p k : Nat} {A : List Bool} (hm : act.eval m = .map (some p)) (hx : act.eval x = .int .i64 k) (hk : k < A.length) (hk2 : k ≤ 1000000) (hp : PendP w p A)
    (h : ∀ w', PendP w' p (A.set k false) → w.grownBy w' (some p) → wpListIn F nF Try.prog ops Q rest (act.put o.dst (.tuple #[])) w') : wpListIn F nF Try.prog ops Q (o :: rest) act w := by
  obtain ⟨D, n, ho', h1, h2⟩ := hp
  refine wpListIn_delete_own w hgd m x t 3 ho e keyedI ht unitElem p n D hm ho' _ _ hx (keyI k (WalkArith.wf_i64 (by omega))) ?_
  intro w1 o1 t1
  exact h w1 (PendP.del hk hk2 ho' h1 h2 o1) t1.grown
theorem wpi_putP {F : Fence} {nF : Nat} {w : World} {ops : Array Oper} {rest : List Oper} {o : Oper} {act : Act} {Q : Exit → Act → World → Prop} (hgd : o.guard = none) (m x v : Operand) {t e : TypeId}
    (ho : o.op = .mapUpdate t m x v) (ht : Try.prog.underlying t = some (.map 3 e)) {p k : Nat} {A : List Bool} (hm : act.eval m = .map (some p)) (hx : act.eval x = .int .i64 k) (hv : act.eval v = .agg #[]) (hk : k < A.length) (hk2 : k ≤ 1000000) (hl : A.length ≤ 1000000) (hp : PendP w p A)
    (h : ∀ w', PendP w' p (A.set k true) → w.grownBy w' (some p) → wpListIn F nF Try.prog ops Q rest (act.put o.dst undef) w') : wpListIn F nF Try.prog ops Q (o :: rest) act w := by
  obtain ⟨D, ho', h1, h2⟩ := hp.norm
  have hc : A.count true ≤ A.length := List.count_le_length
  refine wpListIn_mapUpdate_in w hgd m x v t ho 3 e keyedI ht unitElem p _ D hm ho' (by unfold maxLen; omega) _ _ _ hx hv (keyI k (WalkArith.wf_i64 (by omega))) (.agg []) [] unitElem_mk ?_
  intro w1 o1 t1
  exact h w1 (PendP.put hk hk2 ho' h1 h2 o1) t1.grown

/-! ### bytes.Clone -/
theorem own_emptyM (w : World) : OwnB (w.alloc (.cells #[] 5)) w.heap.size (some ⟨w.heap.size, 0, none⟩) 0 [] := by
  refine ⟨rfl, .inr ⟨w.heap.size, 0, #[], rfl, Nat.le_refl _, ?_, Nat.le_refl _, Nat.zero_le _, rfl, rfl⟩⟩
  exact heap_alloc_new w _
set_option maxHeartbeats 1000000 in
theorem cloneM_any (a : Option Addr) (c : Nat) (xs : List UInt8) (w : World) (h : RowB w a c xs) (hx : xs.length ≤ 1048576) :
    Calls Try.prog 38 #[.slice a xs.length c] w (RetB w xs) := by
  have qT : ∀ (w : World) (a : Option Addr) (n c n' c' : Nat), (binOp .eql 29 (.slice a n c) (.slice none n' c')).run Try.prog w = .ok (.bool a.isNone) w := fun w a n c n' c' => Lib.run_eql_slice_nil w _ _ a n c n' c' Try.underlying29
  cases a with
  | none =>
    have hc : c = 0 := h.2.2.2.1 rfl
    have hl : xs = [] := List.eq_nil_of_length_eq_zero (by have := h.2.1; omega)
    subst hl
    clear h hx hc
    go_enter Try.func38, Try.ntmps38
    go_wp2
    go_ret
    exact ⟨none, 0, rfl, Own.nil _ _ _ _, Below.refl _ _⟩
  | some ad =>
    have HO := hid (own_emptyM w)
    have HR := hid (h.mono (albO w (.cells #[] 5)))
    have B0 := hid (albO w (.cells #[] 5))
    clear h
    go_enter Try.func38, Try.ntmps38
    go_wp2_with (at_builtin; (refine wpl_append rfl (.tmp 5) (.tmp 6) rfl E8 w.heap.size rfl rfl HO.out HR.out (byteV_one xs) (by omega) (by omega) (by simp) ?_); intro a2 c2 w2 o2 g2 b2; have O2 := hid o2; have B2 := hid (B0.out.trans b2); clear o2 g2 b2)
    go_ret
    exact ⟨a2, c2, by simp, by have := O2.out; simpa using this, B2.out⟩

/-! ### small functions -/
theorem MemP.cells {w : World} {g v d p : Nat} {M : MemM} (h : MemP w g v d p M) :
    w.cell? ⟨g, 0, none⟩ = some (.slice (some ⟨v, 0, none⟩) M.V.length M.V.length) ∧ w.cell? ⟨g, 1, none⟩ = some (.slice (some ⟨d, 0, none⟩) M.V.length M.V.length) ∧ w.cell? ⟨g, 2, none⟩ = some (.map (some p)) :=
  ⟨h.2.2.1.cell (i := 0) (by simp), h.2.2.1.cell (i := 1) (by simp), h.2.2.1.cell (i := 2) (by simp)⟩
theorem odd_any (k : Int) (w : World) (hk : -9223372036854775808 ≤ k ∧ k ≤ 9223372036854775807) : Calls Try.prog 39 #[.int .i64 k] w fun e w' => e = .returned (.bool (oddP k)) ∧ w = w' := by
  have hO : oddP k = decide ((if k < 0 then -(k + 1) else k) % 2 = 1) := rfl
  by_cases h : k < 0
  · have e1 : IntKind.i64.wrap (k + 1) = k + 1 := IntWalk.i64_in _ (by omega)
    have e2 : IntKind.i64.wrap (-(k + 1)) = -(k + 1) := IntWalk.i64_in _ (by omega)
    have e3 : -((k + 1).tmod 2) = -(k + 1) % 2 := by rw [← Int.neg_tmod]; exact Int.tmod_eq_emod_of_nonneg (by omega)
    rw [if_pos h] at hO
    have hb : 0 ≤ -(k + 1) % 2 ∧ -(k + 1) % 2 < 2 := by omega
    rw [hO]
    generalize -(k + 1) % 2 = r at *
    have e4 : IntKind.i64.wrap r = r := IntWalk.i64_in _ (by omega)
    have dk : decide (k < 0) = true := decide_eq_true h
    have E3 := hid e3
    have e5 : IntKind.i64.wrap (-((k + 1).tmod 2)) = -((k + 1).tmod 2) := by rw [e3]; exact e4
    clear hO e3
    go_enter Try.func39, Try.ntmps39
    go_wp2
    go_ret
    exact ⟨ret_bool (by rw [E3.out]; rfl), rfl⟩
  · have e3 : k.tmod 2 = k % 2 := Int.tmod_eq_emod_of_nonneg (by omega)
    rw [if_neg h] at hO
    have hb : 0 ≤ k % 2 ∧ k % 2 < 2 := by omega
    rw [hO]
    generalize k % 2 = r at *
    have e4 : IntKind.i64.wrap r = r := IntWalk.i64_in _ (by omega)
    clear hO
    go_enter Try.func39, Try.ntmps39
    go_wp2
    go_ret
    exact ⟨ret_bool (by rfl), rfl⟩
theorem size_any {w : World} {g v d p : Nat} {M : MemM} (h : MemP w g v d p M) : Calls Try.prog 14 #[.pointer (some ⟨g, 0, none⟩)] w fun e w' => e = .returned (.int .i64 M.V.length) ∧ w = w' := by
  obtain ⟨c0, _, _⟩ := h.cells
  clear h
  go_enter Try.func14, Try.ntmps14
  go_wp2
  go_ret
  exact ⟨rfl, rfl⟩
/-- do n bytes from at on lie within -/
def inM (M : MemM) (at_ n : Int) : Bool := decide (0 ≤ at_ ∧ 0 ≤ n ∧ at_ ≤ (M.V.length : Int) - n)
theorem within_any {w : World} {g v d p : Nat} {M : MemM} (h : MemP w g v d p M) (at_ n : Int) (ha : -9223372036854775808 ≤ at_ ∧ at_ ≤ 9223372036854775807) (hn : -9223372036854775808 ≤ n ∧ n ≤ 9223372036854775807) :
    Calls Try.prog 33 #[.pointer (some ⟨g, 0, none⟩), .int .i64 at_, .int .i64 n] w fun e w' => e = .returned (.bool (inM M at_ n)) ∧ w = w' := by
  have hl := h.1.2.2.2.2
  have HS := hid (size_any h)
  clear h
  unfold inM
  by_cases h1 : 0 ≤ at_
  · have d1 : decide (0 ≤ at_) = true := decide_eq_true h1
    by_cases h2 : 0 ≤ n
    · have d2 : decide (0 ≤ n) = true := decide_eq_true h2
      have e1 : IntKind.i64.wrap ((M.V.length : Int) - n) = (M.V.length : Int) - n := IntWalk.i64_in _ (by omega)
      by_cases h3 : at_ ≤ (M.V.length : Int) - n
      · have d3 : decide (at_ ≤ (M.V.length : Int) - n) = true := decide_eq_true h3
        rw [decide_eq_true ⟨h1, h2, h3⟩]
        go_enter Try.func33, Try.ntmps33
        go_wp2_with (go_at_call 14; refine HS.out.mono ?_; rintro e w1 ⟨rfl, rfl⟩)
        go_ret
        exact ⟨rfl, rfl⟩
      · have d3 : decide (at_ ≤ (M.V.length : Int) - n) = false := decide_eq_false h3
        rw [decide_eq_false (fun q => h3 q.2.2)]
        go_enter Try.func33, Try.ntmps33
        go_wp2_with (go_at_call 14; refine HS.out.mono ?_; rintro e w1 ⟨rfl, rfl⟩)
        go_ret
        exact ⟨rfl, rfl⟩
    · have d2 : decide (0 ≤ n) = false := decide_eq_false h2
      rw [decide_eq_false (fun q => h2 q.2.1)]
      clear HS
      go_enter Try.func33, Try.ntmps33
      go_wp2
      go_ret
      exact ⟨rfl, rfl⟩
  · have d1 : decide (0 ≤ at_) = false := decide_eq_false h1
    rw [decide_eq_false (fun q => h1 q.1)]
    clear HS
    go_enter Try.func33, Try.ntmps33
    go_wp2
    go_ret
    exact ⟨rfl, rfl⟩
end Go.Proofs.Ytcgekooahahjpaa
