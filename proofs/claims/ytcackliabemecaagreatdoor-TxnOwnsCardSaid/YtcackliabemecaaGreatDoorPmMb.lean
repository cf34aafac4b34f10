/- Merged: PmF PmG PmH. -/
import Derived.Test.YtcackliabemecaaGreatDoorPmE
/- A memory read, its dirty cells, a fence. -/
namespace Go.Proofs.YtcackliabemecaaGreatDoor
open Go.RowKit
set_option linter.unusedSimpArgs false
set_option linter.unusedVariables false
set_option maxRecDepth 100000

/-- what Load and Lasts tell of the bytes X -/
def LoadP (X : List UInt8) (M : MemM) (at_ n : Int) (w : World) (e : Ending) (w' : World) : Prop :=
  if inM M at_ n = true then ∃ a c, e = .returned (.tuple #[.slice a n.toNat c, .int .i64 0]) ∧ OwnB w' w.heap.size a c ((X.drop at_.toNat).take n.toNat) ∧ Below w.heap.size w w' else e = .returned (.tuple #[.slice none 0 0, .int .i64 1]) ∧ w = w'
theorem inM_true {M : MemM} {at_ n : Int} (h : inM M at_ n = true) : ∃ a m : Nat, at_ = a ∧ n = m ∧ a + m ≤ M.V.length := by
  have := of_decide_eq_true h
  exact ⟨at_.toNat, n.toNat, by omega, by omega, by omega⟩
set_option maxHeartbeats 1000000 in
theorem load_any {w : World} {g v d p : Nat} {M : MemM} (h : MemP w g v d p M) (at_ n : Int) (ha : -9223372036854775808 ≤ at_ ∧ at_ ≤ 9223372036854775807) (hn : -9223372036854775808 ≤ n ∧ n ≤ 9223372036854775807) :
    Calls Tryz.prog 10 #[.pointer (some ⟨g, 0, none⟩), .int .i64 at_, .int .i64 n] w (LoadP M.V M at_ n w) := by
  have HW := hid (within_any h at_ n ha hn)
  by_cases hi : inM M at_ n = true
  · have hE : LoadP M.V M at_ n w = fun e w' => ∃ a c, e = .returned (.tuple #[.slice a n.toNat c, .int .i64 0]) ∧ OwnB w' w.heap.size a c ((M.V.drop at_.toNat).take n.toNat) ∧ Below w.heap.size w w' := by
      funext e w'; unfold LoadP; rw [if_pos hi]
    rw [hE]
    clear hE
    rw [hi] at HW
    obtain ⟨a0, n0, rfl, rfl, hl⟩ := inM_true hi
    rw [show ((a0 : Int)).toNat = a0 from rfl, show ((n0 : Int)).toNat = n0 from rfl]
    obtain ⟨c0, c1, c2⟩ := h.cells
    have hVl := h.1.2.2.2.2
    have e1 : IntKind.i64.wrap ((a0 : Int) + n0) = (a0 : Int) + n0 := IntWalk.i64_in _ (by omega)
    have f1 : (0 ≤ (a0 : Int) + n0) = True := eq_true (by omega)
    have f2 : ((a0 : Int) + n0 ≤ (M.V.length : Int)) = True := eq_true (by omega)
    have f3 : ((a0 : Int) + n0).toNat = a0 + n0 := by omega
    have f5 : ((a0 : Int) ≤ (M.V.length : Int)) = True := eq_true (by omega)
    have f6 : (a0 ≤ M.V.length) = True := eq_true (by omega)
    have f7 : (a0 + n0 ≤ M.V.length) = True := eq_true (by omega)
    have f8 : (a0 ≤ a0 + n0) = True := eq_true (by omega)
    have hyl : ((M.V.drop a0).take n0).length = n0 := by simp; omega
    by_cases h4 : M.V.length = a0
    · obtain rfl : n0 = 0 := by omega
      have HC : Hid (Calls Tryz.prog 31 #[.slice (some ⟨v, 0, none⟩) 0 0] w (RetB w [])) := cloneM_any (some ⟨v, 0, none⟩) 0 [] w ⟨rfl, Nat.le_refl _, Nat.zero_le _, (fun h => by cases h), fun h => absurd h (by simp)⟩ (by simp)
      rw [List.take_zero]
      clear hyl h hi f1 f2 f3 f5 f6 f7 f8 e1
      subst h4
      have e1 : IntKind.i64.wrap (M.V.length : Int) = (M.V.length : Int) := IntWalk.i64_in _ (by omega)
      go_enter Tryz.func10, Tryz.ntmps10
      go_wp2_with (first | (go_at_call 30; refine HW.out.mono ?_; rintro e w1 ⟨rfl, rfl⟩) | (go_at_call 31; refine HC.out.mono ?_; rintro e w1 ⟨a1, k1, rfl, o1, b1⟩))
      go_ret2
      exact ⟨a1, k1, rfl, o1, b1⟩
    · have hrow : RowB w (some ⟨v, a0, none⟩) (M.V.length - a0) ((M.V.drop a0).take n0) := by
        have := row_mid h.2.2.2.1 a0 n0 (M.V.length - a0) (by omega) (by omega) (by simp; omega)
        rw [← List.map_drop, ← List.map_take] at this
        unfold RowB
        rw [hyl]; exact this
      have hc := cloneM_any _ _ _ w hrow (by omega)
      rw [hyl] at hc
      have HC := hid hc
      have f4 : (M.V.length = a0) = False := eq_false h4
      generalize (M.V.drop a0).take n0 = ys at *
      have HY := hid hyl
      clear hyl h hi hc hrow h4
      go_enter Tryz.func10, Tryz.ntmps10
      go_wp2_with (first | (go_at_call 30; refine HW.out.mono ?_; rintro e w1 ⟨rfl, rfl⟩) | (go_at_call 31; refine HC.out.mono ?_; rintro e w1 ⟨a1, k1, rfl, o1, b1⟩))
      go_ret2
      exact ⟨a1, k1, (by rw [HY.out]; rfl), o1, b1⟩
  · have hE : LoadP M.V M at_ n w = fun e w' => e = .returned (.tuple #[.slice none 0 0, .int .i64 1]) ∧ w = w' := by
      funext e w'; unfold LoadP; rw [if_neg hi]
    rw [hE]
    clear hE
    rw [show inM M at_ n = false by simpa using hi] at HW
    clear hi h
    go_enter Tryz.func10, Tryz.ntmps10
    go_wp2_with (first | (go_at_call 30; refine HW.out.mono ?_; rintro e w1 ⟨rfl, rfl⟩))
    go_ret2
    exact ⟨rfl, rfl⟩
set_option maxHeartbeats 1000000 in
theorem lasts_any {w : World} {g v d p : Nat} {M : MemM} (h : MemP w g v d p M) (at_ n : Int) (ha : -9223372036854775808 ≤ at_ ∧ at_ ≤ 9223372036854775807) (hn : -9223372036854775808 ≤ n ∧ n ≤ 9223372036854775807) :
    Calls Tryz.prog 28 #[.pointer (some ⟨g, 0, none⟩), .int .i64 at_, .int .i64 n] w (LoadP M.D M at_ n w) := by
  have HW := hid (within_any h at_ n ha hn)
  by_cases hi : inM M at_ n = true
  · have hE : LoadP M.D M at_ n w = fun e w' => ∃ a c, e = .returned (.tuple #[.slice a n.toNat c, .int .i64 0]) ∧ OwnB w' w.heap.size a c ((M.D.drop at_.toNat).take n.toNat) ∧ Below w.heap.size w w' := by
      funext e w'; unfold LoadP; rw [if_pos hi]
    rw [hE]
    clear hE
    rw [hi] at HW
    obtain ⟨a0, n0, rfl, rfl, hl⟩ := inM_true hi
    rw [show ((a0 : Int)).toNat = a0 from rfl, show ((n0 : Int)).toNat = n0 from rfl]
    obtain ⟨c0, c1, c2⟩ := h.cells
    have hVl := h.1.2.2.2.2
    have hDl := h.1.1
    have e1 : IntKind.i64.wrap ((a0 : Int) + n0) = (a0 : Int) + n0 := IntWalk.i64_in _ (by omega)
    have f1 : (0 ≤ (a0 : Int) + n0) = True := eq_true (by omega)
    have f2 : ((a0 : Int) + n0 ≤ (M.V.length : Int)) = True := eq_true (by omega)
    have f3 : ((a0 : Int) + n0).toNat = a0 + n0 := by omega
    have f5 : ((a0 : Int) ≤ (M.V.length : Int)) = True := eq_true (by omega)
    have f6 : (a0 ≤ M.V.length) = True := eq_true (by omega)
    have f7 : (a0 + n0 ≤ M.V.length) = True := eq_true (by omega)
    have f8 : (a0 ≤ a0 + n0) = True := eq_true (by omega)
    have hyl : ((M.D.drop a0).take n0).length = n0 := by simp; omega
    have HD := hid hDl
    by_cases h4 : M.V.length = a0
    · obtain rfl : n0 = 0 := by omega
      have HC : Hid (Calls Tryz.prog 31 #[.slice (some ⟨d, 0, none⟩) 0 0] w (RetB w [])) := cloneM_any (some ⟨d, 0, none⟩) 0 [] w ⟨rfl, Nat.le_refl _, Nat.zero_le _, (fun h => by cases h), fun h => absurd h (by simp)⟩ (by simp)
      rw [List.take_zero]
      clear hyl h hi hDl f1 f2 f3 f5 f6 f7 f8 e1
      subst h4
      have e1 : IntKind.i64.wrap (M.V.length : Int) = (M.V.length : Int) := IntWalk.i64_in _ (by omega)
      go_enter Tryz.func28, Tryz.ntmps28
      go_wp2_with (first | (go_at_call 30; refine HW.out.mono ?_; rintro e w1 ⟨rfl, rfl⟩) | (go_at_call 31; refine HC.out.mono ?_; rintro e w1 ⟨a1, k1, rfl, o1, b1⟩))
      go_ret2
      exact ⟨a1, k1, rfl, o1, b1⟩
    · have hrow : RowB w (some ⟨d, a0, none⟩) (M.V.length - a0) ((M.D.drop a0).take n0) := by
        have := row_mid h.2.2.2.2.1 a0 n0 (M.V.length - a0) (by omega) (by omega) (by simp; omega)
        rw [← List.map_drop, ← List.map_take] at this
        unfold RowB
        rw [hyl]; exact this
      have hc := cloneM_any _ _ _ w hrow (by omega)
      rw [hyl] at hc
      have HC := hid hc
      have f4 : (M.V.length = a0) = False := eq_false h4
      generalize (M.D.drop a0).take n0 = ys at *
      have HY := hid hyl
      clear hyl h hi hc hrow h4 hDl
      go_enter Tryz.func28, Tryz.ntmps28
      go_wp2_with (first | (go_at_call 30; refine HW.out.mono ?_; rintro e w1 ⟨rfl, rfl⟩) | (go_at_call 31; refine HC.out.mono ?_; rintro e w1 ⟨a1, k1, rfl, o1, b1⟩))
      go_ret2
      exact ⟨a1, k1, (by rw [HY.out]; rfl), o1, b1⟩
  · have hE : LoadP M.D M at_ n w = fun e w' => e = .returned (.tuple #[.slice none 0 0, .int .i64 1]) ∧ w = w' := by
      funext e w'; unfold LoadP; rw [if_neg hi]
    rw [hE]
    clear hE
    rw [show inM M at_ n = false by simpa using hi] at HW
    clear hi h
    go_enter Tryz.func28, Tryz.ntmps28
    go_wp2_with (first | (go_at_call 30; refine HW.out.mono ?_; rintro e w1 ⟨rfl, rfl⟩))
    go_ret2
    exact ⟨rfl, rfl⟩
end Go.Proofs.YtcackliabemecaaGreatDoor
/- A memory's dirty cells, a fence, a crash. -/
namespace Go.Proofs.YtcackliabemecaaGreatDoor
open Go.RowKit
set_option linter.unusedSimpArgs false
set_option linter.unusedVariables false
set_option maxRecDepth 100000

theorem EIp : ElemT Tryz.prog 27 3 1 8 := elemT Tryz.underlying27 (z := .int .i64 0) (by kernel_rfl) rfl (by omega)
theorem MemP.mono {w w' : World} {g v d p : Nat} {M : MemM} (h : MemP w g v d p M) (b : Below w.heap.size w w') : MemP w' g v d p M := h.turns (X := fun _ => False) (Turns.of_below b) id id id id
abbrev natV (L : List Nat) : List Value := L.map fun (k : Nat) => iV (k : Int)
/-- numbers of the call's own -/
abbrev OwnN (w : World) (B : Nat) (a : Option Addr) (c : Nat) (L : List Nat) : Prop := Own w B 3 1 a L.length c (natV L)
def dirtyN (V D : List UInt8) (n : Nat) : List Nat := (List.range n).filter (dirtyB V D)
theorem dirtyN_succ (V D : List UInt8) (n : Nat) : dirtyN V D (n + 1) = dirtyN V D n ++ if dirtyB V D n then [n] else [] := by
  unfold dirtyN; rw [List.range_succ, List.filter_append]; cases h : dirtyB V D n <;> simp [h]
theorem dirtyN_len (V D : List UInt8) (n : Nat) : (dirtyN V D n).length ≤ n := by
  have := List.length_filter_le (dirtyB V D) (List.range n)
  simpa [dirtyN] using this

set_option maxHeartbeats 2000000 in
theorem dirtyAll_any {w : World} {g v d p : Nat} {M : MemM} (h : MemP w g v d p M) :
    Calls Tryz.prog 39 #[.pointer (some ⟨g, 0, none⟩)] w fun e w' => ∃ a c, e = .returned (.slice a (dirtyL M).length c) ∧ OwnN w' w.heap.size a c (dirtyL M) ∧ Below w.heap.size w w' := by
  have HS := hid (size_any h)
  have HD := hid (fun X (b : Below w.heap.size w X) k (hk : k < M.A.length) => dirty_any (h.mono b) k hk)
  have hA := h.1.2.1
  have hVl := h.1.2.2.2.2
  have e1 : ((M.V.length : Int)).tdiv 8 = (M.A.length : Int) := by rw [Int.tdiv_eq_ediv_of_nonneg (by omega)]; omega
  have e2 : IntKind.i64.wrap (M.A.length : Int) = (M.A.length : Int) := IntWalk.i64_in _ (by omega)
  have hN : M.A.length ≤ 200000 := by omega
  have hL : dirtyL M = dirtyN M.V M.D M.A.length := rfl
  rw [hL]
  clear h hA hVl hL
  generalize M.A.length = N at *
  go_enter Tryz.func39, Tryz.ntmps39
  go_wp2_with (go_at_call 35; refine HS.out.mono ?_; rintro e w1 ⟨rfl, rfl⟩)
  go_loopw [3, 8] (fun l i wr => ∃ (k : Nat) (a : Option Addr) (c : Nat) (L : List Nat), k ≤ N ∧ i = .int .i64 k ∧ l = .slice a L.length c ∧ L = dirtyN M.V M.D k ∧ OwnN wr w.heap.size a c L ∧ Below w.heap.size w wr) (fun _ i _ => N - (intOf i).toNat)
  case atStart => exact ⟨0, none, 0, [], by omega, rfl, rfl, rfl, Own.nil _ _ _ _, Below.refl _ _⟩
  case round =>
    obtain ⟨k, a, c, L, hk, rfl, rfl, hL, ho, br⟩ := hrel
    have hLl : L.length ≤ k := by rw [hL]; exact dirtyN_len _ _ _
    have HL := hid hL
    clear hL
    by_cases hlt : k < N
    · have HC := hid (HD.out wr br k hlt)
      have e3 : IntKind.i64.wrap ((k : Int) + 1) = (k : Int) + 1 := IntWalk.i64_in _ (by omega)
      have i1 : (k : Int) < (N : Int) := by omega
      have hsucc := dirtyN_succ M.V M.D k
      have HSU := hid hsucc
      clear hsucc
      have BR := hid br
      have HO := hid ho
      clear br ho
      by_cases hb : dirtyB M.V M.D k = true
      · rw [hb] at HC HSU
        clear hb
        go_wp2_with (first
          | (go_at_call 58; refine HC.out.mono ?_; rintro e w1 ⟨rfl, b1⟩; have B1 := hid (kept_trans BR.out b1); have O1 := hid (HO.out.mono b1); clear b1)
          | (at_builtin; refine wpl_append rfl (.tmp 14) (.tmp 16) rfl EIp w.heap.size rfl rfl (O1.out.alloc _) (row_new1 _ _ _) (by simp [Value.oneCell']) (by omega) (by omega) (by have := B1.out.size; simp; omega) ?_; intro a3 c3 w3 o3 g3 b3; have O3 := hid o3; have B3 := hid ((kept_alloc B1.out _).trans b3); clear o3 g3 b3))
        go_roundw
        case rel => exact ⟨k + 1, a3, c3, L ++ [k], by omega, by go_num, by simp, by rw [HSU.out, ← HL.out]; rfl, by show Own _ _ _ 1 a3 (L ++ [k]).length c3 ((L ++ [k]).map _); rw [List.length_append, List.map_append]; exact O3.out, B3.out⟩
        case measure => simp [intOf]; omega
      · rw [show dirtyB M.V M.D k = false by simpa using hb] at HC HSU
        clear hb
        go_wp2_with (first
          | (go_at_call 58; refine HC.out.mono ?_; rintro e w1 ⟨rfl, b1⟩; have B1 := hid (kept_trans BR.out b1); have O1 := hid (HO.out.mono b1); clear b1))
        go_roundw
        case rel => exact ⟨k + 1, a, c, L, by omega, by go_num, rfl, by rw [HSU.out, ← HL.out]; simp, O1.out, B1.out⟩
        case measure => simp [intOf]; omega
    · obtain rfl : k = N := by omega
      go_wp2
      go_ret
      exact ⟨a, c, by rw [← HL.out]; rfl, by rw [← HL.out]; exact ho, br⟩

/-! ### a fence -/
theorem Turns.ranges {X : Nat → Prop} {w w' : World} {H : Type} {P : Program} {k : TypeId} {R : Value → Option (DataW H × List MemPlace)} {b r n : Nat} {D : DataW H} {left : Lit → Bool} {cnt : Nat} (t : Turns X w w') (h : w.ranges P k R b r n D left cnt) (hb : ¬ X b) (hr : ¬ X r) : w'.ranges P k R b r n D left cnt := by
  have h1 := h.owns.lt
  have h2 := h.lt
  obtain ⟨es, clock, since, seen, c0, hb', F, hs, hD, hr', rest⟩ := h
  exact ⟨es, clock, since, seen, c0, (t.block b h1 hb).trans hb', F, hs, hD, (t.block r h2 hr).trans hr', rest⟩
theorem sameKeyI (i k : Int) : (Lit.int .i64 i).sameKey (.int .i64 k) = decide (i = k) := by simp [Lit.sameKey]
theorem wpl_nextS {w : World} {ops : Array Oper} {rest : List Oper} {o : Oper} {a : Act} {Q : Exit → Act → World → Prop} (hg : o.guard = none) (it : Operand) (hop : o.op = Op.next it false) {p r n : Nat} {D : DataW Unit} {left : Lit → Bool} {cnt : Nat}
    (hit : a.eval it = .pointer (some ⟨r, 0, none⟩)) (h : w.ranges Tryz.prog 3 unitElem p r n D left cnt)
    (hDone : (∀ kl, left kl = false) → wpList Tryz.prog ops Q rest (a.put o.dst (.tuple #[.bool false])) w)
    (hMore : ∀ (x : Int) (w' : World) (cnt' : Nat), (Lit.int .i64 x).wf = true → left (.int .i64 x) = true → w'.ranges Tryz.prog 3 unitElem p r n D (fun z => left z && !z.sameKey (.int .i64 x)) cnt' → cnt' < cnt →
      w.grownBy w' (some r) → (Instr.entry (.pointer (some ⟨r, 0, none⟩))).run Tryz.prog w' = .ok (.tuple #[.int .i64 x, .agg #[]]) w' → wpList Tryz.prog ops Q rest (a.put o.dst (.tuple #[.bool true, .int .i64 x, .agg #[]])) w') :
    wpList Tryz.prog ops Q (o :: rest) a w := by
  refine wpList_next_ranges w hg it hop 3 keyedI unitElem (Value.int .i64) (fun _ : Unit => Value.agg #[]) (fun key kl hk => ?_) (fun v y hv => ⟨(), (unitElem_inv hv).1⟩) p r n D left cnt hit h (fun _ hl => hDone hl) ?_
  · obtain ⟨x, rfl, _⟩ := Maps.keyOf_int_inv Tryz.underlying3 hk; exact ⟨x, rfl⟩
  · intro x c kl y w' cnt' hk hl hv _ hr hlt hgr _ hen
    obtain ⟨x', e1, rfl, hwf⟩ := Maps.keyOf_int_inv Tryz.underlying3 hk
    cases e1
    exact hMore x w' cnt' hwf hl hr hlt hgr hen
theorem pendB_true {A : List Bool} {x : Int} (h : pendB A x = true) : ∃ k : Nat, x = k ∧ k < A.length ∧ A.getD k false = true := by
  unfold pendB at h
  simp only [Bool.and_eq_true, decide_eq_true_eq] at h
  refine ⟨x.toNat, by omega, ?_, h.2⟩
  by_cases q : x.toNat < A.length
  · exact q
  · have := h.2
    simp [List.getD_eq_getElem?_getD, List.getElem?_eq_none (Nat.le_of_not_lt q)] at this

end Go.Proofs.YtcackliabemecaaGreatDoor
/- A memory's crash. -/
namespace Go.Proofs.YtcackliabemecaaGreatDoor
open Go.RowKit
set_option linter.unusedSimpArgs false
set_option linter.unusedVariables false
set_option maxRecDepth 100000

def intsOk (L : List Int) : Prop := ∀ x ∈ L, -9223372036854775808 ≤ x ∧ x ≤ 9223372036854775807
theorem own_natAt {w : World} {B c : Nat} {a : Option Addr} {L : List Nat} (h : OwnN w B a c L) {j : Nat} (hj : j < L.length) : ∃ b, a = some ⟨b, 0, none⟩ ∧ B ≤ b ∧ w.cell? ⟨b, j, none⟩ = some (.int .i64 (L.getD j 0 : Nat)) := by
  obtain ⟨g, rfl⟩ := own_someO h (by omega)
  obtain ⟨C, hb, hl, hB, ht, _⟩ := Own.blk h
  have := (Own.row h).at (by omega)
  obtain ⟨b, off, e, hlt, hc⟩ := this
  cases e
  refine ⟨_, rfl, hB, ?_⟩
  have := hc j (iV (L.getD j 0 : Nat)) (by simp [natV, hj])
  simpa [iV] using this

set_option maxHeartbeats 4000000 in
theorem crash_any {w : World} {g v d p : Nat} {M : MemM} (h : MemP w g v d p M) (picks : List Int) (ap : Option Addr) (cp : Nat) (hr : RowI w ap cp picks) (hok : intsOk picks) (hs : 0 < picks.length → ∀ b, (∃ off, ap = some ⟨b, off, none⟩) → b ≠ d) :
    Calls Tryz.prog 23 #[.pointer (some ⟨g, 0, none⟩), .slice ap picks.length cp] w fun e w' => (∃ x, e = .returned x) ∧ MemP w' g v d p (crashM M picks) ∧ Turns (fun b => b = v ∨ b = d ∨ b = p) w w' := by
  obtain ⟨av, ag1, ag2, ap1, ap2, ap3, gl, vl, dl, pl⟩ := mem_apart h
  have HDA := hid (dirtyAll_any h)
  have HH := hid h
  have HR := hid hr
  have hpl := rowI_len hr
  have hLlt : ∀ k ∈ dirtyL M, k < M.A.length := dirtyL_lt
  have hLlen : (dirtyL M).length ≤ 200000 := by
    have := dirtyN_len M.V M.D M.A.length
    have h1 := h.1.2.1; have h2 := h.1.2.2.2.2
    have : (dirtyL M).length ≤ M.A.length := this
    omega
  have hE : crashM M picks = ⟨mixF (selF (dirtyL M) picks (dirtyL M).length) M.V M.D, mixF (selF (dirtyL M) picks (dirtyL M).length) M.V M.D, tabF M.A.length fun _ => false⟩ := rfl
  rw [hE]
  clear hE h hr
  generalize dirtyL M = L at *
  have HLT := hid hLlt
  clear hLlt
  go_enter Tryz.func23, Tryz.ntmps23
  go_wp2_with (go_at_call 39; refine HDA.out.mono ?_; rintro e w1 ⟨al, cl, rfl, ol, b1⟩; have OL := hid ol; have B1 := hid b1; clear ol b1)
  have M1 := hid (HH.out.mono B1.out)
  go_loopw [4, 5, 9] (fun _ _ i wr => ∃ j : Nat, j ≤ L.length ∧ i = .int .i64 j ∧ MemP wr g v d p ⟨M.V, mixF (selF L picks j) M.V M.D, M.A⟩ ∧ Turns (fun b => b = d) w1 wr) (fun _ _ i _ => L.length - (intOf i).toNat)
  case atStart =>
    refine ⟨0, by omega, rfl, ?_, Turns.refl _ _⟩
    rw [mixF_congr (g := fun _ => false) (fun k _ => selF_zero _ _ _), mixF_none]
    exact M1.out
  case round =>
    obtain ⟨j, hj, rfl, hm, ht⟩ := hrel
    have HM := hid hm; have HT := hid ht
    obtain ⟨k0, k1, k2⟩ := hm.cells
    by_cases hlt : j < L.length
    · obtain ⟨bl, rfl, hbl, cl0⟩ := own_natAt (ht.own OL.out (fun k q => by subst q; exact dl)) hlt
      have hLm : L.getD j 0 ∈ L := by simp [hlt]
      have hq := HLT.out _ hLm
      have HP := hid (persist_any hm (L.getD j 0) hq)
      have hsel := selF_succ L picks j
      have HSE := hid hsel
      have i1 : (j : Int) < (L.length : Int) := by omega
      have i2 : IntKind.i64.wrap ((j : Int) + 1) = (j : Int) + 1 := IntWalk.i64_in _ (by omega)
      clear hm ht hsel hLm
      generalize hx : L.getD j 0 = x at *
      by_cases hp : j < picks.length
      · have rp : RowI wr ap cp picks := HT.out.row (HR.out.mono B1.out) hs
        obtain ⟨bp, op, rfl, hbp, cp0⟩ := rowI_cells rp (by omega)
        have cpj := cp0 j hp
        have hO := hok (picks.getD j 0) (by simp [hp])
        have hO2 := fun w => odd_any (picks.getD j 0) w hO
        have hPB : pickB picks j = oddP (picks.getD j 0) := by unfold pickB; rw [decide_eq_true hp]; simp
        have HO := hid hO2
        have i3 : (j : Int) < (picks.length : Int) := by omega
        clear rp cp0 hO2
        generalize picks.getD j 0 = y at *
        by_cases ho : oddP y = true
        · rw [ho] at HO hPB
          have HPB := hid hPB
          clear hPB ho
          go_wp2_with (first
            | (go_at_call 40; refine (HO.out _).mono ?_; rintro e w2 ⟨rfl, rfl⟩)
            | (go_at_call 41; refine HP.out.mono ?_; rintro e w2 ⟨⟨z, rfl⟩, m2, t2⟩; have M2 := hid m2; have T2 := hid t2; clear m2 t2))
          go_roundw
          case rel =>
            refine ⟨j + 1, by omega, by go_num, ?_, HT.out.trans T2.out⟩
            have := M2.out
            rw [mixF_setA] at this
            rw [mixF_congr (g := fun i => selF L picks j i || i == x) (fun i _ => by rw [HSE.out, HPB.out, Bool.and_true, show (x == i) = (i == x) from BEq.comm])]
            exact this
          case measure => simp [intOf]; omega
        · rw [show oddP y = false by simpa using ho] at HO hPB
          have HPB := hid hPB
          clear hPB ho
          go_wp2_with (first
            | (go_at_call 40; refine (HO.out _).mono ?_; rintro e w2 ⟨rfl, rfl⟩))
          go_roundw
          case rel =>
            refine ⟨j + 1, by omega, by go_num, ?_, HT.out⟩
            rw [mixF_congr (g := selF L picks j) (fun i _ => by rw [HSE.out, HPB.out]; simp)]
            exact HM.out
          case measure => simp [intOf]; omega
      · have hPB : pickB picks j = false := by unfold pickB; rw [decide_eq_false hp]; rfl
        have HPB := hid hPB
        have i3 : ¬ ((j : Int) < (picks.length : Int)) := by omega
        clear hPB
        go_wp2
        go_roundw
        case rel =>
          refine ⟨j + 1, by omega, by go_num, ?_, HT.out⟩
          rw [mixF_congr (g := selF L picks j) (fun i _ => by rw [HSE.out, HPB.out]; simp)]
          exact HM.out
        case measure => simp [intOf]; omega
    · obtain rfl : j = L.length := by omega
      obtain ⟨m1, m2, m3, m4, m5, m6⟩ := hm
      clear ht
      generalize hX : mixF (selF L picks L.length) M.V M.D = X at *
      have hXl : X.length = M.V.length := m1.1
      have hVl : M.V.length ≤ 1048576 := m1.2.2.2.2
      have rd := row_blkO m5 1 M.V.length (by simp [hXl]) (by omega)
      have M4 := hid m4; have RD := hid rd; have M5 := hid m5; have M3 := hid m3; have M6 := hid m6; have HXL := hid hXl; have MO := hid m1
      clear m1 m3 m4 m5 m6 rd hXl HM
      have hsp : splice (M.V.map byteV) 0 ((X.map byteV).take (min M.V.length M.V.length)) = X.map byteV := by
        rw [Nat.min_self, List.take_of_length_le (by simp [HXL.out])]
        exact splice_all (by simp [HXL.out])
      have HSP := hid hsp
      clear hsp
      go_wp2_with fail
      go_region_law (refine step_copyG rfl (.tmp 32) (.tmp 36) rfl Tryz.underlying26 (by kernel_rfl) rfl rfl (fun _ => rfl) M4.out RD.out (byteV_one X) (by simp) ?_; intro w3 k3 g3)
      all_goals
        have g3' : wr.grownBy w3 (some v) := ⟨g3.os, g3.tape, g3.output, g3.size, g3.block⟩
        have K3 := hid k3; have G3 := hid g3'
        have q2 := (((Turns.of_grown (X := fun b => b = v) g3' rfl)).blk M3.out ag1).cell (i := 2) (by simp)
        have P3 := hid ((Turns.of_grown (X := fun b => b = v) g3' rfl).pend M6.out ap2)
        clear k3 g3 g3'
        obtain ⟨w4, hrun, p4, g4⟩ := P3.out.clear (ty := 0) Tryz.underlying65 M.A.length
        have P4 := hid p4; have G4 := hid g4
        clear p4 g4
        simp only [List.getElem_cons_succ, List.getElem_cons_zero] at q2
        go_wp2
        go_end0
        have t3 : Turns (fun b => b = v) wr w3 := Turns.of_grown G3.out rfl
        have t4 : Turns (fun b => b = p) w3 w4 := Turns.of_grown G4.out rfl
        have k3 := K3.out
        rw [HSP.out] at k3
        obtain ⟨l1, l2, l3, l4, l5⟩ := MO.out
        have hx := HXL.out
        rw [hX]
        refine ⟨⟨_, rfl⟩, ⟨⟨rfl, by show (tabF _ _).length * 8 = X.length; rw [tabF_len, hx]; exact l2, by show X.length % 64 = 0; rw [hx]; exact l3, by show 64 ≤ X.length; rw [hx]; exact l4, by show X.length ≤ 1048576; rw [hx]; exact l5⟩, m2, ?_, t4.blk k3 ap2.symm, t4.blk (t3.blk M5.out av.symm) ap3.symm, P4.out⟩,
          ((((Turns.of_below B1.out).trans (HT.out.mono (fun _ q => .inr (.inl q)))).trans (t3.mono (fun _ q => .inl q))).trans (t4.mono (fun _ q => .inr (.inr q))))⟩
        have := t4.blk (t3.blk M3.out ag1) ap1.symm
        rw [← hx] at this
        exact this

end Go.Proofs.YtcackliabemecaaGreatDoor
