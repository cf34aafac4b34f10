/- A memory's dirty cells, a fence, a crash. -/
import Derived.Test.YtcgekooahahjpaaPmF
namespace Go.Proofs.Ytcgekooahahjpaa
open Go.RowKit
set_option linter.unusedSimpArgs false
set_option linter.unusedVariables false

theorem EIp : ElemT Try.prog 30 3 1 8 := elemT Try.underlying30 (z := .int .i64 0) (by kernel_rfl) rfl (by omega)
theorem MemP.mono {w w' : World} {g v d p : Nat} {M : MemM} (h : MemP w g v d p M) (b : Below w.heap.size w w') : MemP w' g v d p M := h.turns (X := fun _ => False) (Turns.of_below b) id id id id
abbrev natV (L : List Nat) : List Value := L.map fun (k : Nat) => iV (k : Int)
/-- numbers of the call's own -/
abbrev OwnN (w : World) (B : Nat) (a : Option Addr) (c : Nat) (L : List Nat) : Prop := Own w B 3 1 a L.length c (natV L)
def dirtyN (V D : List UInt8) (n : Nat) : List Nat := (List.range n).filter (dirtyB V D)
theorem dirtyN_succ (V D : List UInt8) (n : Nat) : dirtyN V D (n + 1) = dirtyN V D n ++ if dirtyB V D n then [n] else [] := by
  unfold dirtyN; rw [List.range_succ, List.filter_append]; cases h : dirtyB V D n <;> simp [h]
theorem dirtyN_len (V D : List UInt8) (n : Nat) : (dirtyN V D n).length ≤ n := by
  have := List.length_filter_le (dirtyB V D) (List.range n)
  simpa [dirtyN] using this

set_option maxHeartbeats 2000000 in
theorem dirtyAll_any {w : World} {g v d p : Nat} {M : MemM} (h : MemP w g v d p M) :
    Calls Try.prog 21 #[.pointer (some ⟨g, 0, none⟩)] w fun e w' => ∃ a c, e = .returned (.slice a (dirtyL M).length c) ∧ OwnN w' w.heap.size a c (dirtyL M) ∧ Below w.heap.size w w' := by
  have HS := hid (size_any h)
  have HD := hid (fun X (b : Below w.heap.size w X) k (hk : k < M.A.length) => dirty_any (h.mono b) k hk)
  have hA := h.1.2.1
  have hVl := h.1.2.2.2.2
  have e1 : ((M.V.length : Int)).tdiv 8 = (M.A.length : Int) := by rw [Int.tdiv_eq_ediv_of_nonneg (by omega)]; omega
  have e2 : IntKind.i64.wrap (M.A.length : Int) = (M.A.length : Int) := IntWalk.i64_in _ (by omega)
  have hN : M.A.length ≤ 200000 := by omega
  have hL : dirtyL M = dirtyN M.V M.D M.A.length := rfl
  rw [hL]
  clear h hA hVl hL
  generalize M.A.length = N at *
  go_enter Try.func21, Try.ntmps21
  go_wp2_with (go_at_call 14; refine HS.out.mono ?_; rintro e w1 ⟨rfl, rfl⟩)
  go_loopw [3, 8] (fun l i wr => ∃ (k : Nat) (a : Option Addr) (c : Nat) (L : List Nat), k ≤ N ∧ i = .int .i64 k ∧ l = .slice a L.length c ∧ L = dirtyN M.V M.D k ∧ OwnN wr w.heap.size a c L ∧ Below w.heap.size w wr) (fun _ i _ => N - (intOf i).toNat)
  case atStart => exact ⟨0, none, 0, [], by omega, rfl, rfl, rfl, Own.nil _ _ _ _, Below.refl _ _⟩
  case round =>
    obtain ⟨k, a, c, L, hk, rfl, rfl, hL, ho, br⟩ := hrel
    have hLl : L.length ≤ k := by rw [hL]; exact dirtyN_len _ _ _
    have HL := hid hL
    clear hL
    by_cases hlt : k < N
    · have HC := hid (HD.out wr br k hlt)
      have e3 : IntKind.i64.wrap ((k : Int) + 1) = (k : Int) + 1 := IntWalk.i64_in _ (by omega)
      have i1 : (k : Int) < (N : Int) := by omega
      have hsucc := dirtyN_succ M.V M.D k
      have HSU := hid hsucc
      clear hsucc
      have BR := hid br
      have HO := hid ho
      clear br ho
      by_cases hb : dirtyB M.V M.D k = true
      · rw [hb] at HC HSU
        clear hb
        go_wp2_with (first
          | (go_at_call 36; refine HC.out.mono ?_; rintro e w1 ⟨rfl, b1⟩; have B1 := hid (kept_trans BR.out b1); have O1 := hid (HO.out.mono b1); clear b1)
          | (at_builtin; refine wpl_append rfl (.tmp 14) (.tmp 16) rfl EIp w.heap.size rfl rfl (O1.out.alloc _) (row_new1 _ _ _) (by simp [Value.oneCell']) (by omega) (by omega) (by have := B1.out.size; simp; omega) ?_; intro a3 c3 w3 o3 g3 b3; have O3 := hid o3; have B3 := hid ((kept_alloc B1.out _).trans b3); clear o3 g3 b3))
        go_roundw
        case rel => exact ⟨k + 1, a3, c3, L ++ [k], by omega, by go_num, by simp, by rw [HSU.out, ← HL.out]; rfl, by show Own _ _ _ 1 a3 (L ++ [k]).length c3 ((L ++ [k]).map _); rw [List.length_append, List.map_append]; exact O3.out, B3.out⟩
        case measure => simp [intOf]; omega
      · rw [show dirtyB M.V M.D k = false by simpa using hb] at HC HSU
        clear hb
        go_wp2_with (first
          | (go_at_call 36; refine HC.out.mono ?_; rintro e w1 ⟨rfl, b1⟩; have B1 := hid (kept_trans BR.out b1); have O1 := hid (HO.out.mono b1); clear b1))
        go_roundw
        case rel => exact ⟨k + 1, a, c, L, by omega, by go_num, rfl, by rw [HSU.out, ← HL.out]; simp, O1.out, B1.out⟩
        case measure => simp [intOf]; omega
    · obtain rfl : k = N := by omega
      go_wp2
      go_ret
      exact ⟨a, c, by rw [← HL.out]; rfl, by rw [← HL.out]; exact ho, br⟩

/-! ### a fence -/
theorem Turns.ranges {X : Nat → Prop} {w w' : World} {H : Type} {P : Program} {k : TypeId} {R : Value → Option (DataW H × List MemPlace)} {b r n : Nat} {D : DataW H} {left : Lit → Bool} {cnt : Nat} (t : Turns X w w') (h : w.ranges P k R b r n D left cnt) (hb : ¬ X b) (hr : ¬ X r) : w'.ranges P k R b r n D left cnt := by
  have h1 := h.owns.lt
  have h2 := h.lt
  obtain ⟨es, clock, since, seen, c0, hb', F, hs, hD, hr', rest⟩ := h
  exact ⟨es, clock, since, seen, c0, (t.block b h1 hb).trans hb', F, hs, hD, (t.block r h2 hr).trans hr', rest⟩
theorem ranges_has {w : World} {r p n : Nat} {D : DataW Unit} {left : Lit → Bool} {cnt : Nat} (h : w.ranges Try.prog 3 unitElem p r n D left cnt) {kl : Lit} (hl : left kl = true) : Maps.has D kl = true := by
  obtain ⟨es, clock, since, seen, c0, hb, F, hs, rfl, hr, hold, hc, hl1, hl2, _⟩ := h
  obtain ⟨x, hx, rfl⟩ := hl2 kl hl
  obtain ⟨y, hy⟩ := F.reads x hx
  refine List.any_eq_true.2 ⟨WideElems.rg Try.prog 3 unitElem x, mem_sorted.2 (List.mem_map.2 ⟨x, hx, rfl⟩), WideAt.sameKey_self ?_⟩
  rw [WideElems.rg_of hy]; exact keyedI.key (WideElems.rd_key hy)
theorem sameKeyI (i k : Int) : (Lit.int .i64 i).sameKey (.int .i64 k) = decide (i = k) := by simp [Lit.sameKey]
theorem wpl_nextS {w : World} {ops : Array Oper} {rest : List Oper} {o : Oper} {a : Act} {Q : Exit → Act → World → Prop} (hg : o.guard = none) (it : Operand) (hop : o.op = Op.next it false) {p r n : Nat} {D : DataW Unit} {left : Lit → Bool} {cnt : Nat}
    (hit : a.eval it = .pointer (some ⟨r, 0, none⟩)) (h : w.ranges Try.prog 3 unitElem p r n D left cnt)
    (hDone : (∀ kl, left kl = false) → wpList Try.prog ops Q rest (a.put o.dst (.tuple #[.bool false])) w)
    (hMore : ∀ (x : Int) (w' : World) (cnt' : Nat), (Lit.int .i64 x).wf = true → left (.int .i64 x) = true → w'.ranges Try.prog 3 unitElem p r n D (fun z => left z && !z.sameKey (.int .i64 x)) cnt' → cnt' < cnt →
      w.grownBy w' (some r) → (Instr.entry (.pointer (some ⟨r, 0, none⟩))).run Try.prog w' = .ok (.tuple #[.int .i64 x, .agg #[]]) w' → wpList Try.prog ops Q rest (a.put o.dst (.tuple #[.bool true, .int .i64 x, .agg #[]])) w') :
    wpList Try.prog ops Q (o :: rest) a w := by
  refine wpList_next_ranges w hg it hop 3 keyedI unitElem (Value.int .i64) (fun _ : Unit => Value.agg #[]) (fun key kl hk => ?_) (fun v y hv => ⟨(), (unitElem_inv hv).1⟩) p r n D left cnt hit h (fun _ hl => hDone hl) ?_
  · obtain ⟨x, rfl, _⟩ := Maps.keyOf_int_inv Try.underlying3 hk; exact ⟨x, rfl⟩
  · intro x c kl y w' cnt' hk hl hv _ hr hlt hgr _ hen
    obtain ⟨x', e1, rfl, hwf⟩ := Maps.keyOf_int_inv Try.underlying3 hk
    cases e1
    exact hMore x w' cnt' hwf hl hr hlt hgr hen
theorem pendB_true {A : List Bool} {x : Int} (h : pendB A x = true) : ∃ k : Nat, x = k ∧ k < A.length ∧ A.getD k false = true := by
  unfold pendB at h
  simp only [Bool.and_eq_true, decide_eq_true_eq] at h
  refine ⟨x.toNat, by omega, ?_, h.2⟩
  by_cases q : x.toNat < A.length
  · exact q
  · have := h.2
    simp [List.getD_eq_getElem?_getD, List.getElem?_eq_none (Nat.le_of_not_lt q)] at this

set_option maxHeartbeats 2000000 in
theorem fence_any {w : World} {g v d p : Nat} {M : MemM} (h : MemP w g v d p M) :
    Calls Try.prog 16 #[.pointer (some ⟨g, 0, none⟩)] w fun e w' => (∃ x, e = .returned x) ∧ MemP w' g v d p (fenceM M) ∧ Turns (fun b => b = d ∨ b = p) w w' := by
  obtain ⟨av, ag1, ag2, ap1, ap2, ap3, gl, vl, dl, pl⟩ := mem_apart h
  obtain ⟨D, n, hown, hD, hsz⟩ := h.2.2.2.2.2
  obtain ⟨c0, c1, c2⟩ := h.cells
  have H := hid h
  have HDD := hid hD
  clear h hD hsz
  go_enter Try.func16, Try.ntmps16
  go_wp2_with (first | (at_range; refine wpList_range_own _ rfl _ 50 rfl 3 64 keyedI Try.underlying50 unitElem p n D rfl hown ?_; intro w0 hrg0 hg0 hs0))
  go_frame
  have B0 : Below w.heap.size w w0 := (Below.refl _ w).grown hg0 (Nat.le_refl _) (fun k hk => by cases hk)
  go_loopw [2] (fun _ wr => ∃ left cnt, wr.ranges Try.prog 3 unitElem p w.heap.size n D left cnt ∧ (∀ i : Int, left (.int .i64 i) = true → pendB M.A i = true) ∧ MemP wr g v d p ⟨M.V, mixF (fun i => M.A.getD i false && !left (.int .i64 (i : Int))) M.V M.D, M.A⟩ ∧ Turns (fun b => b = d) w wr) (fun _ wr => wr.rangeLeft p w.heap.size)
  case atStart =>
    refine ⟨_, _, hrg0, fun i hi => by rw [← HDD.out]; exact hi, ?_, Turns.of_below B0⟩
    have := H.out.mono B0
    rw [show mixF (fun i => M.A.getD i false && !Maps.has D (.int .i64 (i : Int))) M.V M.D = M.D from ?_]
    · exact this
    · rw [mixF_congr (g := fun _ => false) (fun k _ => by rw [HDD.out, pendB_nat]; simp), mixF_none]
  case round =>
    obtain ⟨left, cnt, hrg, hle, hm, ht⟩ := hrel
    obtain ⟨k0, k1, k2⟩ := hm.cells
    have HM := hid hm; have HT := hid ht; have HLE := hid hle; have HRG := hid hrg
    clear hm ht hle hown hrg0 hg0 hs0 B0
    go_wp2_with (first | (at_next; refine wpl_nextS rfl _ rfl rfl HRG.out ?_ ?_))
    · intro hl0
      have hm1 := HM.out
      rw [mixF_congr (g := fun i => M.A.getD i false) (fun k _ => by rw [hl0]; simp)] at hm1
      have HM1 := hid hm1
      clear hm1 hl0
      obtain ⟨w3, hrun, p3, g3⟩ := HM1.out.2.2.2.2.2.clear (ty := 0) Try.underlying50 M.A.length
      have P3 := hid p3; have G3 := hid g3
      clear p3 g3
      go_wp2
      go_end0
      have t3 : Turns (fun b => b = p) wr w3 := Turns.of_grown G3.out rfl
      obtain ⟨m1, m2, m3, m4, m5, m6⟩ := HM1.out
      exact ⟨⟨_, rfl⟩, ⟨fenceM_ok H.out.1, m2, t3.blk m3 (by intro q; exact ap1 q.symm), t3.blk m4 (by intro q; exact ap2 q.symm), t3.blk m5 (by intro q; exact ap3 q.symm), P3.out⟩, (HT.out.mono (fun _ q => .inl q)).trans (t3.mono (fun _ q => .inr q))⟩
    · intro x w1 cnt1 hwx hlx hrg1 hlt hg1 hen
      obtain ⟨k, rfl, hkl, hkA⟩ := pendB_true (HLE.out x hlx)
      have t1 : Turns (fun b => b = w.heap.size) wr w1 := Turns.of_grown hg1 rfl
      have m1 := HM.out.turns t1 (by omega) (by omega) (by omega) (by omega)
      have HP := hid (persist_any m1 k hkl)
      have HR1 := hid hrg1
      have T1 := hid t1
      have HKA := hid hkA
      have HLT := hid hlt
      clear m1 hrg1 hg1 t1 hwx hlx hkA hlt
      go_wp2_with (first | (go_at_call 37; refine HP.out.mono ?_; rintro e w2 ⟨⟨x, rfl⟩, m2, t2⟩; have M2 := hid m2; have T2 := hid t2; clear m2 t2))
      go_roundw
      case rel =>
        refine ⟨_, cnt1, T2.out.ranges HR1.out ap3 (by omega), fun i hi => ?_, ?_, (HT.out.trans' T1.out (fun b hb q => ?_)).trans T2.out⟩
        · simp only [Bool.and_eq_true] at hi
          exact HLE.out i hi.1
        · have := M2.out
          rw [mixF_setA] at this
          rw [mixF_congr (g := fun i => M.A.getD i false && !left (.int .i64 (i : Int)) || i == k) (fun i _ => ?_)]
          · exact this
          · rw [sameKeyI]
            by_cases e : i = k
            · subst e; rw [HKA.out]; simp
            · have : ¬ ((i : Int) = (k : Int)) := by omega
              simp [this, e]
        · omega
      case measure => rw [(T2.out.ranges HR1.out ap3 (by omega)).left_eq, HRG.out.left_eq]; exact HLT.out
end Go.Proofs.Ytcgekooahahjpaa
