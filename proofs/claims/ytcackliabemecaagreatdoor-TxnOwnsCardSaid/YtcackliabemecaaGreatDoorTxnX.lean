/- Deeds that are handed in; two pairs. -/
import Derived.Test.YtcackliabemecaaGreatDoorTxnV
import Derived.Test.YtcackliabemecaaGreatDoorPlgX
namespace Go.Proofs.YtcackliabemecaaGreatDoor
open Go.RowKit Go.WideShapes Go.ChangeShapes Go.Deep
set_option linter.unusedSimpArgs false
set_option linter.unusedVariables false
set_option maxRecDepth 100000

theorem rowI_ofB {w : World} {a : Option Addr} {len cap : Nat} {zs : List Int}
    (h : (a = none ∧ len = 0 ∧ cap = 0 ∧ zs = []) ∨
      ∃ x, a = some x ∧ len ≤ cap ∧ cap ≤ maxLen ∧ zs.length = cap ∧ (∀ i, i < zs.length → w.cell? (x.add i) = some (.int .i64 (zs.getD i 0))) ∧ ∀ n ∈ zs, (Lit.int .i64 n).wf = true) :
    ∃ xs : List Int, len = xs.length ∧ RowI w a cap xs ∧ intsOk xs := by
  rcases h with ⟨rfl, rfl, rfl, _⟩ | ⟨x, rfl, h1, h2, h3, h4, h5⟩
  · exact ⟨[], rfl, Row.nil _ _, fun x hx => by cases hx⟩
  · refine ⟨zs.take len, by simp; omega, ⟨by simp, by simp; omega, h2, (fun h => by cases h), fun hn => ?_⟩, fun n hn => i64_bd (h5 n (List.mem_of_mem_take hn))⟩
    have hn' : 0 < zs.length := by simp at hn; omega
    have c0 := h4 0 hn'
    have hsp : x.spot = none := by
      unfold World.cell? Addr.add at c0
      cases hs : x.spot with
      | none => rfl
      | some q => simp [hs] at c0; split at c0 <;> simp_all
    have hx : x = ⟨x.block, x.off, none⟩ := by cases x; simp at hsp; simp [hsp]
    refine ⟨x.block, x.off, by rw [← hx], World.block_lt_of_cell? w x (u := .int .i64 (zs.getD 0 0)) (by simpa [Addr.add] using c0), fun j u hu => ?_⟩
    have hj : j < (zs.take len).length := by
      have := (List.getElem?_eq_some_iff.1 hu).1
      simpa using this
    have hj2 : j < zs.length := by simp at hj; omega
    have hc := h4 j hj2
    have ea : x.add j = ⟨x.block, x.off + j, none⟩ := by
      unfold Addr.add
      split
      · subst j; rw [Nat.add_zero, ← hx]
      · rfl
    rw [ea] at hc
    rw [hc]
    have hjl : j < len := by simp at hj; omega
    simp [List.getElem?_take, hjl, hj2, iV] at hu
    rw [← hu]; simp [hj2]
theorem deedC_len (x : DeedT) : (deedC x).length = 5 := rfl
structure DeedsIn (W : World) (a : Option Addr) (c : Nat) (xs : List DeedT) : Prop where
  o : Row W 5 a xs.length c (xs.flatMap deedC)
  i : ∀ x ∈ xs, DeedIn W x
theorem weightsAll_mem {H : Type} {P : Program} {e : TypeId} {n : Nat} : ∀ {l : List (DataW H)} {d : DataW H}, d ∈ l → n ∈ d.weights P e → n ∈ DataW.weightsAll P e l
  | x :: l, d, hd, hn => by
    rw [DataW.weightsAll, List.mem_append]
    rcases List.mem_cons.1 hd with rfl | hd
    · exact .inl hn
    · exact .inr (weightsAll_mem hd hn)
theorem weights_elem {H : Type} {P : Program} {t e : TypeId} (ht : P.underlying t = some (.slice e)) {l r : List (DataW H)} {d : DataW H} (hd : d ∈ l) {n : Nat} (hn : n ∈ d.weights P e) : n ∈ (DataW.slice l r).weights P t := by
  unfold DataW.weights
  rw [ht]
  exact List.mem_cons_of_mem _ (List.mem_append_left _ (weightsAll_mem hd hn))
/-- the deeds, and what is said of their data's room -/
theorem open_deedsW {H : Type} {enc : TypeId × Value → H} {W : World} {base : Nat} {held : Bool} {a : Option Addr} {n c : Nat} {d : DataW H} {p : List MemPlace}
    (h : DataW.Trod enc Tryz.prog W base (fun _ => true) held 22 (.slice a n c) d p) : ∃ xs : List DeedT, n = xs.length ∧ DeedsIn W a c xs ∧ ((∀ k ∈ d.weights Tryz.prog 22, k ≤ reachBytes) → ∀ x ∈ xs, x.dc ≤ reachBytes) := by
  have kC : Tryz.prog.cellsOf 29 = 5 := by kernel_rfl
  have k1 : Tryz.prog.cellsOf 3 = 1 := by kernel_rfl
  have k2 : Tryz.prog.cellsOf 26 = 1 := by kernel_rfl
  have k3 : Tryz.prog.cellsOf 27 = 1 := by kernel_rfl
  obtain ⟨fuel, hf⟩ := h
  rcases open_slice Tryz.underlying22 hf with ⟨hcs, _⟩ | ⟨x, len, cap, m, q, D, Pl, hcs, _, hl, hm, hmm, hdd, hi⟩
  · simp [Value.cells] at hcs
    obtain ⟨rfl, rfl, rfl⟩ := hcs
    exact ⟨[], rfl, ⟨Row.nil _ _, fun x hx => by cases hx⟩, fun _ x hx => by cases hx⟩
  · simp [Value.cells] at hcs
    obtain ⟨rfl, rfl, rfl⟩ := hcs
    have hnm : n ≤ m := by rw [hmm]; split <;> omega
    have hd1 := (Prod.mk.inj hdd).1
    have one : ∀ i, ∃ v : DeedT, i < n → (∀ j u, (deedC v)[j]? = some u → W.cell? ((x.add (i * 5)).add j) = some u) ∧ DeedIn W v ∧ (v.dc = 0 ∨ v.dc ∈ (D i).weights Tryz.prog 29) := by
      intro i
      by_cases hlt : i < n
      · obtain ⟨cs', hc, ht⟩ := hi i (by omega)
        rw [kC] at hc
        obtain ⟨_, hlen, hat⟩ := World.cells?_some hc
        obtain ⟨ys, r, _, hyd, _, hyl, hg⟩ := DataW.trod_struct Tryz.underlying29 ht
        have hyd1 := (Prod.mk.inj hyd).1
        have hyl' : ys.length = 5 := hyl
        match cs', hlen with
        | [u0, u1, u2, u3, u4], _ =>
          have g0 := hg 0 _ rfl
          have g1 := hg 1 _ rfl
          have g2 := hg 2 _ rfl
          have g3 := hg 3 _ rfl
          have g4 := hg 4 _ rfl
          simp [k1, k2, k3] at g0 g1 g2 g3 g4
          rw [List.getElem?_eq_getElem (by omega)] at g0 g1 g2 g3 g4
          obtain ⟨t0, e0, _, w0⟩ := DataW.trod_int Tryz.underlying3 g0
          obtain ⟨t1, e1, _, w1⟩ := DataW.trod_int Tryz.underlying3 g1
          obtain ⟨t2, e2, _, w2⟩ := DataW.trod_int Tryz.underlying3 g2
          simp only [List.cons.injEq, and_true] at e0 e1 e2
          subst e0 e1 e2
          obtain ⟨sa, sc, S, s1, s2, s3⟩ : ∃ sa sc S, u3 = .slice sa (List.length S) sc ∧ RowB W sa sc S ∧ (sc = 0 ∨ sc ∈ (ys[3]'(by omega)).1.weights Tryz.prog 26) := by
            rcases open_ints Tryz.underlying26 Tryz.underlying5 (by kernel_rfl) g3 with ⟨hcs, _⟩ | ⟨y, l, c', zs, hcs, _, hl', hm', hz', hyy, hcell, hwz⟩
            · simp at hcs
              exact ⟨none, 0, [], hcs, Row.nil _ _, .inl rfl⟩
            · simp at hcs
              obtain ⟨S, e1, hr⟩ := rowB_of (w := W) (a := some y) (len := l) (cap := c') (zs := zs) (.inr ⟨_, rfl, hl', hm', by simpa using hz', hcell, hwz⟩)
              refine ⟨some y, c', S, by rw [hcs, e1], hr, .inr ?_⟩
              have hz2 : zs.length = c' := by simpa using hz'
              have hb1 : Tryz.prog.bytesOf 5 = 1 := by kernel_rfl
              rw [hyy]
              unfold DataW.weights
              rw [Tryz.underlying26]
              refine List.mem_cons.2 (.inl ?_)
              simp only [hb1, lits, List.length_map, List.length_take, List.length_drop]
              omega
          obtain ⟨ia, ic, I, i1, i2, i3⟩ : ∃ pa pc P, u4 = .slice pa (List.length P) pc ∧ RowI W pa pc P ∧ intsOk P := by
            rcases open_ints Tryz.underlying27 Tryz.underlying3 (by kernel_rfl) g4 with ⟨hcs, _⟩ | ⟨y, l, c', zs, hcs, _, hl', hm', hz', _, hcell, hwz⟩
            · simp at hcs
              exact ⟨none, 0, [], hcs, Row.nil _ _, fun x hx => by cases hx⟩
            · simp at hcs
              obtain ⟨P, e1, hr, ho⟩ := rowI_ofB (w := W) (a := some y) (len := l) (cap := c') (zs := zs) (.inr ⟨_, rfl, hl', hm', by simpa using hz', hcell, hwz⟩)
              exact ⟨some y, c', P, by rw [hcs, e1], hr, ho⟩
          subst s1 i1
          refine ⟨⟨t0, t1, t2, sa, sc, S, ia, ic, I⟩, fun _ => ⟨fun j u hu => ?_, ⟨s2, i2, i3, i64_bd w1, i64_bd w2⟩, s3.imp id (fun q => ?_)⟩⟩
          · have hj : j < 5 := (List.getElem?_eq_some_iff.1 hu).1
            exact (hat j (by simpa using hj)).trans hu
          · rw [hyd1]
            unfold DataW.weights
            rw [Tryz.underlying29]
            refine DataW.weights_mem_each (j := 3) (t := 26) (d := (ys[3]'(by omega)).1) rfl ?_ _ q
            rw [List.getElem?_map, List.getElem?_eq_getElem (by omega)]
            rfl
      · exact ⟨⟨0, 0, 0, none, 0, [], none, 0, []⟩, fun h => absurd h hlt⟩
    obtain ⟨f, hfn⟩ := Classical.skolem.1 one
    have hlenf : (((List.range n).map f).flatMap deedC).length = n * 5 := by rw [flat_len deedC 5 deedC_len]; simp
    refine ⟨(List.range n).map f, by simp, ⟨⟨by rw [hlenf]; simp, by simpa using hl, hm, (fun h => by cases h), fun hn => ?_⟩, fun y hy => ?_⟩, fun hw y hy => ?_⟩
    · have hn' : 0 < n := by simpa using hn
      have hq := (hfn 0 hn').1 0 _ rfl
      rw [Nat.zero_mul] at hq
      have hq' : W.cell? x = some (.int .i64 (f 0).kind) := by
        have e : x.add 0 = x := by unfold Addr.add; simp
        rw [e, e] at hq; exact hq
      have hsp := spot_noneP hq'
      obtain ⟨b, off, sp⟩ := x
      simp at hsp
      subst hsp
      refine ⟨b, off, rfl, World.block_lt_of_cell? W _ hq', fun j u hu => ?_⟩
      have hjl : j < n * 5 := by
        have := (List.getElem?_eq_some_iff.1 hu).1
        rw [hlenf] at this
        exact this
      have hg := flat_get deedC 5 deedC_len ((List.range n).map f) (j / 5) (j % 5) (by simp; omega) (by omega)
      rw [show j / 5 * 5 + j % 5 = j by omega, hu] at hg
      simp only [List.getElem_map, List.getElem_range] at hg
      have := (hfn (j / 5) (by omega)).1 (j % 5) u hg.symm
      rw [Addr.add_mid, Addr.add_mid] at this
      rw [show off + j = off + j / 5 * 5 + j % 5 by omega]
      exact this
    · obtain ⟨i, hi, rfl⟩ := List.mem_map.1 hy
      exact (hfn i (List.mem_range.1 hi)).2.1
    · obtain ⟨i, hi, rfl⟩ := List.mem_map.1 hy
      rcases (hfn i (List.mem_range.1 hi)).2.2 with q | q
      · rw [q]; exact Nat.zero_le _
      · refine hw _ ?_
        rw [hd1]
        exact weights_elem Tryz.underlying22 (List.mem_map.2 ⟨i, hi, rfl⟩) q
theorem deedsIn_at {W : World} {a : Option Addr} {c : Nat} {xs : List DeedT} (h : DeedsIn W a c xs) {j : Nat} (hj : j < xs.length) :
    ∃ b off, a = some ⟨b, off, none⟩ ∧ b < W.heap.size ∧ W.rangeAt b (off + j * 5) (deedC xs[j]) := by
  obtain ⟨b, off, e, hlt, hc⟩ := row_flat deedC_len h.o (by omega)
  exact ⟨b, off, e, hlt, fun i u hu => hc j hj i u hu⟩
theorem run_lenDP {o : Oper} {x : Operand} (ho : o.op = .call { callee := .builtin .len, args := #[x], argTypes := #[22] }) {ρ : Operand → Value} {a : Option Addr} {n c : Nat} (hx : ρ x = .slice a n c) (w : World) : (execOp ρ o).run Tryz.prog w = .ok (.value (.int .i64 (n : Int))) w := by
  unfold execOp; rw [ho]
  have u3 := Tryz.underlying22
  simp [resolve, invoke, builtin, hx]
  go_simp
theorem ixDP (b off n c j : Nat) (hj : j < n) (w : World) : (Instr.indexAt 22 (.slice (some ⟨b, off, none⟩) n c) (.int .i64 (j : Int))).run Tryz.prog w = .ok (.pointer (some ⟨b, off + j * 5, none⟩)) w := by
  have u3 := Tryz.underlying22
  have u9 := Tryz.underlying29
  have z3 := Tryz.sizeOf29
  have d0 : (j : Int) < (n : Int) := by omega
  have d1 : 0 ≤ (j : Int) := by omega
  go_simp
theorem below_range {B : Nat} {w w' : World} (b : Below B w w') {g off : Nat} {L : List Value} (hg : g < B) (h : w.rangeAt g off L) : w'.rangeAt g off L := fun j u hu => by
  have hb := b.block g hg
  have z := h j u hu
  unfold World.cell? at *
  rw [show (⟨g, off + j, none⟩ : Addr).block = g from rfl] at *
  rw [hb]
  exact z
theorem TK.ord.weak {K : TK} {A A' B B' : Nat} (h : K.ord A B) (hA : A' ≤ A) (hB : B ≤ B') : K.ord A' B' := by
  obtain ⟨o1, o2, o3, o4, o5, o6, o7, o8, o9, o10, o11, o12⟩ := h
  exact ⟨⟨by omega, o1.2⟩, ⟨by omega, o2.2⟩, ⟨by omega, o3.2⟩, ⟨by omega, o4.2⟩, o5, o6, o7, o8, o9, o10, o11, by omega⟩
theorem beginS (w : World) : Calls Tryz.prog 6 #[] w fun e w' => ∃ K : TK, e = .returned (.pointer (some ⟨K.pp, 0, none⟩)) ∧ SideT w' w'.heap.size K none 0 none 0 mem0 [] mem0 [] ∧ K.ord w.heap.size w'.heap.size ∧ Below w.heap.size w w' := by
  refine (beginT_any w).mono ?_
  rintro e w1 ⟨K, rfl, l1, k1, m1, r1, d1, p1, o1, b1⟩
  have o2 := o1
  obtain ⟨q1, q2, q3, q4, q5, q6, q7, q8, q9, q10, q11, q12⟩ := o2
  exact ⟨K, rfl, ⟨⟨l1, k1, Own.nil _ _ _ _, p1, Nat.le_refl _, ⟨by omega, by omega, by omega, by omega, by omega, by omega, by omega⟩⟩, ⟨r1, m1⟩, d1, Own.nil _ _ _ _, (fun k h => by cases h), o1.weak (Nat.zero_le _) (Nat.le_refl _)⟩, o1, b1⟩
def TK.has (K : TK) (k : Nat) : Prop := k = K.g ∨ k = K.v ∨ k = K.d ∨ k = K.p ∨ k = K.lg ∨ k = K.tg ∨ k = K.gr ∨ k = K.vr ∨ k = K.dr ∨ k = K.ar ∨ k = K.lr ∨ k = K.dt ∨ k = K.pp
section
variable {w w' : World} {B : Nat} {K Q : TK} {ta ra : Option Addr} {tc rc : Nat} {M N : MemM} {P R : List PtM}
theorem SideT.past {X : Nat → Prop} (h : SideT w B K ta tc ra rc M P N R) (T : Turns X w w') (hX : ∀ k, X k → ¬ K.has k ∧ obA ta ≠ some k ∧ obA ra ≠ some k) : SideT w' B K ta tc ra rc M P N R := by
  have f : ∀ k, K.has k → ¬ X k := fun k h1 h2 => (hX k h2).1 h1
  exact ⟨⟨logP_turns h.t.l T (f _ (by simp [TK.has])) (f _ (by simp [TK.has])) (f _ (by simp [TK.has])) (f _ (by simp [TK.has])) (f _ (by simp [TK.has])), T.blk h.t.t (f _ (by simp [TK.has])), own_turns_ne h.t.o T (fun k hk => (hX k hk).2.1), T.blk h.t.q (f _ (by simp [TK.has])), Nat.le_trans h.t.b T.size, h.t.n⟩,
    logRP_turns h.r T (f _ (by simp [TK.has])) (f _ (by simp [TK.has])) (f _ (by simp [TK.has])) (f _ (by simp [TK.has])) (f _ (by simp [TK.has])), T.blk h.d (f _ (by simp [TK.has])), own_turns_ne h.o T (fun k hk => (hX k hk).2.2), h.x, h.k⟩
theorem TK.has_le {A : Nat} (h : K.ord A B) : ∀ k, K.has k → A ≤ k ∧ k ≤ K.pp := fun k hk => by
  obtain ⟨o1, o2, o3, o4, o5, o6, o7, o8, o9, o10, o11, o12⟩ := h
  rcases hk with e | e | e | e | e | e | e | e | e | e | e | e | e <;> omega
end
end Go.Proofs.YtcackliabemecaaGreatDoor
