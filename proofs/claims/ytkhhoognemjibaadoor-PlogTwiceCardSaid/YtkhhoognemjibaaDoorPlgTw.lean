/- PlogTwice. (genPlgTw.py) -/
import Derived.Test.YtkhhoognemjibaaDoorPlgTp
namespace Go.Proofs.YtkhhoognemjibaaDoor
open Go.RowKit
set_option linter.unusedSimpArgs false
set_option linter.unusedVariables false
set_option maxRecDepth 100000

theorem Code.wp_weak9 {P : Program} {c : Code} {Q Q' : Exit → Act → World → Prop} {a : Act} {w : World} (h : c.wp P Q a w) (k : ∀ e a w, Q e a w → Q' e a w) : c.wp P Q' a w := fun b kk cs => by
  obtain ⟨e, a', w', hq, har⟩ := h b kk cs
  exact ⟨e, a', w', k _ _ _ hq, har⟩
theorem wp_join9 {P : Program} {c y : Code} {Q : Exit → Act → World → Prop} {a : Act} {w : World} (J : Act → World → Prop) (h1 : c.wp P (Exit.then J Q) a w) (h2 : ∀ a' w', J a' w' → y.wp P Q a' w') : (Code.seq c y).wp P Q a w :=
  wp_seq (Code.wp_weak9 h1 fun e a w hq => by
    cases e with
    | normal => exact h2 _ _ hq
    | _ => exact hq)
theorem below_cell9 {B : Nat} {w w' : World} (b : Below B w w') {x : Addr} {v : Value} (hx : x.block < B) (h : w.cell? x = some v) : w'.cell? x = some v := by
  have hb := b.block x.block hx
  unfold World.cell? at *
  rw [hb]
  exact h
theorem logOk_of9 {M : MemM} (h : M.V.length = 1024) : LogOk 512 512 M := ⟨by omega, by omega, by omega, by omega⟩
theorem below_X {w w1 w2 : World} {v d p B2 : Nat} (b : Below w.heap.size w w1) (t : Turns (XM v d p) w1 w2) (hB : w.heap.size ≤ B2) (hx : ∀ k, XM v d p k → w.heap.size ≤ k) : Below w.heap.size w w2 := b.trans (t.below b.size hx)
theorem below_base {w w1 w2 : World} {B2 : Nat} (b : Below w.heap.size w w1) (c : Below B2 w1 w2) (hB : w.heap.size ≤ B2) : Below w.heap.size w w2 := by
  have t : Turns (fun k => B2 ≤ k) w1 w2 := ⟨c.os, c.tape, c.output, c.size, fun k _ hn => c.block k (by omega)⟩
  exact b.trans (t.below b.size (fun k hk => Nat.le_trans hB hk))
theorem rowLt9 {w : World} {sz n c : Nat} {a : Option Addr} {cs : List Value} (h : Row w sz a n c cs) (hn : 0 < n) {b off : Nat} (e : a = some ⟨b, off, none⟩) : b < w.heap.size := by
  obtain ⟨b', off', e', hlt, _⟩ := h.2.2.2.2 hn
  rw [e] at e'
  cases e'
  exact hlt
theorem rowI_take9 {w : World} {a : Option Addr} {c : Nat} {xs : List Int} (h : RowI w a c xs) (n : Nat) : RowI w a c (xs.take n) := by
  obtain ⟨h1, h2, h3, h4, h5⟩ := h
  have hl : (xs.take n).length ≤ xs.length := by rw [List.length_take]; omega
  refine ⟨by simp, by omega, h3, h4, fun hp => ?_⟩
  obtain ⟨b, off, e, hlt, hc⟩ := h5 (by omega)
  refine ⟨b, off, e, hlt, fun j u hu => hc j u ?_⟩
  rw [List.map_take] at hu
  rw [List.getElem?_take] at hu
  split at hu
  · exact hu
  · cases hu
theorem szI9 (w : World) : (sizeOf 3).run Tryd.prog w = .ok 1 w := by kernel_rfl
theorem elI9 : Tryd.prog.elem 42 = 3 := by kernel_rfl
theorem unI9 : Tryd.prog.underlying 42 = some (.slice (Tryd.prog.elem 42)) := by rw [elI9]; exact Tryd.underlying42
theorem sliceHI9 {w : World} {a : Option Addr} {c : Nat} {xs : List Int} (r : RowI w a c xs) (hi : Nat) (h2 : hi ≤ xs.length) (W : World) : (Instr.sliceAt 42 (.slice a xs.length c) none (some (.int .i64 (hi : Int))) none).run Tryd.prog W = .ok (.slice a hi c) W := by
  have hc := r.2.1
  rw [run_sliceAt_slice W _ _ _ _ _ unI9, run_slice_h W _ _ _ _ unI9 _ _ (by omega) (by omega), elI9, szI9]
  show Result.ok (sliced _ _ _ _ _) W = _
  rw [Int.toNat_natCast]
  unfold sliced
  simp only [Nat.sub_zero, Nat.zero_mul]
  split
  · rfl
  · cases a with
    | none => rfl
    | some p => simp [Addr.add]
theorem run_lenIS {o : Oper} {x : Operand} (ho : o.op = .call { callee := .builtin .len, args := #[x], argTypes := #[42] }) {ρ : Operand → Value} {a : Option Addr} {n c : Nat} (hx : ρ x = .slice a n c) (w : World) : (execOp ρ o).run Tryd.prog w = .ok (.value (.int .i64 (n : Int))) w := by
  unfold execOp; rw [ho]
  have u3 := Tryd.underlying42
  simp [resolve, invoke, builtin, hx]
  go_simp
theorem rowPt_rg9 {w : World} {a : Option Addr} {c : Nat} {L : List PtM} (r : RowPt w a c L) {j : Nat} (hj : j < L.length) {pb poff : Nat} (ha : a = some ⟨pb, poff, none⟩) : w.rangeAt pb (poff + j * 2) (ptC L[j]) := by
  obtain ⟨b, off, e, h⟩ := rowPt_at r (by omega)
  rw [ha] at e
  cases e
  exact h j hj
theorem filt_snoc {C : List PtM} {k : Nat} (h : k < C.length) : (C.take (k + 1)).filter inR = if inR C[k] = true then (C.take k).filter inR ++ [C[k]] else (C.take k).filter inR := by
  rw [List.take_add_one, List.getElem?_eq_getElem h, Option.toList_some, List.filter_append]
  by_cases q : inR C[k] = true
  · rw [if_pos q, List.filter_cons_of_pos q, List.filter_nil]
  · rw [if_neg q, List.filter_cons_of_neg (by simpa using q), List.filter_nil, List.append_nil]
theorem own_mem {C O : List PtM} {k : Nat} (h : O = (C.take k).filter inR) : ∀ p ∈ O, p ∈ C := by
  intro p hp
  rw [h] at hp
  exact List.mem_of_mem_take (List.mem_filter.1 hp).1
theorem own_in {C O : List PtM} {k : Nat} (h : O = (C.take k).filter inR) (hd : ∀ p ∈ C, p.d.length ≤ 40) : ∀ p ∈ O, inR p = true ∧ p.d.length ≤ 40 := by
  intro p hp
  rw [h] at hp
  obtain ⟨h1, h2⟩ := List.mem_filter.1 hp
  exact ⟨h2, hd p (List.mem_of_mem_take h1)⟩
theorem geIP (x y : Operand) (v u : Int) (w : World) {b : Bool} (h : decide (u ≤ v) = b) : (do eqGuard .geq 3 x y (.int .i64 v) (.int .i64 u); binOp .geq 3 (.int .i64 v) (.int .i64 u) : Sem Value).run Tryd.prog w = .ok (.bool b) w := by
  have u3 := Tryd.underlying3
  have a3 := Tryd.isAgg3
  have z3 := Tryd.sizeOf3
  go_simp
theorem leIP (x y : Operand) (v u : Int) (w : World) {b : Bool} (h : decide (v ≤ u) = b) : (do eqGuard .leq 3 x y (.int .i64 v) (.int .i64 u); binOp .leq 3 (.int .i64 v) (.int .i64 u) : Sem Value).run Tryd.prog w = .ok (.bool b) w := by
  have u3 := Tryd.underlying3
  have a3 := Tryd.isAgg3
  have z3 := Tryd.sizeOf3
  go_simp
theorem addWP (x y : Operand) (i j s : Int) (hs : s = IntKind.i64.wrap (i + j)) (w : World) : (do eqGuard .add 3 x y (.int .i64 i) (.int .i64 j); binOp .add 3 (.int .i64 i) (.int .i64 j) : Sem Value).run Tryd.prog w = .ok (.int .i64 s) w := by
  have u3 := Tryd.underlying3
  have a3 := Tryd.isAgg3
  have z3 := Tryd.sizeOf3
  subst hs
  go_simp
theorem eqPnP (x y : Operand) (q : Addr) (w : World) : (do eqGuard .eql 43 x y (.pointer (some q)) (.pointer none); binOp .eql 43 (.pointer (some q)) (.pointer none) : Sem Value).run Tryd.prog w = .ok (.bool false) w := by
  have u3 := Tryd.underlying43
  have a3 := Tryd.isAgg43
  have z3 := Tryd.sizeOf43
  go_simp
theorem lasts512 {w : World} {g v d p : Nat} {M : MemM} (h : MemP w g v d p M) (hl : M.V.length = 1024) :
    Calls Tryd.prog 26 #[.pointer (some ⟨g, 0, none⟩), .int .i64 0, .int .i64 512] w fun e w' => ∃ a c, e = .returned (.tuple #[.slice a 512 c, .int .i64 0]) ∧ RowB w' a c (M.D.take 512) ∧ Below w.heap.size w w' := by
  refine (lasts_any h 0 512 (by omega) (by omega)).mono ?_
  intro e w' z
  unfold LoadP at z
  have hi : inM M 0 512 = true := (inM_iff M 0 512).2 (by omega)
  rw [if_pos hi] at z
  obtain ⟨a, c, rfl, o, b⟩ := z
  have hr := o.row
  rw [show ((0 : Int)).toNat = 0 from rfl, show ((512 : Int)).toNat = 512 from rfl, List.drop_zero] at hr
  exact ⟨a, c, rfl, hr, b⟩
theorem rowI_ofB {w : World} {a : Option Addr} {len cap : Nat} {zs : List Int}
    (h : (a = none ∧ len = 0 ∧ cap = 0 ∧ zs = []) ∨
      ∃ x, a = some x ∧ len ≤ cap ∧ cap ≤ maxLen ∧ zs.length = cap ∧ (∀ i, i < zs.length → w.cell? (x.add i) = some (.int .i64 (zs.getD i 0))) ∧ ∀ n ∈ zs, (Lit.int .i64 n).wf = true) :
    ∃ xs : List Int, len = xs.length ∧ RowI w a cap xs ∧ intsOk xs := by
  rcases h with ⟨rfl, rfl, rfl, _⟩ | ⟨x, rfl, h1, h2, h3, h4, h5⟩
  · exact ⟨[], rfl, Row.nil _ _, fun x hx => by cases hx⟩
  · refine ⟨zs.take len, by simp; omega, ⟨by simp, by simp; omega, h2, (fun h => by cases h), fun hn => ?_⟩, fun n hn => i64_bd (h5 n (List.mem_of_mem_take hn))⟩
    have hn' : 0 < zs.length := by simp at hn; omega
    have c0 := h4 0 hn'
    have hsp : x.spot = none := by
      unfold World.cell? Addr.add at c0
      cases hs : x.spot with
      | none => rfl
      | some q => simp [hs] at c0; split at c0 <;> simp_all
    have hx : x = ⟨x.block, x.off, none⟩ := by cases x; simp at hsp; simp [hsp]
    refine ⟨x.block, x.off, by rw [← hx], World.block_lt_of_cell? w x (u := .int .i64 (zs.getD 0 0)) (by simpa [Addr.add] using c0), fun j u hu => ?_⟩
    have hj : j < (zs.take len).length := by
      have := (List.getElem?_eq_some_iff.1 hu).1
      simpa using this
    have hj2 : j < zs.length := by simp at hj; omega
    have hc := h4 j hj2
    have ea : x.add j = ⟨x.block, x.off + j, none⟩ := by
      unfold Addr.add
      split
      · subst j; rw [Nat.add_zero, ← hx]
      · rfl
    rw [ea] at hc
    rw [hc]
    have hjl : j < len := by simp at hj; omega
    simp [List.getElem?_take, hjl, hj2, iV] at hu
    rw [← hu]; simp [hj2]
theorem same512 {w : World} {a b : Option Addr} {c d : Nat} {xs : List UInt8} (h1 : RowB w a c xs) (h2 : RowB w b d xs) (hl : xs.length = 512) :
    Calls Tryd.prog 12 #[.slice a 512 c, .slice b 512 d] w fun e w' => e = .returned (.bool true) ∧ Below w.heap.size w w' := by
  have := same_true h1 h2 (by omega)
  rw [hl] at this
  exact this
theorem callP_13 (args : Array Value) (w : World) : (callFunc 13 args).run Tryd.prog w = .ok (.enter 13 args) w := by
  have h := Tryd.func13
  go_simp
theorem callP_20 (args : Array Value) (w : World) : (callFunc 20 args).run Tryd.prog w = .ok (.enter 20 args) w := by
  have h := Tryd.func20
  go_simp
theorem callP_21 (args : Array Value) (w : World) : (callFunc 21 args).run Tryd.prog w = .ok (.enter 21 args) w := by
  have h := Tryd.func21
  go_simp
theorem callP_22 (args : Array Value) (w : World) : (callFunc 22 args).run Tryd.prog w = .ok (.enter 22 args) w := by
  have h := Tryd.func22
  go_simp
theorem callP_24 (args : Array Value) (w : World) : (callFunc 24 args).run Tryd.prog w = .ok (.enter 24 args) w := by
  have h := Tryd.func24
  go_simp
theorem callP_25 (args : Array Value) (w : World) : (callFunc 25 args).run Tryd.prog w = .ok (.enter 25 args) w := by
  have h := Tryd.func25
  go_simp

set_option maxHeartbeats 16000000 in
theorem PlogTwice_walk (w : World) (a : Option Addr) (c : Nat) (rs : List (Option Addr × Nat × List PtM)) (hrs : RecsIn w a c rs) (stored : Int) (wst : (Lit.int .i64 stored).wf = true) (ia : Option Addr) (ic : Nat) (I : List Int) (hI : RowI w ia ic I) (hIok : intsOk I) :
    Calls Tryd.prog 7 #[.slice a rs.length c, .int .i64 stored, .slice ia I.length ic] w fun e w' => e = .returned (.bool true) ∧ Below w.heap.size w w' := by
  have HRS := hid hrs; have HIS := hid hI
  clear hrs hI wst
  go_enter Tryd.func7, Tryd.ntmps7
  iterate 3 go_step
  refine wpk_enter (N := 201) (l := [(0, .slice a rs.length c), (1, .int .i64 stored), (2, .slice ia I.length ic)]) ⟨rfl, (by intro x hx; simp only [List.mem_cons, List.not_mem_nil, or_false] at hx; rcases hx with rfl | rfl | rfl <;> rfl), rfl⟩ fun a2 h1 => ?_
  refine wv h1 rfl rfl rfl rfl (.bool false) rfl fun a4 h3 => ?_
  iterate 5 go_step
  refine wpk_call h3 (wanted_none rfl) rfl (by decide) (fr rfl) (fun args => callP_20 args _) rfl #[] (by simp) (R := fun v' w' => ∃ K : PK, v' = .pointer (some ⟨K.pp, 0, none⟩) ∧ PairP w' w.heap.size K mem0 ∧ Below w.heap.size w w') ((beginPair_any w).mono fun e w' q => by obtain ⟨K, q1, q2, q3⟩ := q; exact ⟨_, q1, K, rfl, q2, q3⟩) fun a6 vb0 wb0 rb0 h5 => ?_
  obtain ⟨K1, rfl, hp1, hb1⟩ := rb0; have HP1 := hid hp1; have HB1 := hid hb1; clear hp1 hb1
  refine wmk h5 rfl rfl rfl rfl 24 rfl (fun _ => rfl) fun a8 h7 => ?_
  have h9 := h7.subs (l' := [(7, _), (6, _), (0, _), (1, _), (2, _)]) rfl
  clear h7
  iterate 5 go_step
  refine wpk_call h9 (wanted_none rfl) rfl (by decide) (fr rfl) (fun args => callP_20 args _) rfl #[] (by simp) (R := fun v' w' => ∃ K : PK, v' = .pointer (some ⟨K.pp, 0, none⟩) ∧ PairP w' wb0.heap.size K mem0 ∧ Below wb0.heap.size wb0 w') ((beginPair_any wb0).mono fun e w' q => by obtain ⟨K, q1, q2, q3⟩ := q; exact ⟨_, q1, K, rfl, q2, q3⟩) fun a11 vb1 wb1 rb1 h10 => ?_
  obtain ⟨K2, rfl, hp2, hb2⟩ := rb1; have HB2 := hid (kept_trans HB1.out hb2); have hlt0 := HP1.out.l.lt; have hlp := HP1.out.b.lt; have hf2 := hp2.f; unfold PK.from at hf2; have hf1 := HP1.out.f; unfold PK.from at hf1; have hsz := HB1.out.size; have hx1 : ∀ k, XM K1.v K1.d K1.p k → w.heap.size ≤ k := (by intro k hk; rcases hk with e | e | e <;> omega); have hx2 : ∀ k, XM K2.v K2.d K2.p k → w.heap.size ≤ k := (by intro k hk; rcases hk with e | e | e <;> omega); have HT2 : Hid (TwoP wb1 wb0.heap.size K1 K2 mem0 mem0) := hid ⟨HP1.out.l.mono hb2, hp2.l, HP1.out.b.mono hb2, hp2.b, ⟨by omega, by omega, by omega, by omega, by omega, by omega⟩, ⟨by omega, by omega, by omega, by omega, by omega, by omega⟩⟩
  obtain ⟨B2, hB2e⟩ : ∃ y, y = wb1.heap.size := ⟨_, rfl⟩
  have hltB := HT2.out.lt; rw [← hB2e] at hltB; have hB2 : w.heap.size ≤ B2 := by rw [hB2e]; exact HB2.out.size
  have hB2s : B2 ≤ wb1.heap.size := by omega
  clear hp2 hb2 hf2 hf1 hsz hB2e HP1 HB1
  refine wmk h10 rfl rfl rfl rfl 25 rfl (fun _ => rfl) fun a13 h12 => ?_
  have h14 := h12.subs (l' := [(8, _), (7, _), (6, _), (0, _), (1, _), (2, _)]) rfl
  clear h12
  iterate 6 go_step
  refine wmk h14 rfl rfl rfl rfl 7 rfl (fun _ => rfl) fun a16 h15 => ?_
  refine wv h15 rfl rfl rfl rfl (.bool false) (by unfold execOp; simp only [h15.ev 26 rfl]; exact run_v (eqPnP _ _ _ _)) fun a18 h17 => ?_
  refine wmk h17 rfl rfl rfl rfl 27 rfl (fun _ => rfl) fun a20 h19 => ?_
  refine wpk_val h19 (by rw [wanted_of (g := 2) (want := false) (b := false) rfl (h19.yields (prev := 28) rfl (by simp))]; rfl) rfl (by decide) (fr rfl) (.pointer (some ⟨K2.pp, 0, none⟩)) (by unfold execOp; simp only [h19.ev 8 rfl]; rfl) fun a22 h21 => ?_
  refine wpk_val h21 (by rw [wanted_of (g := 2) (want := false) (b := false) rfl (h21.yields (prev := 28) rfl (by simp))]; rfl) rfl (by decide) (fr rfl) (.bool false) (by unfold execOp; simp only [h21.ev 29 rfl]; exact run_v (eqPnP _ _ _ _)) fun a24 h23 => ?_
  refine wv h23 rfl rfl rfl rfl (.bool false) (run_pick rfl (h23.ev 28 rfl) (by rw [if_neg (by simp)]; exact h23.ev 30 rfl)) fun a26 h25 => ?_
  have h27 := h25.subs (l' := [(31, _), (8, _), (7, _), (6, _), (0, _), (1, _), (2, _)]) rfl
  clear h25
  iterate 3 go_step
  refine wp_cond (t := false) (h27.ev 31 rfl) ?_
  simp only [Bool.false_eq_true, if_false]
  have h28 := h27.subs (l' := [(8, _), (7, _), (6, _), (0, _), (1, _), (2, _)]) rfl
  clear h27
  iterate 5 go_step
  refine wv h28 rfl rfl rfl rfl (.slice none 0 0) rfl fun a30 h29 => ?_
  iterate 3 go_step
  have hltX1 : ∀ k, XM K1.v K1.d K1.p k → k < B2 := by intro k hk; rcases hk with e | e | e <;> omega
  have hltX2 : ∀ k, XM K2.v K2.d K2.p k → k < B2 := by intro k hk; rcases hk with e | e | e <;> omega
  refine wp_join9 (J := fun a' w' => ∃ (M : MemM) (A : List PtM) (aa : Option Addr) (ac : Nat), (M.V.length = 1024 ∧ M.ok ∧ M.D = M.V ∧ (logR M.V 512 512).1.flatten = A ∧ (∀ p ∈ A, inR p = true ∧ p.d.length ≤ 40) ∧ A.length ≤ 24) ∧ Kn 201 [(7, .pointer (some ⟨K1.pp, 0, none⟩)), (8, .pointer (some ⟨K2.pp, 0, none⟩)), (9, .slice aa A.length ac), (1, .int .i64 stored), (2, .slice ia I.length ic)] a' ∧ TwoP w' wb0.heap.size K1 K2 M M ∧ OwnPt w' B2 aa ac A ∧ Below w.heap.size w w' ∧ B2 ≤ w'.heap.size) ?_ ?_
  case refine_1 =>
    iterate 3 go_step
    refine wv h29 rfl rfl rfl rfl (.int .i64 0) rfl fun a32 h31 => ?_
    iterate 4 go_step
    have h33 := h31.subs (l' := [(10, _), (9, _), (7, _), (8, _), (0, _), (1, _), (2, _)]) rfl
    clear h31
    refine wp_loop (I := fun a' w' => ∃ (i : Nat) (M : MemM) (A : List PtM) (aa : Option Addr) (ac : Nat), i ≤ rs.length ∧ i ≤ 4 ∧ (M.V.length = 1024 ∧ M.ok ∧ M.D = M.V ∧ (logR M.V 512 512).1.flatten = A ∧ (∀ p ∈ A, inR p = true ∧ p.d.length ≤ 40) ∧ A.length ≤ 6 * i) ∧ Kn 201 [(10, .int .i64 (i : Int)), (9, .slice aa A.length ac), (7, .pointer (some ⟨K1.pp, 0, none⟩)), (8, .pointer (some ⟨K2.pp, 0, none⟩)), (0, .slice a rs.length c), (1, .int .i64 stored), (2, .slice ia I.length ic)] a' ∧ TwoP w' wb0.heap.size K1 K2 M M ∧ OwnPt w' B2 aa ac A ∧ Below w.heap.size w w' ∧ B2 ≤ w'.heap.size) (μ := fun a' _ => rs.length - (intOf (a'.eval (.tmp 10))).toNat) ⟨0, mem0, [], none, 0, by omega, by omega, ⟨mem0_len, mem0_ok, mem0_D, (by rw [logR0]; rfl), (fun p hp => by cases hp), Nat.zero_le _⟩, h33, HT2.out, Own.nil _ _ _ _, HB2.out, hB2s⟩ ?_
    clear HT2 HB2 h33
    rintro aL aw ⟨i, M, A, aa, ac, hi, hi4, ⟨hlenM, hMok, hMD, hFA, hinA, hAl⟩, hK, htp, hoa, hba, hBa⟩
    have TPa := hid htp; have HAa := hid hoa; have HBa := hid hba; clear htp hoa hba
    by_cases hltL : i < rs.length
    case neg =>
      have hd0 : decide ((i : Int) < (rs.length : Int)) = false := decide_eq_false (by omega)
      iterate 4 go_step
      refine wmk hK rfl rfl rfl rfl 10 rfl (fun _ => rfl) fun a35 h34 => ?_
      refine wmk h34 rfl rfl rfl rfl 0 rfl (fun _ => rfl) fun a37 h36 => ?_
      refine wv h36 rfl rfl rfl rfl (.int .i64 (rs.length : Int)) (run_lenRP rfl (h36.ev 33 rfl) _) fun a39 h38 => ?_
      refine wv h38 rfl rfl rfl rfl (.bool false) (by unfold execOp; simp only [h38.ev 32 rfl, h38.ev 34 rfl]; exact run_v (ltIP _ _ _ _ _ hd0)) fun a41 h40 => ?_
      refine wmk h40 rfl rfl rfl rfl 35 rfl (fun _ => rfl) fun a43 h42 => ?_
      refine wpk_skip h42 (by rw [wanted_of (g := 4) (want := true) (b := false) rfl (h42.yields (prev := 36) rfl (by simp))]; rfl) rfl (by decide) (fr rfl) fun a45 h44 => ?_
      refine wpk_skip h44 (by rw [wanted_of (g := 4) (want := true) (b := false) rfl (h44.yields (prev := 36) rfl (by simp))]; rfl) rfl (by decide) (fr rfl) fun a47 h46 => ?_
      refine wv h46 rfl rfl rfl rfl (.bool false) (run_pick rfl (h46.ev 36 rfl) rfl) fun a49 h48 => ?_
      have h50 := h48.subs (l' := [(39, _), (10, _), (9, _), (7, _), (8, _), (0, _), (1, _), (2, _)]) rfl
      clear h48
      iterate 3 go_step
      refine wp_cond (t := false) (h50.ev 39 rfl) ?_
      simp only [Bool.false_eq_true, if_false]
      have h51 := h50.subs (l' := [(10, _), (9, _), (7, _), (8, _), (0, _), (1, _), (2, _)]) rfl
      clear h50
      iterate 4 go_step
      exact ⟨M, A, aa, ac, ⟨hlenM, hMok, hMD, hFA, hinA, by omega⟩, h51.subs rfl, TPa.out, HAa.out, HBa.out, hBa⟩
    have hd0 : decide ((i : Int) < (rs.length : Int)) = true := decide_eq_true (by omega)
    by_cases hltN : i < 4
    case neg =>
      have hd1 : decide ((i : Int) < 4) = false := decide_eq_false (by omega)
      iterate 4 go_step
      refine wmk hK rfl rfl rfl rfl 10 rfl (fun _ => rfl) fun a53 h52 => ?_
      refine wmk h52 rfl rfl rfl rfl 0 rfl (fun _ => rfl) fun a55 h54 => ?_
      refine wv h54 rfl rfl rfl rfl (.int .i64 (rs.length : Int)) (run_lenRP rfl (h54.ev 33 rfl) _) fun a57 h56 => ?_
      refine wv h56 rfl rfl rfl rfl (.bool true) (by unfold execOp; simp only [h56.ev 32 rfl, h56.ev 34 rfl]; exact run_v (ltIP _ _ _ _ _ hd0)) fun a59 h58 => ?_
      refine wmk h58 rfl rfl rfl rfl 35 rfl (fun _ => rfl) fun a61 h60 => ?_
      refine wpk_val h60 (by rw [wanted_of (g := 4) (want := true) (b := true) rfl (h60.yields (prev := 36) rfl (by simp))]; rfl) rfl (by decide) (fr rfl) (.int .i64 (i : Int)) (by unfold execOp; simp only [h60.ev 10 rfl]; rfl) fun a63 h62 => ?_
      refine wpk_val h62 (by rw [wanted_of (g := 4) (want := true) (b := true) rfl (h62.yields (prev := 36) rfl (by simp))]; rfl) rfl (by decide) (fr rfl) (.bool false) (by unfold execOp; simp only [h62.ev 37 rfl]; exact run_v (ltIP _ _ _ _ _ hd1)) fun a65 h64 => ?_
      refine wv h64 rfl rfl rfl rfl (.bool false) (run_pick rfl (h64.ev 36 rfl) (by rw [if_pos rfl]; exact h64.ev 38 rfl)) fun a67 h66 => ?_
      have h68 := h66.subs (l' := [(39, _), (10, _), (9, _), (7, _), (8, _), (0, _), (1, _), (2, _)]) rfl
      clear h66
      iterate 3 go_step
      refine wp_cond (t := false) (h68.ev 39 rfl) ?_
      simp only [Bool.false_eq_true, if_false]
      have h69 := h68.subs (l' := [(10, _), (9, _), (7, _), (8, _), (0, _), (1, _), (2, _)]) rfl
      clear h68
      iterate 4 go_step
      exact ⟨M, A, aa, ac, ⟨hlenM, hMok, hMD, hFA, hinA, by omega⟩, h69.subs rfl, TPa.out, HAa.out, HBa.out, hBa⟩
    have hd1 : decide ((i : Int) < 4) = true := decide_eq_true (by omega)
    obtain ⟨pb, po, ad, cc, L, ha0, hpb, hcell, hrow, hin, _⟩ := recsIn_at HRS.out hltL
    have hL9 : L.length ≤ 9223372036854775807 := Nat.le_trans hin.2.2 (by unfold maxLen; omega)
    obtain ⟨C, hC⟩ : ∃ C, cutP 6 40 L = C := ⟨_, rfl⟩
    have okC : okPts C := by rw [← hC]; exact cutP_ok hin.1
    have lenC : C.length ≤ 6 := by rw [← hC]; exact cutP_len _ _ _
    have hCd : ∀ p ∈ C, p.d.length ≤ 40 := by rw [← hC]; exact cutP_d
    iterate 4 go_step
    refine wmk hK rfl rfl rfl rfl 10 rfl (fun _ => rfl) fun a71 h70 => ?_
    refine wmk h70 rfl rfl rfl rfl 0 rfl (fun _ => rfl) fun a73 h72 => ?_
    refine wv h72 rfl rfl rfl rfl (.int .i64 (rs.length : Int)) (run_lenRP rfl (h72.ev 33 rfl) _) fun a75 h74 => ?_
    refine wv h74 rfl rfl rfl rfl (.bool true) (by unfold execOp; simp only [h74.ev 32 rfl, h74.ev 34 rfl]; exact run_v (ltIP _ _ _ _ _ hd0)) fun a77 h76 => ?_
    refine wmk h76 rfl rfl rfl rfl 35 rfl (fun _ => rfl) fun a79 h78 => ?_
    refine wpk_val h78 (by rw [wanted_of (g := 4) (want := true) (b := true) rfl (h78.yields (prev := 36) rfl (by simp))]; rfl) rfl (by decide) (fr rfl) (.int .i64 (i : Int)) (by unfold execOp; simp only [h78.ev 10 rfl]; rfl) fun a81 h80 => ?_
    refine wpk_val h80 (by rw [wanted_of (g := 4) (want := true) (b := true) rfl (h80.yields (prev := 36) rfl (by simp))]; rfl) rfl (by decide) (fr rfl) (.bool true) (by unfold execOp; simp only [h80.ev 37 rfl]; exact run_v (ltIP _ _ _ _ _ hd1)) fun a83 h82 => ?_
    refine wv h82 rfl rfl rfl rfl (.bool true) (run_pick rfl (h82.ev 36 rfl) (by rw [if_pos rfl]; exact h82.ev 38 rfl)) fun a85 h84 => ?_
    have h86 := h84.subs (l' := [(39, _), (10, _), (9, _), (7, _), (8, _), (0, _), (1, _), (2, _)]) rfl
    clear h84
    iterate 3 go_step
    refine wp_cond (t := true) (h86.ev 39 rfl) ?_
    simp only [if_true]
    have h87 := h86.subs (l' := [(10, _), (9, _), (7, _), (8, _), (0, _), (1, _), (2, _)]) rfl
    clear h86
    iterate 7 go_step
    refine wv h87 rfl rfl rfl rfl (.slice none 0 0) rfl fun a89 h88 => ?_
    iterate 5 go_step
    refine wmk h88 rfl rfl rfl rfl 0 rfl (fun _ => rfl) fun a91 h90 => ?_
    refine wmk h90 rfl rfl rfl rfl 10 rfl (fun _ => rfl) fun a93 h92 => ?_
    refine wv h92 rfl rfl rfl rfl (.pointer (some ⟨pb, po + i, none⟩)) (by unfold execOp; simp only [h92.ev 42 rfl, h92.ev 43 rfl]; exact run_v (by rw [ha0]; exact ixRP pb po _ c i hltL _)) fun a95 h94 => ?_
    refine wv h94 rfl rfl rfl rfl (.slice ad L.length cc) (by unfold execOp; simp only [h94.ev 44 rfl]; exact run_v (loadRP (below_cell9 HBa.out hpb hcell))) fun a97 h96 => ?_
    refine wpk_call h96 (wanted_none rfl) rfl (by decide) (fr rfl) (fun args => callP_21 args _) rfl #[.slice ad L.length cc] (by simp only [List.map_toArray, List.map_cons, List.map_nil, h96.ev 45 rfl]) (R := fun v' w' => ∃ la lc, v' = .slice la (cutP 6 40 L).length lc ∧ OwnPt w' aw.heap.size la lc (cutP 6 40 L) ∧ Below aw.heap.size aw w') ((little_any (hrow.below HBa.out) hL9).mono fun e w' q => by obtain ⟨x, y, q1, q2⟩ := q; exact ⟨_, q1, x, y, rfl, q2⟩) fun a99 vl wl rl h98 => ?_
    obtain ⟨la, lc, rfl, ol, bl⟩ := rl; rw [hC] at ol h98; have RL := hid (Own.row ol); have TPl := hid (TPa.out.mono bl); have HBl := hid (kept_trans HBa.out bl); have HAl := hid (Own.mono HAa.out bl); have hBl : B2 ≤ wl.heap.size := Nat.le_trans hBa bl.size; clear ol bl
    refine wmk h98 rfl rfl rfl rfl 46 rfl (fun _ => rfl) fun a101 h100 => ?_
    have h102 := h100.subs (l' := [(12, _), (11, _), (10, _), (9, _), (7, _), (8, _), (0, _), (1, _), (2, _)]) rfl
    clear h100
    iterate 6 go_step
    refine wv h102 rfl rfl rfl rfl (.int .i64 0) rfl fun a104 h103 => ?_
    iterate 4 go_step
    have h105 := h103.subs (l' := [(13, _), (11, _), (12, _), (10, _), (9, _), (7, _), (8, _), (0, _), (1, _), (2, _)]) rfl
    clear h103
    refine wp_loop (I := fun a' w' => ∃ (k : Nat) (O : List PtM) (oa : Option Addr) (oc : Nat), k ≤ C.length ∧ O = (C.take k).filter inR ∧ O.length ≤ k ∧ Kn 201 [(13, .int .i64 (k : Int)), (11, .slice oa O.length oc), (12, .slice la C.length lc), (10, .int .i64 (i : Int)), (9, .slice aa A.length ac), (7, .pointer (some ⟨K1.pp, 0, none⟩)), (8, .pointer (some ⟨K2.pp, 0, none⟩)), (0, .slice a rs.length c), (1, .int .i64 stored), (2, .slice ia I.length ic)] a' ∧ OwnPt w' wl.heap.size oa oc O ∧ Below wl.heap.size wl w') (μ := fun a' _ => C.length - (intOf (a'.eval (.tmp 13))).toNat) ⟨0, [], none, 0, by omega, rfl, Nat.le_refl _, h105, Own.nil _ _ _ _, Below.refl _ _⟩ ?_
    clear h105
    rintro aL2 wr ⟨k, O, oa, oc, hk, hOe, hOk, hK2, hor, hbr⟩
    have HOr := hid hor; have HBr := hid hbr; have HOe := hid hOe; clear hor hbr hOe
    by_cases hltk : k < C.length
    case pos =>
      have hdk : decide ((k : Int) < (C.length : Int)) = true := decide_eq_true (by omega)
      obtain ⟨qb, qo, hqa, hrgs⟩ := rowPt_at (Row.mono RL.out HBr.out) (by omega)
      have hq0a := okC C[k] (List.getElem_mem hltk)
      have hq0d := hCd C[k] (List.getElem_mem hltk)
      obtain ⟨q0, hq0⟩ : ∃ y, y = C[k] := ⟨_, rfl⟩
      rw [← hq0] at hq0a hq0d; unfold okI at hq0a; have HQ := hid hq0; have hstep := filt_snoc (C := C) (k := k) hltk; rw [← hq0, ← HOe.out] at hstep; clear hq0 hrgs
      have HOd := hid (Own.mono HOr.out (Below.refl _ _).drew); have HBd := hid HBr.out.drew; have hrq : wr.drew.rangeAt qb (qo + k * 2) (ptC q0) := by rw [HQ.out]; exact rowPt_rg9 (Row.mono RL.out HBr.out.drew) hltk hqa
      by_cases c1 : 0 ≤ q0.at_
      case neg =>
        have hb1 : decide (0 ≤ q0.at_) = false := decide_eq_false c1
        have hin0 : inR q0 = false := by unfold inR; exact decide_eq_false (by omega)
        iterate 4 go_step
        refine wmk hK2 rfl rfl rfl rfl 13 rfl (fun _ => rfl) fun a107 h106 => ?_
        refine wmk h106 rfl rfl rfl rfl 12 rfl (fun _ => rfl) fun a109 h108 => ?_
        refine wv h108 rfl rfl rfl rfl (.int .i64 (C.length : Int)) (run_lenP rfl (h108.ev 48 rfl) _) fun a111 h110 => ?_
        refine wv h110 rfl rfl rfl rfl (.bool true) (by unfold execOp; simp only [h110.ev 47 rfl, h110.ev 49 rfl]; exact run_v (ltIP _ _ _ _ _ hdk)) fun a113 h112 => ?_
        have h114 := h112.subs (l' := [(50, _), (13, _), (11, _), (12, _), (10, _), (9, _), (7, _), (8, _), (0, _), (1, _), (2, _)]) rfl
        clear h112
        iterate 3 go_step
        refine wp_cond (t := true) (h114.ev 50 rfl) ?_
        simp only [if_true]
        have h115 := h114.subs (l' := [(13, _), (11, _), (12, _), (10, _), (9, _), (7, _), (8, _), (0, _), (1, _), (2, _)]) rfl
        clear h114
        iterate 6 go_step
        refine wp_region_held_drew (S := fun w' => w' = wr.drew) (by kernel_rfl) rfl (fun hS116 => ?_)
        have hcl : wr.drew.cell? ⟨qb, qo + k * 2, none⟩ = some (.int .i64 q0.at_) ∧ wr.drew.cell? ⟨qb, qo + k * 2 + 1, none⟩ = some (strB q0.d) := by rw [HQ.out]; exact rowPt_cells (Row.mono RL.out HBr.out.drew) hltk hqa
        refine wpk_take hS116 h115 0 rfl rfl (by decide) (fr rfl) (by kernel_rfl) (by kernel_rfl) (by kernel_rfl) (fun _ _ _ _ h => h) (.slice la C.length lc) (Or.inl ⟨Eq.refl true, fun w1 hSw => (by cases hSw; exact (by show (execOp _ (⟨_, .move (.tmp 12), _, _, _, _⟩ : Oper)).run _ _ = _; exact (by unfold execOp; simp only [h115.ev 12 rfl]; rfl)))⟩) fun a118 h117 => ?_
        refine wpk_take hS116 h117 1 rfl rfl (by decide) (fr rfl) (by kernel_rfl) (by kernel_rfl) (by kernel_rfl) (fun _ _ _ _ h => h) (.int .i64 (k : Int)) (Or.inl ⟨Eq.refl true, fun w1 hSw => (by cases hSw; exact (by show (execOp _ (⟨_, .move (.tmp 13), _, _, _, _⟩ : Oper)).run _ _ = _; exact (by unfold execOp; simp only [h117.ev 13 rfl]; rfl)))⟩) fun a120 h119 => ?_
        refine wpk_take hS116 h119 2 rfl rfl (by decide) (fr rfl) (by kernel_rfl) (by kernel_rfl) (by kernel_rfl) (fun _ _ _ _ h => h) (.pointer (some ⟨qb, qo + k * 2, none⟩)) (Or.inl ⟨Eq.refl true, fun w1 hSw => (by cases hSw; exact (by show (execOp _ (⟨_, .indexAddr 22 (.tmp 53) (.tmp 54), _, _, _, _⟩ : Oper)).run _ _ = _; exact (by unfold execOp; simp only [h119.ev 53 rfl, h119.ev 54 rfl]; exact run_v (by rw [hqa]; exact ixP qb qo _ lc k hltk _))))⟩) fun a122 h121 => ?_
        refine wpk_take hS116 h121 3 rfl rfl (by decide) (fr rfl) (by kernel_rfl) (by kernel_rfl) (by kernel_rfl) (fun _ _ _ _ h => h) (.pointer (some ⟨qb, qo + k * 2, none⟩)) (Or.inl ⟨Eq.refl true, fun w1 hSw => (by cases hSw; exact (by show (execOp _ (⟨_, .fieldAddr 46 (.tmp 55) 0, _, _, _, _⟩ : Oper)).run _ _ = _; exact (by unfold execOp; simp only [h121.ev 55 rfl]; exact run_v (fa46g_0 _ _ _))))⟩) fun a124 h123 => ?_
        refine wpk_take hS116 h123 4 rfl rfl (by decide) (fr rfl) (by kernel_rfl) (by kernel_rfl) (by kernel_rfl) (fun _ _ _ _ h => h) (.int .i64 q0.at_) (Or.inl ⟨Eq.refl true, fun w1 hSw => (by cases hSw; exact (by show (execOp _ (⟨_, .load 3 (.tmp 56), _, _, _, _⟩ : Oper)).run _ _ = _; exact (by unfold execOp; simp only [h123.ev 56 rfl]; exact run_v (loadIP hcl.1))))⟩) fun a126 h125 => ?_
        refine wpk_take hS116 h125 5 rfl rfl (by decide) (fr rfl) (by kernel_rfl) (by kernel_rfl) (by kernel_rfl) (fun _ _ _ _ h => h) (.bool false) (Or.inl ⟨Eq.refl true, fun w1 hSw => (by cases hSw; exact (by show (execOp _ (⟨_, .binOp .geq 3 (.tmp 57) (.const (.int .i64 0)) 3, _, _, _, _⟩ : Oper)).run _ _ = _; exact (by unfold execOp; simp only [h125.ev 57 rfl]; exact run_v (geIP _ _ _ _ _ hb1))))⟩) fun a128 h127 => ?_
        refine wpk_take hS116 h127 6 rfl rfl (by decide) (fr rfl) (by kernel_rfl) (by kernel_rfl) (by kernel_rfl) (fun _ _ _ _ h => h) (.bool false) (Or.inl ⟨Eq.refl true, fun w1 hSw => (by cases hSw; exact (by show (execOp _ (⟨_, .move (.tmp 58), _, _, _, _⟩ : Oper)).run _ _ = _; exact (by unfold execOp; simp only [h127.ev 58 rfl]; rfl)))⟩) fun a130 h129 => ?_
        refine wpk_take hS116 h129 7 rfl rfl (by decide) (fr rfl) (by kernel_rfl) (by kernel_rfl) (by kernel_rfl) (fun _ _ _ _ h => h) undef (Or.inr ⟨(by rw [wanted_of (g := 6) (want := true) (b := false) rfl (h129.yields (prev := 59) rfl (by simp))]; rfl), rfl⟩) fun a132 h131 => ?_
        refine wpk_take hS116 h131 8 rfl rfl (by decide) (fr rfl) (by kernel_rfl) (by kernel_rfl) (by kernel_rfl) (fun _ _ _ _ h => h) undef (Or.inr ⟨(by rw [wanted_of (g := 6) (want := true) (b := false) rfl (h131.yields (prev := 59) rfl (by simp))]; rfl), rfl⟩) fun a134 h133 => ?_
        refine wpk_take hS116 h133 9 rfl rfl (by decide) (fr rfl) (by kernel_rfl) (by kernel_rfl) (by kernel_rfl) (fun _ _ _ _ h => h) undef (Or.inr ⟨(by rw [wanted_of (g := 6) (want := true) (b := false) rfl (h133.yields (prev := 59) rfl (by simp))]; rfl), rfl⟩) fun a136 h135 => ?_
        refine wpk_take hS116 h135 10 rfl rfl (by decide) (fr rfl) (by kernel_rfl) (by kernel_rfl) (by kernel_rfl) (fun _ _ _ _ h => h) undef (Or.inr ⟨(by rw [wanted_of (g := 6) (want := true) (b := false) rfl (h135.yields (prev := 59) rfl (by simp))]; rfl), rfl⟩) fun a138 h137 => ?_
        refine wpk_take hS116 h137 11 rfl rfl (by decide) (fr rfl) (by kernel_rfl) (by kernel_rfl) (by kernel_rfl) (fun _ _ _ _ h => h) undef (Or.inr ⟨(by rw [wanted_of (g := 6) (want := true) (b := false) rfl (h137.yields (prev := 59) rfl (by simp))]; rfl), rfl⟩) fun a140 h139 => ?_
        refine wpk_take hS116 h139 12 rfl rfl (by decide) (fr rfl) (by kernel_rfl) (by kernel_rfl) (by kernel_rfl) (fun _ _ _ _ h => h) undef (Or.inr ⟨(by rw [wanted_of (g := 6) (want := true) (b := false) rfl (h139.yields (prev := 59) rfl (by simp))]; rfl), rfl⟩) fun a142 h141 => ?_
        refine wpk_take hS116 h141 13 rfl rfl (by decide) (fr rfl) (by kernel_rfl) (by kernel_rfl) (by kernel_rfl) (fun _ _ _ _ h => h) undef (Or.inr ⟨(by rw [wanted_of (g := 6) (want := true) (b := false) rfl (h141.yields (prev := 59) rfl (by simp))]; rfl), rfl⟩) fun a144 h143 => ?_
        refine wpk_take hS116 h143 14 rfl rfl (by decide) (fr rfl) (by kernel_rfl) (by kernel_rfl) (by kernel_rfl) (fun _ _ _ _ h => h) undef (Or.inr ⟨(by rw [wanted_of (g := 6) (want := true) (b := false) rfl (h143.yields (prev := 59) rfl (by simp))]; rfl), rfl⟩) fun a146 h145 => ?_
        refine wpk_take hS116 h145 15 rfl rfl (by decide) (fr rfl) (by kernel_rfl) (by kernel_rfl) (by kernel_rfl) (fun _ _ _ _ h => h) undef (Or.inr ⟨(by rw [wanted_of (g := 6) (want := true) (b := false) rfl (h145.yields (prev := 59) rfl (by simp))]; rfl), rfl⟩) fun a148 h147 => ?_
        refine wpk_take hS116 h147 16 rfl rfl (by decide) (fr rfl) (by kernel_rfl) (by kernel_rfl) (by kernel_rfl) (fun _ _ _ _ h => h) undef (Or.inr ⟨(by rw [wanted_of (g := 6) (want := true) (b := false) rfl (h147.yields (prev := 59) rfl (by simp))]; rfl), rfl⟩) fun a150 h149 => ?_
        refine wpk_take hS116 h149 17 rfl rfl (by decide) (fr rfl) (by kernel_rfl) (by kernel_rfl) (by kernel_rfl) (fun _ _ _ _ h => h) undef (Or.inr ⟨(by rw [wanted_of (g := 6) (want := true) (b := false) rfl (h149.yields (prev := 59) rfl (by simp))]; rfl), rfl⟩) fun a152 h151 => ?_
        refine wpk_take hS116 h151 18 rfl rfl (by decide) (fr rfl) (by kernel_rfl) (by kernel_rfl) (by kernel_rfl) (fun _ _ _ _ h => h) undef (Or.inr ⟨(by rw [wanted_of (g := 6) (want := true) (b := false) rfl (h151.yields (prev := 59) rfl (by simp))]; rfl), rfl⟩) fun a154 h153 => ?_
        refine wpk_take hS116 h153 19 rfl rfl (by decide) (fr rfl) (by kernel_rfl) (by kernel_rfl) (by kernel_rfl) (fun _ _ _ _ h => h) undef (Or.inr ⟨(by rw [wanted_of (g := 6) (want := true) (b := false) rfl (h153.yields (prev := 59) rfl (by simp))]; rfl), rfl⟩) fun a156 h155 => ?_
        refine wpk_take hS116 h155 20 rfl rfl (by decide) (fr rfl) (by kernel_rfl) (by kernel_rfl) (by kernel_rfl) (fun _ _ _ _ h => h) (.bool false) (Or.inl ⟨Eq.refl true, fun w1 hSw => (by cases hSw; exact (by show (execOp _ (⟨_, .pick (.tmp 59) (.tmp 72) (.const (.bool false)), _, _, _, _⟩ : Oper)).run _ _ = _; exact (run_pick rfl (h155.ev 59 rfl) rfl)))⟩) fun a158 h157 => ?_
        refine wpk_take hS116 h157 21 rfl rfl (by decide) (fr rfl) (by kernel_rfl) (by kernel_rfl) (by kernel_rfl) (fun _ _ _ _ h => h) (.bool false) (Or.inl ⟨Eq.refl true, fun w1 hSw => (by cases hSw; exact (by show (execOp _ (⟨_, .move (.tmp 73), _, _, _, _⟩ : Oper)).run _ _ = _; exact (by unfold execOp; simp only [h157.ev 73 rfl]; rfl)))⟩) fun a160 h159 => ?_
        refine wpk_take hS116 h159 22 rfl rfl (by decide) (fr rfl) (by kernel_rfl) (by kernel_rfl) (by kernel_rfl) (fun _ _ _ _ h => h) undef (Or.inr ⟨(by rw [wanted_of (g := 21) (want := true) (b := false) rfl (h159.yields (prev := 74) rfl (by simp))]; rfl), rfl⟩) fun a162 h161 => ?_
        refine wpk_take hS116 h161 23 rfl rfl (by decide) (fr rfl) (by kernel_rfl) (by kernel_rfl) (by kernel_rfl) (fun _ _ _ _ h => h) undef (Or.inr ⟨(by rw [wanted_of (g := 21) (want := true) (b := false) rfl (h161.yields (prev := 74) rfl (by simp))]; rfl), rfl⟩) fun a164 h163 => ?_
        refine wpk_take hS116 h163 24 rfl rfl (by decide) (fr rfl) (by kernel_rfl) (by kernel_rfl) (by kernel_rfl) (fun _ _ _ _ h => h) undef (Or.inr ⟨(by rw [wanted_of (g := 21) (want := true) (b := false) rfl (h163.yields (prev := 74) rfl (by simp))]; rfl), rfl⟩) fun a166 h165 => ?_
        refine wpk_take hS116 h165 25 rfl rfl (by decide) (fr rfl) (by kernel_rfl) (by kernel_rfl) (by kernel_rfl) (fun _ _ _ _ h => h) undef (Or.inr ⟨(by rw [wanted_of (g := 21) (want := true) (b := false) rfl (h165.yields (prev := 74) rfl (by simp))]; rfl), rfl⟩) fun a168 h167 => ?_
        refine wpk_take hS116 h167 26 rfl rfl (by decide) (fr rfl) (by kernel_rfl) (by kernel_rfl) (by kernel_rfl) (fun _ _ _ _ h => h) undef (Or.inr ⟨(by rw [wanted_of (g := 21) (want := true) (b := false) rfl (h167.yields (prev := 74) rfl (by simp))]; rfl), rfl⟩) fun a170 h169 => ?_
        refine wpk_take hS116 h169 27 rfl rfl (by decide) (fr rfl) (by kernel_rfl) (by kernel_rfl) (by kernel_rfl) (fun _ _ _ _ h => h) undef (Or.inr ⟨(by rw [wanted_of (g := 21) (want := true) (b := false) rfl (h169.yields (prev := 74) rfl (by simp))]; rfl), rfl⟩) fun a172 h171 => ?_
        refine wpk_take hS116 h171 28 rfl rfl (by decide) (fr rfl) (by kernel_rfl) (by kernel_rfl) (by kernel_rfl) (fun _ _ _ _ h => h) (.bool false) (Or.inl ⟨Eq.refl true, fun w1 hSw => (by cases hSw; exact (by show (execOp _ (⟨_, .pick (.tmp 74) (.tmp 80) (.const (.bool false)), _, _, _, _⟩ : Oper)).run _ _ = _; exact (run_pick rfl (h171.ev 74 rfl) rfl)))⟩) fun a174 h173 => ?_
        refine wpAnyH_done (by kernel_rfl) ?_ _
        have h175 := h173.subs (l' := [(81, _), (13, _), (11, _), (12, _), (10, _), (9, _), (7, _), (8, _), (0, _), (1, _), (2, _)]) rfl
        clear h173
        iterate 2 go_step
        refine wp_cond (t := false) (h175.ev 81 rfl) ?_
        simp only [Bool.false_eq_true, if_false]
        have h176 := h175.subs (l' := [(13, _), (11, _), (12, _), (10, _), (9, _), (7, _), (8, _), (0, _), (1, _), (2, _)]) rfl
        clear h175
        iterate 4 go_step
        refine wmk h176 rfl rfl rfl rfl 13 rfl (fun _ => rfl) fun a178 h177 => ?_
        refine wv h177 rfl rfl rfl rfl (.int .i64 ((k + 1 : Nat) : Int)) (by unfold execOp; simp only [h177.ev 51 rfl]; exact run_v (addIP _ _ k (by omega) _)) fun a180 h179 => ?_
        have h181 := h179.subs (l' := [(52, _), (51, _), (11, _), (12, _), (10, _), (9, _), (7, _), (8, _), (0, _), (1, _), (2, _)]) rfl
        clear h179
        refine wmk h181 rfl rfl rfl rfl 52 rfl (fun _ => rfl) fun a183 h182 => ?_
        have h184 := h182.subs (l' := [(13, _), (11, _), (12, _), (10, _), (9, _), (7, _), (8, _), (0, _), (1, _), (2, _)]) rfl
        clear h182
        iterate 2 go_step
        refine ⟨⟨k + 1, O, oa, oc, by omega, by rw [hstep, if_neg (by rw [hin0]; decide)], by omega, h184.subs rfl, HOd.out, HBd.out⟩, ?_⟩
        rw [h184.ev 13 rfl, hK2.ev 13 rfl]; simp [intOf]; omega
      have hb1 : decide (0 ≤ q0.at_) = true := decide_eq_true c1
      obtain ⟨s, hs⟩ : ∃ s, s = IntKind.i64.wrap (q0.at_ + q0.d.length) := ⟨_, rfl⟩
      have hadd := fun x y W => addWP x y q0.at_ q0.d.length s hs W
      by_cases c3 : q0.at_ ≤ 512
      case neg =>
        have hin0 : inR q0 = false := by unfold inR; exact decide_eq_false (by omega)
        have hb3 : decide (q0.at_ ≤ 512) = false := decide_eq_false c3
        clear hs
        by_cases c2 : s ≤ 512
        case pos =>
          have hb2 : decide (s ≤ 512) = true := decide_eq_true c2
          iterate 4 go_step
          refine wmk hK2 rfl rfl rfl rfl 13 rfl (fun _ => rfl) fun a186 h185 => ?_
          refine wmk h185 rfl rfl rfl rfl 12 rfl (fun _ => rfl) fun a188 h187 => ?_
          refine wv h187 rfl rfl rfl rfl (.int .i64 (C.length : Int)) (run_lenP rfl (h187.ev 48 rfl) _) fun a190 h189 => ?_
          refine wv h189 rfl rfl rfl rfl (.bool true) (by unfold execOp; simp only [h189.ev 47 rfl, h189.ev 49 rfl]; exact run_v (ltIP _ _ _ _ _ hdk)) fun a192 h191 => ?_
          have h193 := h191.subs (l' := [(50, _), (13, _), (11, _), (12, _), (10, _), (9, _), (7, _), (8, _), (0, _), (1, _), (2, _)]) rfl
          clear h191
          iterate 3 go_step
          refine wp_cond (t := true) (h193.ev 50 rfl) ?_
          simp only [if_true]
          have h194 := h193.subs (l' := [(13, _), (11, _), (12, _), (10, _), (9, _), (7, _), (8, _), (0, _), (1, _), (2, _)]) rfl
          clear h193
          iterate 6 go_step
          refine wp_region_held_drew (S := fun w' => w' = wr.drew) (by kernel_rfl) rfl (fun hS195 => ?_)
          have hcl : wr.drew.cell? ⟨qb, qo + k * 2, none⟩ = some (.int .i64 q0.at_) ∧ wr.drew.cell? ⟨qb, qo + k * 2 + 1, none⟩ = some (strB q0.d) := by rw [HQ.out]; exact rowPt_cells (Row.mono RL.out HBr.out.drew) hltk hqa
          refine wpk_take hS195 h194 0 rfl rfl (by decide) (fr rfl) (by kernel_rfl) (by kernel_rfl) (by kernel_rfl) (fun _ _ _ _ h => h) (.slice la C.length lc) (Or.inl ⟨Eq.refl true, fun w1 hSw => (by cases hSw; exact (by show (execOp _ (⟨_, .move (.tmp 12), _, _, _, _⟩ : Oper)).run _ _ = _; exact (by unfold execOp; simp only [h194.ev 12 rfl]; rfl)))⟩) fun a197 h196 => ?_
          refine wpk_take hS195 h196 1 rfl rfl (by decide) (fr rfl) (by kernel_rfl) (by kernel_rfl) (by kernel_rfl) (fun _ _ _ _ h => h) (.int .i64 (k : Int)) (Or.inl ⟨Eq.refl true, fun w1 hSw => (by cases hSw; exact (by show (execOp _ (⟨_, .move (.tmp 13), _, _, _, _⟩ : Oper)).run _ _ = _; exact (by unfold execOp; simp only [h196.ev 13 rfl]; rfl)))⟩) fun a199 h198 => ?_
          refine wpk_take hS195 h198 2 rfl rfl (by decide) (fr rfl) (by kernel_rfl) (by kernel_rfl) (by kernel_rfl) (fun _ _ _ _ h => h) (.pointer (some ⟨qb, qo + k * 2, none⟩)) (Or.inl ⟨Eq.refl true, fun w1 hSw => (by cases hSw; exact (by show (execOp _ (⟨_, .indexAddr 22 (.tmp 53) (.tmp 54), _, _, _, _⟩ : Oper)).run _ _ = _; exact (by unfold execOp; simp only [h198.ev 53 rfl, h198.ev 54 rfl]; exact run_v (by rw [hqa]; exact ixP qb qo _ lc k hltk _))))⟩) fun a201 h200 => ?_
          refine wpk_take hS195 h200 3 rfl rfl (by decide) (fr rfl) (by kernel_rfl) (by kernel_rfl) (by kernel_rfl) (fun _ _ _ _ h => h) (.pointer (some ⟨qb, qo + k * 2, none⟩)) (Or.inl ⟨Eq.refl true, fun w1 hSw => (by cases hSw; exact (by show (execOp _ (⟨_, .fieldAddr 46 (.tmp 55) 0, _, _, _, _⟩ : Oper)).run _ _ = _; exact (by unfold execOp; simp only [h200.ev 55 rfl]; exact run_v (fa46g_0 _ _ _))))⟩) fun a203 h202 => ?_
          refine wpk_take hS195 h202 4 rfl rfl (by decide) (fr rfl) (by kernel_rfl) (by kernel_rfl) (by kernel_rfl) (fun _ _ _ _ h => h) (.int .i64 q0.at_) (Or.inl ⟨Eq.refl true, fun w1 hSw => (by cases hSw; exact (by show (execOp _ (⟨_, .load 3 (.tmp 56), _, _, _, _⟩ : Oper)).run _ _ = _; exact (by unfold execOp; simp only [h202.ev 56 rfl]; exact run_v (loadIP hcl.1))))⟩) fun a205 h204 => ?_
          refine wpk_take hS195 h204 5 rfl rfl (by decide) (fr rfl) (by kernel_rfl) (by kernel_rfl) (by kernel_rfl) (fun _ _ _ _ h => h) (.bool true) (Or.inl ⟨Eq.refl true, fun w1 hSw => (by cases hSw; exact (by show (execOp _ (⟨_, .binOp .geq 3 (.tmp 57) (.const (.int .i64 0)) 3, _, _, _, _⟩ : Oper)).run _ _ = _; exact (by unfold execOp; simp only [h204.ev 57 rfl]; exact run_v (geIP _ _ _ _ _ hb1))))⟩) fun a207 h206 => ?_
          refine wpk_take hS195 h206 6 rfl rfl (by decide) (fr rfl) (by kernel_rfl) (by kernel_rfl) (by kernel_rfl) (fun _ _ _ _ h => h) (.bool true) (Or.inl ⟨Eq.refl true, fun w1 hSw => (by cases hSw; exact (by show (execOp _ (⟨_, .move (.tmp 58), _, _, _, _⟩ : Oper)).run _ _ = _; exact (by unfold execOp; simp only [h206.ev 58 rfl]; rfl)))⟩) fun a209 h208 => ?_
          refine wpk_take hS195 h208 7 rfl rfl (by decide) (fr rfl) (by kernel_rfl) (by kernel_rfl) (by kernel_rfl) (fun _ _ _ _ h => h) (.slice la C.length lc) (Or.inl ⟨(by rw [wanted_of (g := 6) (want := true) (b := true) rfl (h208.yields (prev := 59) rfl (by simp))]; rfl), fun w1 hSw => (by cases hSw; exact (by show (execOp _ (⟨_, .move (.tmp 12), _, _, _, _⟩ : Oper)).run _ _ = _; exact (by unfold execOp; simp only [h208.ev 12 rfl]; rfl)))⟩) fun a211 h210 => ?_
          refine wpk_take hS195 h210 8 rfl rfl (by decide) (fr rfl) (by kernel_rfl) (by kernel_rfl) (by kernel_rfl) (fun _ _ _ _ h => h) (.int .i64 (k : Int)) (Or.inl ⟨(by rw [wanted_of (g := 6) (want := true) (b := true) rfl (h210.yields (prev := 59) rfl (by simp))]; rfl), fun w1 hSw => (by cases hSw; exact (by show (execOp _ (⟨_, .move (.tmp 13), _, _, _, _⟩ : Oper)).run _ _ = _; exact (by unfold execOp; simp only [h210.ev 13 rfl]; rfl)))⟩) fun a213 h212 => ?_
          refine wpk_take hS195 h212 9 rfl rfl (by decide) (fr rfl) (by kernel_rfl) (by kernel_rfl) (by kernel_rfl) (fun _ _ _ _ h => h) (.pointer (some ⟨qb, qo + k * 2, none⟩)) (Or.inl ⟨(by rw [wanted_of (g := 6) (want := true) (b := true) rfl (h212.yields (prev := 59) rfl (by simp))]; rfl), fun w1 hSw => (by cases hSw; exact (by show (execOp _ (⟨_, .indexAddr 22 (.tmp 60) (.tmp 61), _, _, _, _⟩ : Oper)).run _ _ = _; exact (by unfold execOp; simp only [h212.ev 60 rfl, h212.ev 61 rfl]; exact run_v (by rw [hqa]; exact ixP qb qo _ lc k hltk _))))⟩) fun a215 h214 => ?_
          refine wpk_take hS195 h214 10 rfl rfl (by decide) (fr rfl) (by kernel_rfl) (by kernel_rfl) (by kernel_rfl) (fun _ _ _ _ h => h) (.pointer (some ⟨qb, qo + k * 2, none⟩)) (Or.inl ⟨(by rw [wanted_of (g := 6) (want := true) (b := true) rfl (h214.yields (prev := 59) rfl (by simp))]; rfl), fun w1 hSw => (by cases hSw; exact (by show (execOp _ (⟨_, .fieldAddr 46 (.tmp 62) 0, _, _, _, _⟩ : Oper)).run _ _ = _; exact (by unfold execOp; simp only [h214.ev 62 rfl]; exact run_v (fa46g_0 _ _ _))))⟩) fun a217 h216 => ?_
          refine wpk_take hS195 h216 11 rfl rfl (by decide) (fr rfl) (by kernel_rfl) (by kernel_rfl) (by kernel_rfl) (fun _ _ _ _ h => h) (.int .i64 q0.at_) (Or.inl ⟨(by rw [wanted_of (g := 6) (want := true) (b := true) rfl (h216.yields (prev := 59) rfl (by simp))]; rfl), fun w1 hSw => (by cases hSw; exact (by show (execOp _ (⟨_, .load 3 (.tmp 63), _, _, _, _⟩ : Oper)).run _ _ = _; exact (by unfold execOp; simp only [h216.ev 63 rfl]; exact run_v (loadIP hcl.1))))⟩) fun a219 h218 => ?_
          refine wpk_take hS195 h218 12 rfl rfl (by decide) (fr rfl) (by kernel_rfl) (by kernel_rfl) (by kernel_rfl) (fun _ _ _ _ h => h) (.slice la C.length lc) (Or.inl ⟨(by rw [wanted_of (g := 6) (want := true) (b := true) rfl (h218.yields (prev := 59) rfl (by simp))]; rfl), fun w1 hSw => (by cases hSw; exact (by show (execOp _ (⟨_, .move (.tmp 12), _, _, _, _⟩ : Oper)).run _ _ = _; exact (by unfold execOp; simp only [h218.ev 12 rfl]; rfl)))⟩) fun a221 h220 => ?_
          refine wpk_take hS195 h220 13 rfl rfl (by decide) (fr rfl) (by kernel_rfl) (by kernel_rfl) (by kernel_rfl) (fun _ _ _ _ h => h) (.int .i64 (k : Int)) (Or.inl ⟨(by rw [wanted_of (g := 6) (want := true) (b := true) rfl (h220.yields (prev := 59) rfl (by simp))]; rfl), fun w1 hSw => (by cases hSw; exact (by show (execOp _ (⟨_, .move (.tmp 13), _, _, _, _⟩ : Oper)).run _ _ = _; exact (by unfold execOp; simp only [h220.ev 13 rfl]; rfl)))⟩) fun a223 h222 => ?_
          refine wpk_take hS195 h222 14 rfl rfl (by decide) (fr rfl) (by kernel_rfl) (by kernel_rfl) (by kernel_rfl) (fun _ _ _ _ h => h) (.pointer (some ⟨qb, qo + k * 2, none⟩)) (Or.inl ⟨(by rw [wanted_of (g := 6) (want := true) (b := true) rfl (h222.yields (prev := 59) rfl (by simp))]; rfl), fun w1 hSw => (by cases hSw; exact (by show (execOp _ (⟨_, .indexAddr 22 (.tmp 65) (.tmp 66), _, _, _, _⟩ : Oper)).run _ _ = _; exact (by unfold execOp; simp only [h222.ev 65 rfl, h222.ev 66 rfl]; exact run_v (by rw [hqa]; exact ixP qb qo _ lc k hltk _))))⟩) fun a225 h224 => ?_
          refine wpk_take hS195 h224 15 rfl rfl (by decide) (fr rfl) (by kernel_rfl) (by kernel_rfl) (by kernel_rfl) (fun _ _ _ _ h => h) (.pointer (some ⟨qb, qo + k * 2 + 1, none⟩)) (Or.inl ⟨(by rw [wanted_of (g := 6) (want := true) (b := true) rfl (h224.yields (prev := 59) rfl (by simp))]; rfl), fun w1 hSw => (by cases hSw; exact (by show (execOp _ (⟨_, .fieldAddr 46 (.tmp 67) 1, _, _, _, _⟩ : Oper)).run _ _ = _; exact (by unfold execOp; simp only [h224.ev 67 rfl]; exact run_v (fa46g_1 _ _ _))))⟩) fun a227 h226 => ?_
          refine wpk_take hS195 h226 16 rfl rfl (by decide) (fr rfl) (by kernel_rfl) (by kernel_rfl) (by kernel_rfl) (fun _ _ _ _ h => h) (strB q0.d) (Or.inl ⟨(by rw [wanted_of (g := 6) (want := true) (b := true) rfl (h226.yields (prev := 59) rfl (by simp))]; rfl), fun w1 hSw => (by cases hSw; exact (by show (execOp _ (⟨_, .load 9 (.tmp 68), _, _, _, _⟩ : Oper)).run _ _ = _; exact (by unfold execOp; simp only [h226.ev 68 rfl]; exact run_v (loadSP hcl.2))))⟩) fun a229 h228 => ?_
          refine wpk_take hS195 h228 17 rfl rfl (by decide) (fr rfl) (by kernel_rfl) (by kernel_rfl) (by kernel_rfl) (fun _ _ _ _ h => h) (.int .i64 (q0.d.length : Int)) (Or.inl ⟨(by rw [wanted_of (g := 6) (want := true) (b := true) rfl (h228.yields (prev := 59) rfl (by simp))]; rfl), fun w1 hSw => (by cases hSw; exact (by show (execOp _ (⟨_, .call { callee := .builtin .len, args := #[(.tmp 69)], argTypes := #[9] }, _, _, _, _⟩ : Oper)).run _ _ = _; exact (run_lenSP rfl (h228.ev 69 rfl) _)))⟩) fun a231 h230 => ?_
          refine wpk_take hS195 h230 18 rfl rfl (by decide) (fr rfl) (by kernel_rfl) (by kernel_rfl) (by kernel_rfl) (fun _ _ _ _ h => h) (.int .i64 s) (Or.inl ⟨(by rw [wanted_of (g := 6) (want := true) (b := true) rfl (h230.yields (prev := 59) rfl (by simp))]; rfl), fun w1 hSw => (by cases hSw; exact (by show (execOp _ (⟨_, .binOp .add 3 (.tmp 64) (.tmp 70) 3, _, _, _, _⟩ : Oper)).run _ _ = _; exact (by unfold execOp; simp only [h230.ev 64 rfl, h230.ev 70 rfl]; exact run_v (hadd _ _ _))))⟩) fun a233 h232 => ?_
          refine wpk_take hS195 h232 19 rfl rfl (by decide) (fr rfl) (by kernel_rfl) (by kernel_rfl) (by kernel_rfl) (fun _ _ _ _ h => h) (.bool true) (Or.inl ⟨(by rw [wanted_of (g := 6) (want := true) (b := true) rfl (h232.yields (prev := 59) rfl (by simp))]; rfl), fun w1 hSw => (by cases hSw; exact (by show (execOp _ (⟨_, .binOp .leq 3 (.tmp 71) (.const (.int .i64 512)) 3, _, _, _, _⟩ : Oper)).run _ _ = _; exact (by unfold execOp; simp only [h232.ev 71 rfl]; exact run_v (leIP _ _ _ _ _ hb2))))⟩) fun a235 h234 => ?_
          refine wpk_take hS195 h234 20 rfl rfl (by decide) (fr rfl) (by kernel_rfl) (by kernel_rfl) (by kernel_rfl) (fun _ _ _ _ h => h) (.bool true) (Or.inl ⟨Eq.refl true, fun w1 hSw => (by cases hSw; exact (by show (execOp _ (⟨_, .pick (.tmp 59) (.tmp 72) (.const (.bool false)), _, _, _, _⟩ : Oper)).run _ _ = _; exact (run_pick rfl (h234.ev 59 rfl) (by rw [if_pos rfl]; exact h234.ev 72 rfl))))⟩) fun a237 h236 => ?_
          refine wpk_take hS195 h236 21 rfl rfl (by decide) (fr rfl) (by kernel_rfl) (by kernel_rfl) (by kernel_rfl) (fun _ _ _ _ h => h) (.bool true) (Or.inl ⟨Eq.refl true, fun w1 hSw => (by cases hSw; exact (by show (execOp _ (⟨_, .move (.tmp 73), _, _, _, _⟩ : Oper)).run _ _ = _; exact (by unfold execOp; simp only [h236.ev 73 rfl]; rfl)))⟩) fun a239 h238 => ?_
          refine wpk_take hS195 h238 22 rfl rfl (by decide) (fr rfl) (by kernel_rfl) (by kernel_rfl) (by kernel_rfl) (fun _ _ _ _ h => h) (.slice la C.length lc) (Or.inl ⟨(by rw [wanted_of (g := 21) (want := true) (b := true) rfl (h238.yields (prev := 74) rfl (by simp))]; rfl), fun w1 hSw => (by cases hSw; exact (by show (execOp _ (⟨_, .move (.tmp 12), _, _, _, _⟩ : Oper)).run _ _ = _; exact (by unfold execOp; simp only [h238.ev 12 rfl]; rfl)))⟩) fun a241 h240 => ?_
          refine wpk_take hS195 h240 23 rfl rfl (by decide) (fr rfl) (by kernel_rfl) (by kernel_rfl) (by kernel_rfl) (fun _ _ _ _ h => h) (.int .i64 (k : Int)) (Or.inl ⟨(by rw [wanted_of (g := 21) (want := true) (b := true) rfl (h240.yields (prev := 74) rfl (by simp))]; rfl), fun w1 hSw => (by cases hSw; exact (by show (execOp _ (⟨_, .move (.tmp 13), _, _, _, _⟩ : Oper)).run _ _ = _; exact (by unfold execOp; simp only [h240.ev 13 rfl]; rfl)))⟩) fun a243 h242 => ?_
          refine wpk_take hS195 h242 24 rfl rfl (by decide) (fr rfl) (by kernel_rfl) (by kernel_rfl) (by kernel_rfl) (fun _ _ _ _ h => h) (.pointer (some ⟨qb, qo + k * 2, none⟩)) (Or.inl ⟨(by rw [wanted_of (g := 21) (want := true) (b := true) rfl (h242.yields (prev := 74) rfl (by simp))]; rfl), fun w1 hSw => (by cases hSw; exact (by show (execOp _ (⟨_, .indexAddr 22 (.tmp 75) (.tmp 76), _, _, _, _⟩ : Oper)).run _ _ = _; exact (by unfold execOp; simp only [h242.ev 75 rfl, h242.ev 76 rfl]; exact run_v (by rw [hqa]; exact ixP qb qo _ lc k hltk _))))⟩) fun a245 h244 => ?_
          refine wpk_take hS195 h244 25 rfl rfl (by decide) (fr rfl) (by kernel_rfl) (by kernel_rfl) (by kernel_rfl) (fun _ _ _ _ h => h) (.pointer (some ⟨qb, qo + k * 2, none⟩)) (Or.inl ⟨(by rw [wanted_of (g := 21) (want := true) (b := true) rfl (h244.yields (prev := 74) rfl (by simp))]; rfl), fun w1 hSw => (by cases hSw; exact (by show (execOp _ (⟨_, .fieldAddr 46 (.tmp 77) 0, _, _, _, _⟩ : Oper)).run _ _ = _; exact (by unfold execOp; simp only [h244.ev 77 rfl]; exact run_v (fa46g_0 _ _ _))))⟩) fun a247 h246 => ?_
          refine wpk_take hS195 h246 26 rfl rfl (by decide) (fr rfl) (by kernel_rfl) (by kernel_rfl) (by kernel_rfl) (fun _ _ _ _ h => h) (.int .i64 q0.at_) (Or.inl ⟨(by rw [wanted_of (g := 21) (want := true) (b := true) rfl (h246.yields (prev := 74) rfl (by simp))]; rfl), fun w1 hSw => (by cases hSw; exact (by show (execOp _ (⟨_, .load 3 (.tmp 78), _, _, _, _⟩ : Oper)).run _ _ = _; exact (by unfold execOp; simp only [h246.ev 78 rfl]; exact run_v (loadIP hcl.1))))⟩) fun a249 h248 => ?_
          refine wpk_take hS195 h248 27 rfl rfl (by decide) (fr rfl) (by kernel_rfl) (by kernel_rfl) (by kernel_rfl) (fun _ _ _ _ h => h) (.bool false) (Or.inl ⟨(by rw [wanted_of (g := 21) (want := true) (b := true) rfl (h248.yields (prev := 74) rfl (by simp))]; rfl), fun w1 hSw => (by cases hSw; exact (by show (execOp _ (⟨_, .binOp .leq 3 (.tmp 79) (.const (.int .i64 512)) 3, _, _, _, _⟩ : Oper)).run _ _ = _; exact (by unfold execOp; simp only [h248.ev 79 rfl]; exact run_v (leIP _ _ _ _ _ hb3))))⟩) fun a251 h250 => ?_
          refine wpk_take hS195 h250 28 rfl rfl (by decide) (fr rfl) (by kernel_rfl) (by kernel_rfl) (by kernel_rfl) (fun _ _ _ _ h => h) (.bool false) (Or.inl ⟨Eq.refl true, fun w1 hSw => (by cases hSw; exact (by show (execOp _ (⟨_, .pick (.tmp 74) (.tmp 80) (.const (.bool false)), _, _, _, _⟩ : Oper)).run _ _ = _; exact (run_pick rfl (h250.ev 74 rfl) (by rw [if_pos rfl]; exact h250.ev 80 rfl))))⟩) fun a253 h252 => ?_
          refine wpAnyH_done (by kernel_rfl) ?_ _
          have h254 := h252.subs (l' := [(81, _), (13, _), (11, _), (12, _), (10, _), (9, _), (7, _), (8, _), (0, _), (1, _), (2, _)]) rfl
          clear h252
          iterate 2 go_step
          refine wp_cond (t := false) (h254.ev 81 rfl) ?_
          simp only [Bool.false_eq_true, if_false]
          have h255 := h254.subs (l' := [(13, _), (11, _), (12, _), (10, _), (9, _), (7, _), (8, _), (0, _), (1, _), (2, _)]) rfl
          clear h254
          iterate 4 go_step
          refine wmk h255 rfl rfl rfl rfl 13 rfl (fun _ => rfl) fun a257 h256 => ?_
          refine wv h256 rfl rfl rfl rfl (.int .i64 ((k + 1 : Nat) : Int)) (by unfold execOp; simp only [h256.ev 51 rfl]; exact run_v (addIP _ _ k (by omega) _)) fun a259 h258 => ?_
          have h260 := h258.subs (l' := [(52, _), (51, _), (11, _), (12, _), (10, _), (9, _), (7, _), (8, _), (0, _), (1, _), (2, _)]) rfl
          clear h258
          refine wmk h260 rfl rfl rfl rfl 52 rfl (fun _ => rfl) fun a262 h261 => ?_
          have h263 := h261.subs (l' := [(13, _), (11, _), (12, _), (10, _), (9, _), (7, _), (8, _), (0, _), (1, _), (2, _)]) rfl
          clear h261
          iterate 2 go_step
          refine ⟨⟨k + 1, O, oa, oc, by omega, by rw [hstep, if_neg (by rw [hin0]; decide)], by omega, h263.subs rfl, HOd.out, HBd.out⟩, ?_⟩
          rw [h263.ev 13 rfl, hK2.ev 13 rfl]; simp [intOf]; omega
        have hb2 : decide (s ≤ 512) = false := decide_eq_false c2
        iterate 4 go_step
        refine wmk hK2 rfl rfl rfl rfl 13 rfl (fun _ => rfl) fun a265 h264 => ?_
        refine wmk h264 rfl rfl rfl rfl 12 rfl (fun _ => rfl) fun a267 h266 => ?_
        refine wv h266 rfl rfl rfl rfl (.int .i64 (C.length : Int)) (run_lenP rfl (h266.ev 48 rfl) _) fun a269 h268 => ?_
        refine wv h268 rfl rfl rfl rfl (.bool true) (by unfold execOp; simp only [h268.ev 47 rfl, h268.ev 49 rfl]; exact run_v (ltIP _ _ _ _ _ hdk)) fun a271 h270 => ?_
        have h272 := h270.subs (l' := [(50, _), (13, _), (11, _), (12, _), (10, _), (9, _), (7, _), (8, _), (0, _), (1, _), (2, _)]) rfl
        clear h270
        iterate 3 go_step
        refine wp_cond (t := true) (h272.ev 50 rfl) ?_
        simp only [if_true]
        have h273 := h272.subs (l' := [(13, _), (11, _), (12, _), (10, _), (9, _), (7, _), (8, _), (0, _), (1, _), (2, _)]) rfl
        clear h272
        iterate 6 go_step
        refine wp_region_held_drew (S := fun w' => w' = wr.drew) (by kernel_rfl) rfl (fun hS274 => ?_)
        have hcl : wr.drew.cell? ⟨qb, qo + k * 2, none⟩ = some (.int .i64 q0.at_) ∧ wr.drew.cell? ⟨qb, qo + k * 2 + 1, none⟩ = some (strB q0.d) := by rw [HQ.out]; exact rowPt_cells (Row.mono RL.out HBr.out.drew) hltk hqa
        refine wpk_take hS274 h273 0 rfl rfl (by decide) (fr rfl) (by kernel_rfl) (by kernel_rfl) (by kernel_rfl) (fun _ _ _ _ h => h) (.slice la C.length lc) (Or.inl ⟨Eq.refl true, fun w1 hSw => (by cases hSw; exact (by show (execOp _ (⟨_, .move (.tmp 12), _, _, _, _⟩ : Oper)).run _ _ = _; exact (by unfold execOp; simp only [h273.ev 12 rfl]; rfl)))⟩) fun a276 h275 => ?_
        refine wpk_take hS274 h275 1 rfl rfl (by decide) (fr rfl) (by kernel_rfl) (by kernel_rfl) (by kernel_rfl) (fun _ _ _ _ h => h) (.int .i64 (k : Int)) (Or.inl ⟨Eq.refl true, fun w1 hSw => (by cases hSw; exact (by show (execOp _ (⟨_, .move (.tmp 13), _, _, _, _⟩ : Oper)).run _ _ = _; exact (by unfold execOp; simp only [h275.ev 13 rfl]; rfl)))⟩) fun a278 h277 => ?_
        refine wpk_take hS274 h277 2 rfl rfl (by decide) (fr rfl) (by kernel_rfl) (by kernel_rfl) (by kernel_rfl) (fun _ _ _ _ h => h) (.pointer (some ⟨qb, qo + k * 2, none⟩)) (Or.inl ⟨Eq.refl true, fun w1 hSw => (by cases hSw; exact (by show (execOp _ (⟨_, .indexAddr 22 (.tmp 53) (.tmp 54), _, _, _, _⟩ : Oper)).run _ _ = _; exact (by unfold execOp; simp only [h277.ev 53 rfl, h277.ev 54 rfl]; exact run_v (by rw [hqa]; exact ixP qb qo _ lc k hltk _))))⟩) fun a280 h279 => ?_
        refine wpk_take hS274 h279 3 rfl rfl (by decide) (fr rfl) (by kernel_rfl) (by kernel_rfl) (by kernel_rfl) (fun _ _ _ _ h => h) (.pointer (some ⟨qb, qo + k * 2, none⟩)) (Or.inl ⟨Eq.refl true, fun w1 hSw => (by cases hSw; exact (by show (execOp _ (⟨_, .fieldAddr 46 (.tmp 55) 0, _, _, _, _⟩ : Oper)).run _ _ = _; exact (by unfold execOp; simp only [h279.ev 55 rfl]; exact run_v (fa46g_0 _ _ _))))⟩) fun a282 h281 => ?_
        refine wpk_take hS274 h281 4 rfl rfl (by decide) (fr rfl) (by kernel_rfl) (by kernel_rfl) (by kernel_rfl) (fun _ _ _ _ h => h) (.int .i64 q0.at_) (Or.inl ⟨Eq.refl true, fun w1 hSw => (by cases hSw; exact (by show (execOp _ (⟨_, .load 3 (.tmp 56), _, _, _, _⟩ : Oper)).run _ _ = _; exact (by unfold execOp; simp only [h281.ev 56 rfl]; exact run_v (loadIP hcl.1))))⟩) fun a284 h283 => ?_
        refine wpk_take hS274 h283 5 rfl rfl (by decide) (fr rfl) (by kernel_rfl) (by kernel_rfl) (by kernel_rfl) (fun _ _ _ _ h => h) (.bool true) (Or.inl ⟨Eq.refl true, fun w1 hSw => (by cases hSw; exact (by show (execOp _ (⟨_, .binOp .geq 3 (.tmp 57) (.const (.int .i64 0)) 3, _, _, _, _⟩ : Oper)).run _ _ = _; exact (by unfold execOp; simp only [h283.ev 57 rfl]; exact run_v (geIP _ _ _ _ _ hb1))))⟩) fun a286 h285 => ?_
        refine wpk_take hS274 h285 6 rfl rfl (by decide) (fr rfl) (by kernel_rfl) (by kernel_rfl) (by kernel_rfl) (fun _ _ _ _ h => h) (.bool true) (Or.inl ⟨Eq.refl true, fun w1 hSw => (by cases hSw; exact (by show (execOp _ (⟨_, .move (.tmp 58), _, _, _, _⟩ : Oper)).run _ _ = _; exact (by unfold execOp; simp only [h285.ev 58 rfl]; rfl)))⟩) fun a288 h287 => ?_
        refine wpk_take hS274 h287 7 rfl rfl (by decide) (fr rfl) (by kernel_rfl) (by kernel_rfl) (by kernel_rfl) (fun _ _ _ _ h => h) (.slice la C.length lc) (Or.inl ⟨(by rw [wanted_of (g := 6) (want := true) (b := true) rfl (h287.yields (prev := 59) rfl (by simp))]; rfl), fun w1 hSw => (by cases hSw; exact (by show (execOp _ (⟨_, .move (.tmp 12), _, _, _, _⟩ : Oper)).run _ _ = _; exact (by unfold execOp; simp only [h287.ev 12 rfl]; rfl)))⟩) fun a290 h289 => ?_
        refine wpk_take hS274 h289 8 rfl rfl (by decide) (fr rfl) (by kernel_rfl) (by kernel_rfl) (by kernel_rfl) (fun _ _ _ _ h => h) (.int .i64 (k : Int)) (Or.inl ⟨(by rw [wanted_of (g := 6) (want := true) (b := true) rfl (h289.yields (prev := 59) rfl (by simp))]; rfl), fun w1 hSw => (by cases hSw; exact (by show (execOp _ (⟨_, .move (.tmp 13), _, _, _, _⟩ : Oper)).run _ _ = _; exact (by unfold execOp; simp only [h289.ev 13 rfl]; rfl)))⟩) fun a292 h291 => ?_
        refine wpk_take hS274 h291 9 rfl rfl (by decide) (fr rfl) (by kernel_rfl) (by kernel_rfl) (by kernel_rfl) (fun _ _ _ _ h => h) (.pointer (some ⟨qb, qo + k * 2, none⟩)) (Or.inl ⟨(by rw [wanted_of (g := 6) (want := true) (b := true) rfl (h291.yields (prev := 59) rfl (by simp))]; rfl), fun w1 hSw => (by cases hSw; exact (by show (execOp _ (⟨_, .indexAddr 22 (.tmp 60) (.tmp 61), _, _, _, _⟩ : Oper)).run _ _ = _; exact (by unfold execOp; simp only [h291.ev 60 rfl, h291.ev 61 rfl]; exact run_v (by rw [hqa]; exact ixP qb qo _ lc k hltk _))))⟩) fun a294 h293 => ?_
        refine wpk_take hS274 h293 10 rfl rfl (by decide) (fr rfl) (by kernel_rfl) (by kernel_rfl) (by kernel_rfl) (fun _ _ _ _ h => h) (.pointer (some ⟨qb, qo + k * 2, none⟩)) (Or.inl ⟨(by rw [wanted_of (g := 6) (want := true) (b := true) rfl (h293.yields (prev := 59) rfl (by simp))]; rfl), fun w1 hSw => (by cases hSw; exact (by show (execOp _ (⟨_, .fieldAddr 46 (.tmp 62) 0, _, _, _, _⟩ : Oper)).run _ _ = _; exact (by unfold execOp; simp only [h293.ev 62 rfl]; exact run_v (fa46g_0 _ _ _))))⟩) fun a296 h295 => ?_
        refine wpk_take hS274 h295 11 rfl rfl (by decide) (fr rfl) (by kernel_rfl) (by kernel_rfl) (by kernel_rfl) (fun _ _ _ _ h => h) (.int .i64 q0.at_) (Or.inl ⟨(by rw [wanted_of (g := 6) (want := true) (b := true) rfl (h295.yields (prev := 59) rfl (by simp))]; rfl), fun w1 hSw => (by cases hSw; exact (by show (execOp _ (⟨_, .load 3 (.tmp 63), _, _, _, _⟩ : Oper)).run _ _ = _; exact (by unfold execOp; simp only [h295.ev 63 rfl]; exact run_v (loadIP hcl.1))))⟩) fun a298 h297 => ?_
        refine wpk_take hS274 h297 12 rfl rfl (by decide) (fr rfl) (by kernel_rfl) (by kernel_rfl) (by kernel_rfl) (fun _ _ _ _ h => h) (.slice la C.length lc) (Or.inl ⟨(by rw [wanted_of (g := 6) (want := true) (b := true) rfl (h297.yields (prev := 59) rfl (by simp))]; rfl), fun w1 hSw => (by cases hSw; exact (by show (execOp _ (⟨_, .move (.tmp 12), _, _, _, _⟩ : Oper)).run _ _ = _; exact (by unfold execOp; simp only [h297.ev 12 rfl]; rfl)))⟩) fun a300 h299 => ?_
        refine wpk_take hS274 h299 13 rfl rfl (by decide) (fr rfl) (by kernel_rfl) (by kernel_rfl) (by kernel_rfl) (fun _ _ _ _ h => h) (.int .i64 (k : Int)) (Or.inl ⟨(by rw [wanted_of (g := 6) (want := true) (b := true) rfl (h299.yields (prev := 59) rfl (by simp))]; rfl), fun w1 hSw => (by cases hSw; exact (by show (execOp _ (⟨_, .move (.tmp 13), _, _, _, _⟩ : Oper)).run _ _ = _; exact (by unfold execOp; simp only [h299.ev 13 rfl]; rfl)))⟩) fun a302 h301 => ?_
        refine wpk_take hS274 h301 14 rfl rfl (by decide) (fr rfl) (by kernel_rfl) (by kernel_rfl) (by kernel_rfl) (fun _ _ _ _ h => h) (.pointer (some ⟨qb, qo + k * 2, none⟩)) (Or.inl ⟨(by rw [wanted_of (g := 6) (want := true) (b := true) rfl (h301.yields (prev := 59) rfl (by simp))]; rfl), fun w1 hSw => (by cases hSw; exact (by show (execOp _ (⟨_, .indexAddr 22 (.tmp 65) (.tmp 66), _, _, _, _⟩ : Oper)).run _ _ = _; exact (by unfold execOp; simp only [h301.ev 65 rfl, h301.ev 66 rfl]; exact run_v (by rw [hqa]; exact ixP qb qo _ lc k hltk _))))⟩) fun a304 h303 => ?_
        refine wpk_take hS274 h303 15 rfl rfl (by decide) (fr rfl) (by kernel_rfl) (by kernel_rfl) (by kernel_rfl) (fun _ _ _ _ h => h) (.pointer (some ⟨qb, qo + k * 2 + 1, none⟩)) (Or.inl ⟨(by rw [wanted_of (g := 6) (want := true) (b := true) rfl (h303.yields (prev := 59) rfl (by simp))]; rfl), fun w1 hSw => (by cases hSw; exact (by show (execOp _ (⟨_, .fieldAddr 46 (.tmp 67) 1, _, _, _, _⟩ : Oper)).run _ _ = _; exact (by unfold execOp; simp only [h303.ev 67 rfl]; exact run_v (fa46g_1 _ _ _))))⟩) fun a306 h305 => ?_
        refine wpk_take hS274 h305 16 rfl rfl (by decide) (fr rfl) (by kernel_rfl) (by kernel_rfl) (by kernel_rfl) (fun _ _ _ _ h => h) (strB q0.d) (Or.inl ⟨(by rw [wanted_of (g := 6) (want := true) (b := true) rfl (h305.yields (prev := 59) rfl (by simp))]; rfl), fun w1 hSw => (by cases hSw; exact (by show (execOp _ (⟨_, .load 9 (.tmp 68), _, _, _, _⟩ : Oper)).run _ _ = _; exact (by unfold execOp; simp only [h305.ev 68 rfl]; exact run_v (loadSP hcl.2))))⟩) fun a308 h307 => ?_
        refine wpk_take hS274 h307 17 rfl rfl (by decide) (fr rfl) (by kernel_rfl) (by kernel_rfl) (by kernel_rfl) (fun _ _ _ _ h => h) (.int .i64 (q0.d.length : Int)) (Or.inl ⟨(by rw [wanted_of (g := 6) (want := true) (b := true) rfl (h307.yields (prev := 59) rfl (by simp))]; rfl), fun w1 hSw => (by cases hSw; exact (by show (execOp _ (⟨_, .call { callee := .builtin .len, args := #[(.tmp 69)], argTypes := #[9] }, _, _, _, _⟩ : Oper)).run _ _ = _; exact (run_lenSP rfl (h307.ev 69 rfl) _)))⟩) fun a310 h309 => ?_
        refine wpk_take hS274 h309 18 rfl rfl (by decide) (fr rfl) (by kernel_rfl) (by kernel_rfl) (by kernel_rfl) (fun _ _ _ _ h => h) (.int .i64 s) (Or.inl ⟨(by rw [wanted_of (g := 6) (want := true) (b := true) rfl (h309.yields (prev := 59) rfl (by simp))]; rfl), fun w1 hSw => (by cases hSw; exact (by show (execOp _ (⟨_, .binOp .add 3 (.tmp 64) (.tmp 70) 3, _, _, _, _⟩ : Oper)).run _ _ = _; exact (by unfold execOp; simp only [h309.ev 64 rfl, h309.ev 70 rfl]; exact run_v (hadd _ _ _))))⟩) fun a312 h311 => ?_
        refine wpk_take hS274 h311 19 rfl rfl (by decide) (fr rfl) (by kernel_rfl) (by kernel_rfl) (by kernel_rfl) (fun _ _ _ _ h => h) (.bool false) (Or.inl ⟨(by rw [wanted_of (g := 6) (want := true) (b := true) rfl (h311.yields (prev := 59) rfl (by simp))]; rfl), fun w1 hSw => (by cases hSw; exact (by show (execOp _ (⟨_, .binOp .leq 3 (.tmp 71) (.const (.int .i64 512)) 3, _, _, _, _⟩ : Oper)).run _ _ = _; exact (by unfold execOp; simp only [h311.ev 71 rfl]; exact run_v (leIP _ _ _ _ _ hb2))))⟩) fun a314 h313 => ?_
        refine wpk_take hS274 h313 20 rfl rfl (by decide) (fr rfl) (by kernel_rfl) (by kernel_rfl) (by kernel_rfl) (fun _ _ _ _ h => h) (.bool false) (Or.inl ⟨Eq.refl true, fun w1 hSw => (by cases hSw; exact (by show (execOp _ (⟨_, .pick (.tmp 59) (.tmp 72) (.const (.bool false)), _, _, _, _⟩ : Oper)).run _ _ = _; exact (run_pick rfl (h313.ev 59 rfl) (by rw [if_pos rfl]; exact h313.ev 72 rfl))))⟩) fun a316 h315 => ?_
        refine wpk_take hS274 h315 21 rfl rfl (by decide) (fr rfl) (by kernel_rfl) (by kernel_rfl) (by kernel_rfl) (fun _ _ _ _ h => h) (.bool false) (Or.inl ⟨Eq.refl true, fun w1 hSw => (by cases hSw; exact (by show (execOp _ (⟨_, .move (.tmp 73), _, _, _, _⟩ : Oper)).run _ _ = _; exact (by unfold execOp; simp only [h315.ev 73 rfl]; rfl)))⟩) fun a318 h317 => ?_
        refine wpk_take hS274 h317 22 rfl rfl (by decide) (fr rfl) (by kernel_rfl) (by kernel_rfl) (by kernel_rfl) (fun _ _ _ _ h => h) undef (Or.inr ⟨(by rw [wanted_of (g := 21) (want := true) (b := false) rfl (h317.yields (prev := 74) rfl (by simp))]; rfl), rfl⟩) fun a320 h319 => ?_
        refine wpk_take hS274 h319 23 rfl rfl (by decide) (fr rfl) (by kernel_rfl) (by kernel_rfl) (by kernel_rfl) (fun _ _ _ _ h => h) undef (Or.inr ⟨(by rw [wanted_of (g := 21) (want := true) (b := false) rfl (h319.yields (prev := 74) rfl (by simp))]; rfl), rfl⟩) fun a322 h321 => ?_
        refine wpk_take hS274 h321 24 rfl rfl (by decide) (fr rfl) (by kernel_rfl) (by kernel_rfl) (by kernel_rfl) (fun _ _ _ _ h => h) undef (Or.inr ⟨(by rw [wanted_of (g := 21) (want := true) (b := false) rfl (h321.yields (prev := 74) rfl (by simp))]; rfl), rfl⟩) fun a324 h323 => ?_
        refine wpk_take hS274 h323 25 rfl rfl (by decide) (fr rfl) (by kernel_rfl) (by kernel_rfl) (by kernel_rfl) (fun _ _ _ _ h => h) undef (Or.inr ⟨(by rw [wanted_of (g := 21) (want := true) (b := false) rfl (h323.yields (prev := 74) rfl (by simp))]; rfl), rfl⟩) fun a326 h325 => ?_
        refine wpk_take hS274 h325 26 rfl rfl (by decide) (fr rfl) (by kernel_rfl) (by kernel_rfl) (by kernel_rfl) (fun _ _ _ _ h => h) undef (Or.inr ⟨(by rw [wanted_of (g := 21) (want := true) (b := false) rfl (h325.yields (prev := 74) rfl (by simp))]; rfl), rfl⟩) fun a328 h327 => ?_
        refine wpk_take hS274 h327 27 rfl rfl (by decide) (fr rfl) (by kernel_rfl) (by kernel_rfl) (by kernel_rfl) (fun _ _ _ _ h => h) undef (Or.inr ⟨(by rw [wanted_of (g := 21) (want := true) (b := false) rfl (h327.yields (prev := 74) rfl (by simp))]; rfl), rfl⟩) fun a330 h329 => ?_
        refine wpk_take hS274 h329 28 rfl rfl (by decide) (fr rfl) (by kernel_rfl) (by kernel_rfl) (by kernel_rfl) (fun _ _ _ _ h => h) (.bool false) (Or.inl ⟨Eq.refl true, fun w1 hSw => (by cases hSw; exact (by show (execOp _ (⟨_, .pick (.tmp 74) (.tmp 80) (.const (.bool false)), _, _, _, _⟩ : Oper)).run _ _ = _; exact (run_pick rfl (h329.ev 74 rfl) rfl)))⟩) fun a332 h331 => ?_
        refine wpAnyH_done (by kernel_rfl) ?_ _
        have h333 := h331.subs (l' := [(81, _), (13, _), (11, _), (12, _), (10, _), (9, _), (7, _), (8, _), (0, _), (1, _), (2, _)]) rfl
        clear h331
        iterate 2 go_step
        refine wp_cond (t := false) (h333.ev 81 rfl) ?_
        simp only [Bool.false_eq_true, if_false]
        have h334 := h333.subs (l' := [(13, _), (11, _), (12, _), (10, _), (9, _), (7, _), (8, _), (0, _), (1, _), (2, _)]) rfl
        clear h333
        iterate 4 go_step
        refine wmk h334 rfl rfl rfl rfl 13 rfl (fun _ => rfl) fun a336 h335 => ?_
        refine wv h335 rfl rfl rfl rfl (.int .i64 ((k + 1 : Nat) : Int)) (by unfold execOp; simp only [h335.ev 51 rfl]; exact run_v (addIP _ _ k (by omega) _)) fun a338 h337 => ?_
        have h339 := h337.subs (l' := [(52, _), (51, _), (11, _), (12, _), (10, _), (9, _), (7, _), (8, _), (0, _), (1, _), (2, _)]) rfl
        clear h337
        refine wmk h339 rfl rfl rfl rfl 52 rfl (fun _ => rfl) fun a341 h340 => ?_
        have h342 := h340.subs (l' := [(13, _), (11, _), (12, _), (10, _), (9, _), (7, _), (8, _), (0, _), (1, _), (2, _)]) rfl
        clear h340
        iterate 2 go_step
        refine ⟨⟨k + 1, O, oa, oc, by omega, by rw [hstep, if_neg (by rw [hin0]; decide)], by omega, h342.subs rfl, HOd.out, HBd.out⟩, ?_⟩
        rw [h342.ev 13 rfl, hK2.ev 13 rfl]; simp [intOf]; omega
      have hb3 : decide (q0.at_ ≤ 512) = true := decide_eq_true c3
      have hs2 : s = q0.at_ + q0.d.length := by rw [hs]; exact IntWalk.i64_in _ (by omega)
      clear hs
      by_cases c2 : s ≤ 512
      case neg =>
        have hin0 : inR q0 = false := by unfold inR; exact decide_eq_false (by omega)
        have hb2 : decide (s ≤ 512) = false := decide_eq_false c2
        iterate 4 go_step
        refine wmk hK2 rfl rfl rfl rfl 13 rfl (fun _ => rfl) fun a344 h343 => ?_
        refine wmk h343 rfl rfl rfl rfl 12 rfl (fun _ => rfl) fun a346 h345 => ?_
        refine wv h345 rfl rfl rfl rfl (.int .i64 (C.length : Int)) (run_lenP rfl (h345.ev 48 rfl) _) fun a348 h347 => ?_
        refine wv h347 rfl rfl rfl rfl (.bool true) (by unfold execOp; simp only [h347.ev 47 rfl, h347.ev 49 rfl]; exact run_v (ltIP _ _ _ _ _ hdk)) fun a350 h349 => ?_
        have h351 := h349.subs (l' := [(50, _), (13, _), (11, _), (12, _), (10, _), (9, _), (7, _), (8, _), (0, _), (1, _), (2, _)]) rfl
        clear h349
        iterate 3 go_step
        refine wp_cond (t := true) (h351.ev 50 rfl) ?_
        simp only [if_true]
        have h352 := h351.subs (l' := [(13, _), (11, _), (12, _), (10, _), (9, _), (7, _), (8, _), (0, _), (1, _), (2, _)]) rfl
        clear h351
        iterate 6 go_step
        refine wp_region_held_drew (S := fun w' => w' = wr.drew) (by kernel_rfl) rfl (fun hS353 => ?_)
        have hcl : wr.drew.cell? ⟨qb, qo + k * 2, none⟩ = some (.int .i64 q0.at_) ∧ wr.drew.cell? ⟨qb, qo + k * 2 + 1, none⟩ = some (strB q0.d) := by rw [HQ.out]; exact rowPt_cells (Row.mono RL.out HBr.out.drew) hltk hqa
        refine wpk_take hS353 h352 0 rfl rfl (by decide) (fr rfl) (by kernel_rfl) (by kernel_rfl) (by kernel_rfl) (fun _ _ _ _ h => h) (.slice la C.length lc) (Or.inl ⟨Eq.refl true, fun w1 hSw => (by cases hSw; exact (by show (execOp _ (⟨_, .move (.tmp 12), _, _, _, _⟩ : Oper)).run _ _ = _; exact (by unfold execOp; simp only [h352.ev 12 rfl]; rfl)))⟩) fun a355 h354 => ?_
        refine wpk_take hS353 h354 1 rfl rfl (by decide) (fr rfl) (by kernel_rfl) (by kernel_rfl) (by kernel_rfl) (fun _ _ _ _ h => h) (.int .i64 (k : Int)) (Or.inl ⟨Eq.refl true, fun w1 hSw => (by cases hSw; exact (by show (execOp _ (⟨_, .move (.tmp 13), _, _, _, _⟩ : Oper)).run _ _ = _; exact (by unfold execOp; simp only [h354.ev 13 rfl]; rfl)))⟩) fun a357 h356 => ?_
        refine wpk_take hS353 h356 2 rfl rfl (by decide) (fr rfl) (by kernel_rfl) (by kernel_rfl) (by kernel_rfl) (fun _ _ _ _ h => h) (.pointer (some ⟨qb, qo + k * 2, none⟩)) (Or.inl ⟨Eq.refl true, fun w1 hSw => (by cases hSw; exact (by show (execOp _ (⟨_, .indexAddr 22 (.tmp 53) (.tmp 54), _, _, _, _⟩ : Oper)).run _ _ = _; exact (by unfold execOp; simp only [h356.ev 53 rfl, h356.ev 54 rfl]; exact run_v (by rw [hqa]; exact ixP qb qo _ lc k hltk _))))⟩) fun a359 h358 => ?_
        refine wpk_take hS353 h358 3 rfl rfl (by decide) (fr rfl) (by kernel_rfl) (by kernel_rfl) (by kernel_rfl) (fun _ _ _ _ h => h) (.pointer (some ⟨qb, qo + k * 2, none⟩)) (Or.inl ⟨Eq.refl true, fun w1 hSw => (by cases hSw; exact (by show (execOp _ (⟨_, .fieldAddr 46 (.tmp 55) 0, _, _, _, _⟩ : Oper)).run _ _ = _; exact (by unfold execOp; simp only [h358.ev 55 rfl]; exact run_v (fa46g_0 _ _ _))))⟩) fun a361 h360 => ?_
        refine wpk_take hS353 h360 4 rfl rfl (by decide) (fr rfl) (by kernel_rfl) (by kernel_rfl) (by kernel_rfl) (fun _ _ _ _ h => h) (.int .i64 q0.at_) (Or.inl ⟨Eq.refl true, fun w1 hSw => (by cases hSw; exact (by show (execOp _ (⟨_, .load 3 (.tmp 56), _, _, _, _⟩ : Oper)).run _ _ = _; exact (by unfold execOp; simp only [h360.ev 56 rfl]; exact run_v (loadIP hcl.1))))⟩) fun a363 h362 => ?_
        refine wpk_take hS353 h362 5 rfl rfl (by decide) (fr rfl) (by kernel_rfl) (by kernel_rfl) (by kernel_rfl) (fun _ _ _ _ h => h) (.bool true) (Or.inl ⟨Eq.refl true, fun w1 hSw => (by cases hSw; exact (by show (execOp _ (⟨_, .binOp .geq 3 (.tmp 57) (.const (.int .i64 0)) 3, _, _, _, _⟩ : Oper)).run _ _ = _; exact (by unfold execOp; simp only [h362.ev 57 rfl]; exact run_v (geIP _ _ _ _ _ hb1))))⟩) fun a365 h364 => ?_
        refine wpk_take hS353 h364 6 rfl rfl (by decide) (fr rfl) (by kernel_rfl) (by kernel_rfl) (by kernel_rfl) (fun _ _ _ _ h => h) (.bool true) (Or.inl ⟨Eq.refl true, fun w1 hSw => (by cases hSw; exact (by show (execOp _ (⟨_, .move (.tmp 58), _, _, _, _⟩ : Oper)).run _ _ = _; exact (by unfold execOp; simp only [h364.ev 58 rfl]; rfl)))⟩) fun a367 h366 => ?_
        refine wpk_take hS353 h366 7 rfl rfl (by decide) (fr rfl) (by kernel_rfl) (by kernel_rfl) (by kernel_rfl) (fun _ _ _ _ h => h) (.slice la C.length lc) (Or.inl ⟨(by rw [wanted_of (g := 6) (want := true) (b := true) rfl (h366.yields (prev := 59) rfl (by simp))]; rfl), fun w1 hSw => (by cases hSw; exact (by show (execOp _ (⟨_, .move (.tmp 12), _, _, _, _⟩ : Oper)).run _ _ = _; exact (by unfold execOp; simp only [h366.ev 12 rfl]; rfl)))⟩) fun a369 h368 => ?_
        refine wpk_take hS353 h368 8 rfl rfl (by decide) (fr rfl) (by kernel_rfl) (by kernel_rfl) (by kernel_rfl) (fun _ _ _ _ h => h) (.int .i64 (k : Int)) (Or.inl ⟨(by rw [wanted_of (g := 6) (want := true) (b := true) rfl (h368.yields (prev := 59) rfl (by simp))]; rfl), fun w1 hSw => (by cases hSw; exact (by show (execOp _ (⟨_, .move (.tmp 13), _, _, _, _⟩ : Oper)).run _ _ = _; exact (by unfold execOp; simp only [h368.ev 13 rfl]; rfl)))⟩) fun a371 h370 => ?_
        refine wpk_take hS353 h370 9 rfl rfl (by decide) (fr rfl) (by kernel_rfl) (by kernel_rfl) (by kernel_rfl) (fun _ _ _ _ h => h) (.pointer (some ⟨qb, qo + k * 2, none⟩)) (Or.inl ⟨(by rw [wanted_of (g := 6) (want := true) (b := true) rfl (h370.yields (prev := 59) rfl (by simp))]; rfl), fun w1 hSw => (by cases hSw; exact (by show (execOp _ (⟨_, .indexAddr 22 (.tmp 60) (.tmp 61), _, _, _, _⟩ : Oper)).run _ _ = _; exact (by unfold execOp; simp only [h370.ev 60 rfl, h370.ev 61 rfl]; exact run_v (by rw [hqa]; exact ixP qb qo _ lc k hltk _))))⟩) fun a373 h372 => ?_
        refine wpk_take hS353 h372 10 rfl rfl (by decide) (fr rfl) (by kernel_rfl) (by kernel_rfl) (by kernel_rfl) (fun _ _ _ _ h => h) (.pointer (some ⟨qb, qo + k * 2, none⟩)) (Or.inl ⟨(by rw [wanted_of (g := 6) (want := true) (b := true) rfl (h372.yields (prev := 59) rfl (by simp))]; rfl), fun w1 hSw => (by cases hSw; exact (by show (execOp _ (⟨_, .fieldAddr 46 (.tmp 62) 0, _, _, _, _⟩ : Oper)).run _ _ = _; exact (by unfold execOp; simp only [h372.ev 62 rfl]; exact run_v (fa46g_0 _ _ _))))⟩) fun a375 h374 => ?_
        refine wpk_take hS353 h374 11 rfl rfl (by decide) (fr rfl) (by kernel_rfl) (by kernel_rfl) (by kernel_rfl) (fun _ _ _ _ h => h) (.int .i64 q0.at_) (Or.inl ⟨(by rw [wanted_of (g := 6) (want := true) (b := true) rfl (h374.yields (prev := 59) rfl (by simp))]; rfl), fun w1 hSw => (by cases hSw; exact (by show (execOp _ (⟨_, .load 3 (.tmp 63), _, _, _, _⟩ : Oper)).run _ _ = _; exact (by unfold execOp; simp only [h374.ev 63 rfl]; exact run_v (loadIP hcl.1))))⟩) fun a377 h376 => ?_
        refine wpk_take hS353 h376 12 rfl rfl (by decide) (fr rfl) (by kernel_rfl) (by kernel_rfl) (by kernel_rfl) (fun _ _ _ _ h => h) (.slice la C.length lc) (Or.inl ⟨(by rw [wanted_of (g := 6) (want := true) (b := true) rfl (h376.yields (prev := 59) rfl (by simp))]; rfl), fun w1 hSw => (by cases hSw; exact (by show (execOp _ (⟨_, .move (.tmp 12), _, _, _, _⟩ : Oper)).run _ _ = _; exact (by unfold execOp; simp only [h376.ev 12 rfl]; rfl)))⟩) fun a379 h378 => ?_
        refine wpk_take hS353 h378 13 rfl rfl (by decide) (fr rfl) (by kernel_rfl) (by kernel_rfl) (by kernel_rfl) (fun _ _ _ _ h => h) (.int .i64 (k : Int)) (Or.inl ⟨(by rw [wanted_of (g := 6) (want := true) (b := true) rfl (h378.yields (prev := 59) rfl (by simp))]; rfl), fun w1 hSw => (by cases hSw; exact (by show (execOp _ (⟨_, .move (.tmp 13), _, _, _, _⟩ : Oper)).run _ _ = _; exact (by unfold execOp; simp only [h378.ev 13 rfl]; rfl)))⟩) fun a381 h380 => ?_
        refine wpk_take hS353 h380 14 rfl rfl (by decide) (fr rfl) (by kernel_rfl) (by kernel_rfl) (by kernel_rfl) (fun _ _ _ _ h => h) (.pointer (some ⟨qb, qo + k * 2, none⟩)) (Or.inl ⟨(by rw [wanted_of (g := 6) (want := true) (b := true) rfl (h380.yields (prev := 59) rfl (by simp))]; rfl), fun w1 hSw => (by cases hSw; exact (by show (execOp _ (⟨_, .indexAddr 22 (.tmp 65) (.tmp 66), _, _, _, _⟩ : Oper)).run _ _ = _; exact (by unfold execOp; simp only [h380.ev 65 rfl, h380.ev 66 rfl]; exact run_v (by rw [hqa]; exact ixP qb qo _ lc k hltk _))))⟩) fun a383 h382 => ?_
        refine wpk_take hS353 h382 15 rfl rfl (by decide) (fr rfl) (by kernel_rfl) (by kernel_rfl) (by kernel_rfl) (fun _ _ _ _ h => h) (.pointer (some ⟨qb, qo + k * 2 + 1, none⟩)) (Or.inl ⟨(by rw [wanted_of (g := 6) (want := true) (b := true) rfl (h382.yields (prev := 59) rfl (by simp))]; rfl), fun w1 hSw => (by cases hSw; exact (by show (execOp _ (⟨_, .fieldAddr 46 (.tmp 67) 1, _, _, _, _⟩ : Oper)).run _ _ = _; exact (by unfold execOp; simp only [h382.ev 67 rfl]; exact run_v (fa46g_1 _ _ _))))⟩) fun a385 h384 => ?_
        refine wpk_take hS353 h384 16 rfl rfl (by decide) (fr rfl) (by kernel_rfl) (by kernel_rfl) (by kernel_rfl) (fun _ _ _ _ h => h) (strB q0.d) (Or.inl ⟨(by rw [wanted_of (g := 6) (want := true) (b := true) rfl (h384.yields (prev := 59) rfl (by simp))]; rfl), fun w1 hSw => (by cases hSw; exact (by show (execOp _ (⟨_, .load 9 (.tmp 68), _, _, _, _⟩ : Oper)).run _ _ = _; exact (by unfold execOp; simp only [h384.ev 68 rfl]; exact run_v (loadSP hcl.2))))⟩) fun a387 h386 => ?_
        refine wpk_take hS353 h386 17 rfl rfl (by decide) (fr rfl) (by kernel_rfl) (by kernel_rfl) (by kernel_rfl) (fun _ _ _ _ h => h) (.int .i64 (q0.d.length : Int)) (Or.inl ⟨(by rw [wanted_of (g := 6) (want := true) (b := true) rfl (h386.yields (prev := 59) rfl (by simp))]; rfl), fun w1 hSw => (by cases hSw; exact (by show (execOp _ (⟨_, .call { callee := .builtin .len, args := #[(.tmp 69)], argTypes := #[9] }, _, _, _, _⟩ : Oper)).run _ _ = _; exact (run_lenSP rfl (h386.ev 69 rfl) _)))⟩) fun a389 h388 => ?_
        refine wpk_take hS353 h388 18 rfl rfl (by decide) (fr rfl) (by kernel_rfl) (by kernel_rfl) (by kernel_rfl) (fun _ _ _ _ h => h) (.int .i64 s) (Or.inl ⟨(by rw [wanted_of (g := 6) (want := true) (b := true) rfl (h388.yields (prev := 59) rfl (by simp))]; rfl), fun w1 hSw => (by cases hSw; exact (by show (execOp _ (⟨_, .binOp .add 3 (.tmp 64) (.tmp 70) 3, _, _, _, _⟩ : Oper)).run _ _ = _; exact (by unfold execOp; simp only [h388.ev 64 rfl, h388.ev 70 rfl]; exact run_v (hadd _ _ _))))⟩) fun a391 h390 => ?_
        refine wpk_take hS353 h390 19 rfl rfl (by decide) (fr rfl) (by kernel_rfl) (by kernel_rfl) (by kernel_rfl) (fun _ _ _ _ h => h) (.bool false) (Or.inl ⟨(by rw [wanted_of (g := 6) (want := true) (b := true) rfl (h390.yields (prev := 59) rfl (by simp))]; rfl), fun w1 hSw => (by cases hSw; exact (by show (execOp _ (⟨_, .binOp .leq 3 (.tmp 71) (.const (.int .i64 512)) 3, _, _, _, _⟩ : Oper)).run _ _ = _; exact (by unfold execOp; simp only [h390.ev 71 rfl]; exact run_v (leIP _ _ _ _ _ hb2))))⟩) fun a393 h392 => ?_
        refine wpk_take hS353 h392 20 rfl rfl (by decide) (fr rfl) (by kernel_rfl) (by kernel_rfl) (by kernel_rfl) (fun _ _ _ _ h => h) (.bool false) (Or.inl ⟨Eq.refl true, fun w1 hSw => (by cases hSw; exact (by show (execOp _ (⟨_, .pick (.tmp 59) (.tmp 72) (.const (.bool false)), _, _, _, _⟩ : Oper)).run _ _ = _; exact (run_pick rfl (h392.ev 59 rfl) (by rw [if_pos rfl]; exact h392.ev 72 rfl))))⟩) fun a395 h394 => ?_
        refine wpk_take hS353 h394 21 rfl rfl (by decide) (fr rfl) (by kernel_rfl) (by kernel_rfl) (by kernel_rfl) (fun _ _ _ _ h => h) (.bool false) (Or.inl ⟨Eq.refl true, fun w1 hSw => (by cases hSw; exact (by show (execOp _ (⟨_, .move (.tmp 73), _, _, _, _⟩ : Oper)).run _ _ = _; exact (by unfold execOp; simp only [h394.ev 73 rfl]; rfl)))⟩) fun a397 h396 => ?_
        refine wpk_take hS353 h396 22 rfl rfl (by decide) (fr rfl) (by kernel_rfl) (by kernel_rfl) (by kernel_rfl) (fun _ _ _ _ h => h) undef (Or.inr ⟨(by rw [wanted_of (g := 21) (want := true) (b := false) rfl (h396.yields (prev := 74) rfl (by simp))]; rfl), rfl⟩) fun a399 h398 => ?_
        refine wpk_take hS353 h398 23 rfl rfl (by decide) (fr rfl) (by kernel_rfl) (by kernel_rfl) (by kernel_rfl) (fun _ _ _ _ h => h) undef (Or.inr ⟨(by rw [wanted_of (g := 21) (want := true) (b := false) rfl (h398.yields (prev := 74) rfl (by simp))]; rfl), rfl⟩) fun a401 h400 => ?_
        refine wpk_take hS353 h400 24 rfl rfl (by decide) (fr rfl) (by kernel_rfl) (by kernel_rfl) (by kernel_rfl) (fun _ _ _ _ h => h) undef (Or.inr ⟨(by rw [wanted_of (g := 21) (want := true) (b := false) rfl (h400.yields (prev := 74) rfl (by simp))]; rfl), rfl⟩) fun a403 h402 => ?_
        refine wpk_take hS353 h402 25 rfl rfl (by decide) (fr rfl) (by kernel_rfl) (by kernel_rfl) (by kernel_rfl) (fun _ _ _ _ h => h) undef (Or.inr ⟨(by rw [wanted_of (g := 21) (want := true) (b := false) rfl (h402.yields (prev := 74) rfl (by simp))]; rfl), rfl⟩) fun a405 h404 => ?_
        refine wpk_take hS353 h404 26 rfl rfl (by decide) (fr rfl) (by kernel_rfl) (by kernel_rfl) (by kernel_rfl) (fun _ _ _ _ h => h) undef (Or.inr ⟨(by rw [wanted_of (g := 21) (want := true) (b := false) rfl (h404.yields (prev := 74) rfl (by simp))]; rfl), rfl⟩) fun a407 h406 => ?_
        refine wpk_take hS353 h406 27 rfl rfl (by decide) (fr rfl) (by kernel_rfl) (by kernel_rfl) (by kernel_rfl) (fun _ _ _ _ h => h) undef (Or.inr ⟨(by rw [wanted_of (g := 21) (want := true) (b := false) rfl (h406.yields (prev := 74) rfl (by simp))]; rfl), rfl⟩) fun a409 h408 => ?_
        refine wpk_take hS353 h408 28 rfl rfl (by decide) (fr rfl) (by kernel_rfl) (by kernel_rfl) (by kernel_rfl) (fun _ _ _ _ h => h) (.bool false) (Or.inl ⟨Eq.refl true, fun w1 hSw => (by cases hSw; exact (by show (execOp _ (⟨_, .pick (.tmp 74) (.tmp 80) (.const (.bool false)), _, _, _, _⟩ : Oper)).run _ _ = _; exact (run_pick rfl (h408.ev 74 rfl) rfl)))⟩) fun a411 h410 => ?_
        refine wpAnyH_done (by kernel_rfl) ?_ _
        have h412 := h410.subs (l' := [(81, _), (13, _), (11, _), (12, _), (10, _), (9, _), (7, _), (8, _), (0, _), (1, _), (2, _)]) rfl
        clear h410
        iterate 2 go_step
        refine wp_cond (t := false) (h412.ev 81 rfl) ?_
        simp only [Bool.false_eq_true, if_false]
        have h413 := h412.subs (l' := [(13, _), (11, _), (12, _), (10, _), (9, _), (7, _), (8, _), (0, _), (1, _), (2, _)]) rfl
        clear h412
        iterate 4 go_step
        refine wmk h413 rfl rfl rfl rfl 13 rfl (fun _ => rfl) fun a415 h414 => ?_
        refine wv h414 rfl rfl rfl rfl (.int .i64 ((k + 1 : Nat) : Int)) (by unfold execOp; simp only [h414.ev 51 rfl]; exact run_v (addIP _ _ k (by omega) _)) fun a417 h416 => ?_
        have h418 := h416.subs (l' := [(52, _), (51, _), (11, _), (12, _), (10, _), (9, _), (7, _), (8, _), (0, _), (1, _), (2, _)]) rfl
        clear h416
        refine wmk h418 rfl rfl rfl rfl 52 rfl (fun _ => rfl) fun a420 h419 => ?_
        have h421 := h419.subs (l' := [(13, _), (11, _), (12, _), (10, _), (9, _), (7, _), (8, _), (0, _), (1, _), (2, _)]) rfl
        clear h419
        iterate 2 go_step
        refine ⟨⟨k + 1, O, oa, oc, by omega, by rw [hstep, if_neg (by rw [hin0]; decide)], by omega, h421.subs rfl, HOd.out, HBd.out⟩, ?_⟩
        rw [h421.ev 13 rfl, hK2.ev 13 rfl]; simp [intOf]; omega
      have hin0 : inR q0 = true := by unfold inR; exact decide_eq_true (by omega)
      have hb2 : decide (s ≤ 512) = true := decide_eq_true c2
      iterate 4 go_step
      refine wmk hK2 rfl rfl rfl rfl 13 rfl (fun _ => rfl) fun a423 h422 => ?_
      refine wmk h422 rfl rfl rfl rfl 12 rfl (fun _ => rfl) fun a425 h424 => ?_
      refine wv h424 rfl rfl rfl rfl (.int .i64 (C.length : Int)) (run_lenP rfl (h424.ev 48 rfl) _) fun a427 h426 => ?_
      refine wv h426 rfl rfl rfl rfl (.bool true) (by unfold execOp; simp only [h426.ev 47 rfl, h426.ev 49 rfl]; exact run_v (ltIP _ _ _ _ _ hdk)) fun a429 h428 => ?_
      have h430 := h428.subs (l' := [(50, _), (13, _), (11, _), (12, _), (10, _), (9, _), (7, _), (8, _), (0, _), (1, _), (2, _)]) rfl
      clear h428
      iterate 3 go_step
      refine wp_cond (t := true) (h430.ev 50 rfl) ?_
      simp only [if_true]
      have h431 := h430.subs (l' := [(13, _), (11, _), (12, _), (10, _), (9, _), (7, _), (8, _), (0, _), (1, _), (2, _)]) rfl
      clear h430
      iterate 6 go_step
      refine wp_region_held_drew (S := fun w' => w' = wr.drew) (by kernel_rfl) rfl (fun hS432 => ?_)
      have hcl : wr.drew.cell? ⟨qb, qo + k * 2, none⟩ = some (.int .i64 q0.at_) ∧ wr.drew.cell? ⟨qb, qo + k * 2 + 1, none⟩ = some (strB q0.d) := by rw [HQ.out]; exact rowPt_cells (Row.mono RL.out HBr.out.drew) hltk hqa
      refine wpk_take hS432 h431 0 rfl rfl (by decide) (fr rfl) (by kernel_rfl) (by kernel_rfl) (by kernel_rfl) (fun _ _ _ _ h => h) (.slice la C.length lc) (Or.inl ⟨Eq.refl true, fun w1 hSw => (by cases hSw; exact (by show (execOp _ (⟨_, .move (.tmp 12), _, _, _, _⟩ : Oper)).run _ _ = _; exact (by unfold execOp; simp only [h431.ev 12 rfl]; rfl)))⟩) fun a434 h433 => ?_
      refine wpk_take hS432 h433 1 rfl rfl (by decide) (fr rfl) (by kernel_rfl) (by kernel_rfl) (by kernel_rfl) (fun _ _ _ _ h => h) (.int .i64 (k : Int)) (Or.inl ⟨Eq.refl true, fun w1 hSw => (by cases hSw; exact (by show (execOp _ (⟨_, .move (.tmp 13), _, _, _, _⟩ : Oper)).run _ _ = _; exact (by unfold execOp; simp only [h433.ev 13 rfl]; rfl)))⟩) fun a436 h435 => ?_
      refine wpk_take hS432 h435 2 rfl rfl (by decide) (fr rfl) (by kernel_rfl) (by kernel_rfl) (by kernel_rfl) (fun _ _ _ _ h => h) (.pointer (some ⟨qb, qo + k * 2, none⟩)) (Or.inl ⟨Eq.refl true, fun w1 hSw => (by cases hSw; exact (by show (execOp _ (⟨_, .indexAddr 22 (.tmp 53) (.tmp 54), _, _, _, _⟩ : Oper)).run _ _ = _; exact (by unfold execOp; simp only [h435.ev 53 rfl, h435.ev 54 rfl]; exact run_v (by rw [hqa]; exact ixP qb qo _ lc k hltk _))))⟩) fun a438 h437 => ?_
      refine wpk_take hS432 h437 3 rfl rfl (by decide) (fr rfl) (by kernel_rfl) (by kernel_rfl) (by kernel_rfl) (fun _ _ _ _ h => h) (.pointer (some ⟨qb, qo + k * 2, none⟩)) (Or.inl ⟨Eq.refl true, fun w1 hSw => (by cases hSw; exact (by show (execOp _ (⟨_, .fieldAddr 46 (.tmp 55) 0, _, _, _, _⟩ : Oper)).run _ _ = _; exact (by unfold execOp; simp only [h437.ev 55 rfl]; exact run_v (fa46g_0 _ _ _))))⟩) fun a440 h439 => ?_
      refine wpk_take hS432 h439 4 rfl rfl (by decide) (fr rfl) (by kernel_rfl) (by kernel_rfl) (by kernel_rfl) (fun _ _ _ _ h => h) (.int .i64 q0.at_) (Or.inl ⟨Eq.refl true, fun w1 hSw => (by cases hSw; exact (by show (execOp _ (⟨_, .load 3 (.tmp 56), _, _, _, _⟩ : Oper)).run _ _ = _; exact (by unfold execOp; simp only [h439.ev 56 rfl]; exact run_v (loadIP hcl.1))))⟩) fun a442 h441 => ?_
      refine wpk_take hS432 h441 5 rfl rfl (by decide) (fr rfl) (by kernel_rfl) (by kernel_rfl) (by kernel_rfl) (fun _ _ _ _ h => h) (.bool true) (Or.inl ⟨Eq.refl true, fun w1 hSw => (by cases hSw; exact (by show (execOp _ (⟨_, .binOp .geq 3 (.tmp 57) (.const (.int .i64 0)) 3, _, _, _, _⟩ : Oper)).run _ _ = _; exact (by unfold execOp; simp only [h441.ev 57 rfl]; exact run_v (geIP _ _ _ _ _ hb1))))⟩) fun a444 h443 => ?_
      refine wpk_take hS432 h443 6 rfl rfl (by decide) (fr rfl) (by kernel_rfl) (by kernel_rfl) (by kernel_rfl) (fun _ _ _ _ h => h) (.bool true) (Or.inl ⟨Eq.refl true, fun w1 hSw => (by cases hSw; exact (by show (execOp _ (⟨_, .move (.tmp 58), _, _, _, _⟩ : Oper)).run _ _ = _; exact (by unfold execOp; simp only [h443.ev 58 rfl]; rfl)))⟩) fun a446 h445 => ?_
      refine wpk_take hS432 h445 7 rfl rfl (by decide) (fr rfl) (by kernel_rfl) (by kernel_rfl) (by kernel_rfl) (fun _ _ _ _ h => h) (.slice la C.length lc) (Or.inl ⟨(by rw [wanted_of (g := 6) (want := true) (b := true) rfl (h445.yields (prev := 59) rfl (by simp))]; rfl), fun w1 hSw => (by cases hSw; exact (by show (execOp _ (⟨_, .move (.tmp 12), _, _, _, _⟩ : Oper)).run _ _ = _; exact (by unfold execOp; simp only [h445.ev 12 rfl]; rfl)))⟩) fun a448 h447 => ?_
      refine wpk_take hS432 h447 8 rfl rfl (by decide) (fr rfl) (by kernel_rfl) (by kernel_rfl) (by kernel_rfl) (fun _ _ _ _ h => h) (.int .i64 (k : Int)) (Or.inl ⟨(by rw [wanted_of (g := 6) (want := true) (b := true) rfl (h447.yields (prev := 59) rfl (by simp))]; rfl), fun w1 hSw => (by cases hSw; exact (by show (execOp _ (⟨_, .move (.tmp 13), _, _, _, _⟩ : Oper)).run _ _ = _; exact (by unfold execOp; simp only [h447.ev 13 rfl]; rfl)))⟩) fun a450 h449 => ?_
      refine wpk_take hS432 h449 9 rfl rfl (by decide) (fr rfl) (by kernel_rfl) (by kernel_rfl) (by kernel_rfl) (fun _ _ _ _ h => h) (.pointer (some ⟨qb, qo + k * 2, none⟩)) (Or.inl ⟨(by rw [wanted_of (g := 6) (want := true) (b := true) rfl (h449.yields (prev := 59) rfl (by simp))]; rfl), fun w1 hSw => (by cases hSw; exact (by show (execOp _ (⟨_, .indexAddr 22 (.tmp 60) (.tmp 61), _, _, _, _⟩ : Oper)).run _ _ = _; exact (by unfold execOp; simp only [h449.ev 60 rfl, h449.ev 61 rfl]; exact run_v (by rw [hqa]; exact ixP qb qo _ lc k hltk _))))⟩) fun a452 h451 => ?_
      refine wpk_take hS432 h451 10 rfl rfl (by decide) (fr rfl) (by kernel_rfl) (by kernel_rfl) (by kernel_rfl) (fun _ _ _ _ h => h) (.pointer (some ⟨qb, qo + k * 2, none⟩)) (Or.inl ⟨(by rw [wanted_of (g := 6) (want := true) (b := true) rfl (h451.yields (prev := 59) rfl (by simp))]; rfl), fun w1 hSw => (by cases hSw; exact (by show (execOp _ (⟨_, .fieldAddr 46 (.tmp 62) 0, _, _, _, _⟩ : Oper)).run _ _ = _; exact (by unfold execOp; simp only [h451.ev 62 rfl]; exact run_v (fa46g_0 _ _ _))))⟩) fun a454 h453 => ?_
      refine wpk_take hS432 h453 11 rfl rfl (by decide) (fr rfl) (by kernel_rfl) (by kernel_rfl) (by kernel_rfl) (fun _ _ _ _ h => h) (.int .i64 q0.at_) (Or.inl ⟨(by rw [wanted_of (g := 6) (want := true) (b := true) rfl (h453.yields (prev := 59) rfl (by simp))]; rfl), fun w1 hSw => (by cases hSw; exact (by show (execOp _ (⟨_, .load 3 (.tmp 63), _, _, _, _⟩ : Oper)).run _ _ = _; exact (by unfold execOp; simp only [h453.ev 63 rfl]; exact run_v (loadIP hcl.1))))⟩) fun a456 h455 => ?_
      refine wpk_take hS432 h455 12 rfl rfl (by decide) (fr rfl) (by kernel_rfl) (by kernel_rfl) (by kernel_rfl) (fun _ _ _ _ h => h) (.slice la C.length lc) (Or.inl ⟨(by rw [wanted_of (g := 6) (want := true) (b := true) rfl (h455.yields (prev := 59) rfl (by simp))]; rfl), fun w1 hSw => (by cases hSw; exact (by show (execOp _ (⟨_, .move (.tmp 12), _, _, _, _⟩ : Oper)).run _ _ = _; exact (by unfold execOp; simp only [h455.ev 12 rfl]; rfl)))⟩) fun a458 h457 => ?_
      refine wpk_take hS432 h457 13 rfl rfl (by decide) (fr rfl) (by kernel_rfl) (by kernel_rfl) (by kernel_rfl) (fun _ _ _ _ h => h) (.int .i64 (k : Int)) (Or.inl ⟨(by rw [wanted_of (g := 6) (want := true) (b := true) rfl (h457.yields (prev := 59) rfl (by simp))]; rfl), fun w1 hSw => (by cases hSw; exact (by show (execOp _ (⟨_, .move (.tmp 13), _, _, _, _⟩ : Oper)).run _ _ = _; exact (by unfold execOp; simp only [h457.ev 13 rfl]; rfl)))⟩) fun a460 h459 => ?_
      refine wpk_take hS432 h459 14 rfl rfl (by decide) (fr rfl) (by kernel_rfl) (by kernel_rfl) (by kernel_rfl) (fun _ _ _ _ h => h) (.pointer (some ⟨qb, qo + k * 2, none⟩)) (Or.inl ⟨(by rw [wanted_of (g := 6) (want := true) (b := true) rfl (h459.yields (prev := 59) rfl (by simp))]; rfl), fun w1 hSw => (by cases hSw; exact (by show (execOp _ (⟨_, .indexAddr 22 (.tmp 65) (.tmp 66), _, _, _, _⟩ : Oper)).run _ _ = _; exact (by unfold execOp; simp only [h459.ev 65 rfl, h459.ev 66 rfl]; exact run_v (by rw [hqa]; exact ixP qb qo _ lc k hltk _))))⟩) fun a462 h461 => ?_
      refine wpk_take hS432 h461 15 rfl rfl (by decide) (fr rfl) (by kernel_rfl) (by kernel_rfl) (by kernel_rfl) (fun _ _ _ _ h => h) (.pointer (some ⟨qb, qo + k * 2 + 1, none⟩)) (Or.inl ⟨(by rw [wanted_of (g := 6) (want := true) (b := true) rfl (h461.yields (prev := 59) rfl (by simp))]; rfl), fun w1 hSw => (by cases hSw; exact (by show (execOp _ (⟨_, .fieldAddr 46 (.tmp 67) 1, _, _, _, _⟩ : Oper)).run _ _ = _; exact (by unfold execOp; simp only [h461.ev 67 rfl]; exact run_v (fa46g_1 _ _ _))))⟩) fun a464 h463 => ?_
      refine wpk_take hS432 h463 16 rfl rfl (by decide) (fr rfl) (by kernel_rfl) (by kernel_rfl) (by kernel_rfl) (fun _ _ _ _ h => h) (strB q0.d) (Or.inl ⟨(by rw [wanted_of (g := 6) (want := true) (b := true) rfl (h463.yields (prev := 59) rfl (by simp))]; rfl), fun w1 hSw => (by cases hSw; exact (by show (execOp _ (⟨_, .load 9 (.tmp 68), _, _, _, _⟩ : Oper)).run _ _ = _; exact (by unfold execOp; simp only [h463.ev 68 rfl]; exact run_v (loadSP hcl.2))))⟩) fun a466 h465 => ?_
      refine wpk_take hS432 h465 17 rfl rfl (by decide) (fr rfl) (by kernel_rfl) (by kernel_rfl) (by kernel_rfl) (fun _ _ _ _ h => h) (.int .i64 (q0.d.length : Int)) (Or.inl ⟨(by rw [wanted_of (g := 6) (want := true) (b := true) rfl (h465.yields (prev := 59) rfl (by simp))]; rfl), fun w1 hSw => (by cases hSw; exact (by show (execOp _ (⟨_, .call { callee := .builtin .len, args := #[(.tmp 69)], argTypes := #[9] }, _, _, _, _⟩ : Oper)).run _ _ = _; exact (run_lenSP rfl (h465.ev 69 rfl) _)))⟩) fun a468 h467 => ?_
      refine wpk_take hS432 h467 18 rfl rfl (by decide) (fr rfl) (by kernel_rfl) (by kernel_rfl) (by kernel_rfl) (fun _ _ _ _ h => h) (.int .i64 s) (Or.inl ⟨(by rw [wanted_of (g := 6) (want := true) (b := true) rfl (h467.yields (prev := 59) rfl (by simp))]; rfl), fun w1 hSw => (by cases hSw; exact (by show (execOp _ (⟨_, .binOp .add 3 (.tmp 64) (.tmp 70) 3, _, _, _, _⟩ : Oper)).run _ _ = _; exact (by unfold execOp; simp only [h467.ev 64 rfl, h467.ev 70 rfl]; exact run_v (hadd _ _ _))))⟩) fun a470 h469 => ?_
      refine wpk_take hS432 h469 19 rfl rfl (by decide) (fr rfl) (by kernel_rfl) (by kernel_rfl) (by kernel_rfl) (fun _ _ _ _ h => h) (.bool true) (Or.inl ⟨(by rw [wanted_of (g := 6) (want := true) (b := true) rfl (h469.yields (prev := 59) rfl (by simp))]; rfl), fun w1 hSw => (by cases hSw; exact (by show (execOp _ (⟨_, .binOp .leq 3 (.tmp 71) (.const (.int .i64 512)) 3, _, _, _, _⟩ : Oper)).run _ _ = _; exact (by unfold execOp; simp only [h469.ev 71 rfl]; exact run_v (leIP _ _ _ _ _ hb2))))⟩) fun a472 h471 => ?_
      refine wpk_take hS432 h471 20 rfl rfl (by decide) (fr rfl) (by kernel_rfl) (by kernel_rfl) (by kernel_rfl) (fun _ _ _ _ h => h) (.bool true) (Or.inl ⟨Eq.refl true, fun w1 hSw => (by cases hSw; exact (by show (execOp _ (⟨_, .pick (.tmp 59) (.tmp 72) (.const (.bool false)), _, _, _, _⟩ : Oper)).run _ _ = _; exact (run_pick rfl (h471.ev 59 rfl) (by rw [if_pos rfl]; exact h471.ev 72 rfl))))⟩) fun a474 h473 => ?_
      refine wpk_take hS432 h473 21 rfl rfl (by decide) (fr rfl) (by kernel_rfl) (by kernel_rfl) (by kernel_rfl) (fun _ _ _ _ h => h) (.bool true) (Or.inl ⟨Eq.refl true, fun w1 hSw => (by cases hSw; exact (by show (execOp _ (⟨_, .move (.tmp 73), _, _, _, _⟩ : Oper)).run _ _ = _; exact (by unfold execOp; simp only [h473.ev 73 rfl]; rfl)))⟩) fun a476 h475 => ?_
      refine wpk_take hS432 h475 22 rfl rfl (by decide) (fr rfl) (by kernel_rfl) (by kernel_rfl) (by kernel_rfl) (fun _ _ _ _ h => h) (.slice la C.length lc) (Or.inl ⟨(by rw [wanted_of (g := 21) (want := true) (b := true) rfl (h475.yields (prev := 74) rfl (by simp))]; rfl), fun w1 hSw => (by cases hSw; exact (by show (execOp _ (⟨_, .move (.tmp 12), _, _, _, _⟩ : Oper)).run _ _ = _; exact (by unfold execOp; simp only [h475.ev 12 rfl]; rfl)))⟩) fun a478 h477 => ?_
      refine wpk_take hS432 h477 23 rfl rfl (by decide) (fr rfl) (by kernel_rfl) (by kernel_rfl) (by kernel_rfl) (fun _ _ _ _ h => h) (.int .i64 (k : Int)) (Or.inl ⟨(by rw [wanted_of (g := 21) (want := true) (b := true) rfl (h477.yields (prev := 74) rfl (by simp))]; rfl), fun w1 hSw => (by cases hSw; exact (by show (execOp _ (⟨_, .move (.tmp 13), _, _, _, _⟩ : Oper)).run _ _ = _; exact (by unfold execOp; simp only [h477.ev 13 rfl]; rfl)))⟩) fun a480 h479 => ?_
      refine wpk_take hS432 h479 24 rfl rfl (by decide) (fr rfl) (by kernel_rfl) (by kernel_rfl) (by kernel_rfl) (fun _ _ _ _ h => h) (.pointer (some ⟨qb, qo + k * 2, none⟩)) (Or.inl ⟨(by rw [wanted_of (g := 21) (want := true) (b := true) rfl (h479.yields (prev := 74) rfl (by simp))]; rfl), fun w1 hSw => (by cases hSw; exact (by show (execOp _ (⟨_, .indexAddr 22 (.tmp 75) (.tmp 76), _, _, _, _⟩ : Oper)).run _ _ = _; exact (by unfold execOp; simp only [h479.ev 75 rfl, h479.ev 76 rfl]; exact run_v (by rw [hqa]; exact ixP qb qo _ lc k hltk _))))⟩) fun a482 h481 => ?_
      refine wpk_take hS432 h481 25 rfl rfl (by decide) (fr rfl) (by kernel_rfl) (by kernel_rfl) (by kernel_rfl) (fun _ _ _ _ h => h) (.pointer (some ⟨qb, qo + k * 2, none⟩)) (Or.inl ⟨(by rw [wanted_of (g := 21) (want := true) (b := true) rfl (h481.yields (prev := 74) rfl (by simp))]; rfl), fun w1 hSw => (by cases hSw; exact (by show (execOp _ (⟨_, .fieldAddr 46 (.tmp 77) 0, _, _, _, _⟩ : Oper)).run _ _ = _; exact (by unfold execOp; simp only [h481.ev 77 rfl]; exact run_v (fa46g_0 _ _ _))))⟩) fun a484 h483 => ?_
      refine wpk_take hS432 h483 26 rfl rfl (by decide) (fr rfl) (by kernel_rfl) (by kernel_rfl) (by kernel_rfl) (fun _ _ _ _ h => h) (.int .i64 q0.at_) (Or.inl ⟨(by rw [wanted_of (g := 21) (want := true) (b := true) rfl (h483.yields (prev := 74) rfl (by simp))]; rfl), fun w1 hSw => (by cases hSw; exact (by show (execOp _ (⟨_, .load 3 (.tmp 78), _, _, _, _⟩ : Oper)).run _ _ = _; exact (by unfold execOp; simp only [h483.ev 78 rfl]; exact run_v (loadIP hcl.1))))⟩) fun a486 h485 => ?_
      refine wpk_take hS432 h485 27 rfl rfl (by decide) (fr rfl) (by kernel_rfl) (by kernel_rfl) (by kernel_rfl) (fun _ _ _ _ h => h) (.bool true) (Or.inl ⟨(by rw [wanted_of (g := 21) (want := true) (b := true) rfl (h485.yields (prev := 74) rfl (by simp))]; rfl), fun w1 hSw => (by cases hSw; exact (by show (execOp _ (⟨_, .binOp .leq 3 (.tmp 79) (.const (.int .i64 512)) 3, _, _, _, _⟩ : Oper)).run _ _ = _; exact (by unfold execOp; simp only [h485.ev 79 rfl]; exact run_v (leIP _ _ _ _ _ hb3))))⟩) fun a488 h487 => ?_
      refine wpk_take hS432 h487 28 rfl rfl (by decide) (fr rfl) (by kernel_rfl) (by kernel_rfl) (by kernel_rfl) (fun _ _ _ _ h => h) (.bool true) (Or.inl ⟨Eq.refl true, fun w1 hSw => (by cases hSw; exact (by show (execOp _ (⟨_, .pick (.tmp 74) (.tmp 80) (.const (.bool false)), _, _, _, _⟩ : Oper)).run _ _ = _; exact (run_pick rfl (h487.ev 74 rfl) (by rw [if_pos rfl]; exact h487.ev 80 rfl))))⟩) fun a490 h489 => ?_
      refine wpAnyH_done (by kernel_rfl) ?_ _
      have h491 := h489.subs (l' := [(81, _), (13, _), (11, _), (12, _), (10, _), (9, _), (7, _), (8, _), (0, _), (1, _), (2, _)]) rfl
      clear h489
      iterate 2 go_step
      refine wp_cond (t := true) (h491.ev 81 rfl) ?_
      simp only [if_true]
      have h492 := h491.subs (l' := [(13, _), (11, _), (12, _), (10, _), (9, _), (7, _), (8, _), (0, _), (1, _), (2, _)]) rfl
      clear h491
      go_step
      refine wmk h492 rfl rfl rfl rfl 11 rfl (fun _ => rfl) fun a494 h493 => ?_
      refine wmk h493 rfl rfl rfl rfl 12 rfl (fun _ => rfl) fun a496 h495 => ?_
      refine wmk h495 rfl rfl rfl rfl 13 rfl (fun _ => rfl) fun a498 h497 => ?_
      refine wv h497 rfl rfl rfl rfl (.pointer (some ⟨qb, qo + k * 2, none⟩)) (by unfold execOp; simp only [h497.ev 83 rfl, h497.ev 84 rfl]; exact run_v (by rw [hqa]; exact ixP qb qo _ lc k hltk _)) fun a500 h499 => ?_
      refine wv h499 rfl rfl rfl rfl (ptV q0) (by unfold execOp; simp only [h499.ev 85 rfl]; exact run_v (run_loadAt_mid _ _ _ _ (ptC q0) _ hrq Tryd.underlying46 rfl (by rw [infoPt]; rfl))) fun a502 h501 => ?_
      obtain ⟨wz, hwz⟩ : ∃ x, x = wr.drew.alloc (.cells (ptC q0).toArray 46) := ⟨_, rfl⟩
      have rz : RowPt wz (some ⟨wr.drew.heap.size, 0, none⟩) 1 [q0] := by rw [hwz]; exact rowPt1 _ _
      have oz : OwnPt wz wl.heap.size oa oc O := by rw [hwz]; exact Own.alloc HOd.out _
      have bz : Below wl.heap.size wl wz := by rw [hwz]; exact kept_alloc HBd.out _
      refine wv h501 rfl rfl rfl rfl (.slice (some ⟨wr.drew.heap.size, 0, none⟩) ([q0] : List PtM).length 1) (by unfold execOp; simp only [List.map_toArray, List.map_cons, List.map_nil, h501.ev 86 rfl]; exact run_v (buildPts _ _)) fun a504 h503 => ?_
      rw [← hwz]
      refine wpl_append rfl (.tmp 82) (.tmp 87) rfl EPt wl.heap.size (h503.ev 82 rfl) (h503.ev 87 rfl) oz rz (pts_one _) (by show (O.length + 1) * 24 ≤ _; omega) (by show O.length + 1 ≤ _; omega) bz.size ?_
      intro oa3 oc3 w3 o3 g3 b3
      refine wpk_enter (h503.put (d := 88) (by decide) (fr rfl) (.slice oa3 (O.length + ([q0] : List PtM).length) oc3)) fun a506 h505 => ?_
      have HO3 : Hid (OwnPt w3 wl.heap.size oa3 oc3 (O ++ [q0])) := hid (by unfold OwnPt; rw [List.length_append, List.flatMap_append]; exact o3)
      have HB3 := hid (bz.trans b3); clear o3 g3 b3 oz rz bz hwz
      have h507 := h505.subs (l' := [(88, _), (87, _), (86, _), (85, _), (84, _), (83, _), (82, _), (13, _), (12, _), (10, _), (9, _), (7, _), (8, _), (0, _), (1, _), (2, _)]) rfl
      clear h505
      refine wmk h507 rfl rfl rfl rfl 88 rfl (fun _ => rfl) fun a509 h508 => ?_
      have h510 := h508.subs (l' := [(11, _), (13, _), (12, _), (10, _), (9, _), (7, _), (8, _), (0, _), (1, _), (2, _)]) rfl
      clear h508
      iterate 4 go_step
      refine wmk h510 rfl rfl rfl rfl 13 rfl (fun _ => rfl) fun a512 h511 => ?_
      refine wv h511 rfl rfl rfl rfl (.int .i64 ((k + 1 : Nat) : Int)) (by unfold execOp; simp only [h511.ev 51 rfl]; exact run_v (addIP _ _ k (by omega) _)) fun a514 h513 => ?_
      have h515 := h513.subs (l' := [(52, _), (51, _), (11, _), (12, _), (10, _), (9, _), (7, _), (8, _), (0, _), (1, _), (2, _)]) rfl
      clear h513
      refine wmk h515 rfl rfl rfl rfl 52 rfl (fun _ => rfl) fun a517 h516 => ?_
      have h518 := h516.subs (l' := [(13, _), (11, _), (12, _), (10, _), (9, _), (7, _), (8, _), (0, _), (1, _), (2, _)]) rfl
      clear h516
      iterate 2 go_step
      refine ⟨⟨k + 1, O ++ [q0], oa3, oc3, by omega, by rw [hstep, if_pos hin0], (by rw [List.length_append]; show O.length + 1 ≤ _; omega), (by rw [List.length_append]; exact h518.subs rfl), HO3.out, HB3.out⟩, ?_⟩
      rw [h518.ev 13 rfl, hK2.ev 13 rfl]; simp [intOf]; omega
    have hdk : decide ((k : Int) < (C.length : Int)) = false := decide_eq_false (by omega)
    iterate 4 go_step
    refine wmk hK2 rfl rfl rfl rfl 13 rfl (fun _ => rfl) fun a520 h519 => ?_
    refine wmk h519 rfl rfl rfl rfl 12 rfl (fun _ => rfl) fun a522 h521 => ?_
    refine wv h521 rfl rfl rfl rfl (.int .i64 (C.length : Int)) (run_lenP rfl (h521.ev 48 rfl) _) fun a524 h523 => ?_
    refine wv h523 rfl rfl rfl rfl (.bool false) (by unfold execOp; simp only [h523.ev 47 rfl, h523.ev 49 rfl]; exact run_v (ltIP _ _ _ _ _ hdk)) fun a526 h525 => ?_
    have h527 := h525.subs (l' := [(50, _), (13, _), (11, _), (12, _), (10, _), (9, _), (7, _), (8, _), (0, _), (1, _), (2, _)]) rfl
    clear h525
    iterate 3 go_step
    refine wp_cond (t := false) (h527.ev 50 rfl) ?_
    simp only [Bool.false_eq_true, if_false]
    have h528 := h527.subs (l' := [(13, _), (11, _), (12, _), (10, _), (9, _), (7, _), (8, _), (0, _), (1, _), (2, _)]) rfl
    clear h527
    iterate 5 go_step
    have TP4 := hid (TPl.out.mono HBr.out); have HB4 := hid (kept_trans HBl.out HBr.out); have HA4 := hid (Own.mono HAl.out HBr.out); have HO4 := HOr; have hB24 : B2 ≤ wr.heap.size := Nat.le_trans hBl HBr.out.size
    have okO : okPts O := fun p hp => okC p (own_mem HOe.out p hp)
    iterate 2 go_step
    refine wmk h528 rfl rfl rfl rfl 7 rfl (fun _ => rfl) fun a530 h529 => ?_
    refine wv h529 rfl rfl rfl rfl (.pointer (some ⟨K1.pp, 0, none⟩)) (by unfold execOp; simp only [h529.ev 89 rfl]; exact rfl) fun a532 h531 => ?_
    refine wv h531 rfl rfl rfl rfl (.pointer (some ⟨K1.pp, 1, none⟩)) (by unfold execOp; simp only [h531.ev 90 rfl]; exact run_v (fa_50_0_1 (K1.pp) _)) fun a534 h533 => ?_
    refine wv h533 rfl rfl rfl rfl (.pointer (some ⟨K1.lg, 0, none⟩)) (by unfold execOp; simp only [h533.ev 91 rfl]; exact run_v (loadLP (TP4.out.b1.cell (i := 1) (by show 1 < 4; omega)))) fun a536 h535 => ?_
    refine wmk h535 rfl rfl rfl rfl 11 rfl (fun _ => rfl) fun a538 h537 => ?_
    refine wpk_call h537 (wanted_none rfl) rfl (by decide) (fr rfl) (fun args => callP_22 args _) rfl #[.pointer (some ⟨K1.lg, 0, none⟩), .slice oa O.length oc] (by simp only [List.map_toArray, List.map_cons, List.map_nil, h537.ev 92 rfl, h537.ev 93 rfl]) (R := fun v' w' => v' = .int .i64 (appE M 512 512 O) ∧ LogP w' K1.lg K1.g K1.v K1.d K1.p 512 512 (appM M 512 512 O) ∧ Turns (XM K1.v K1.d K1.p) wr w') (append_any TP4.out.l (logOk_of9 hlenM) HO4.out.row okO (by omega)) fun a540 v5 w5 r5 h539 => ?_
    obtain ⟨rfl, l5, t5⟩ := r5; have TP5 := hid (TP4.out.left l5 t5); have HB5 := hid (below_X HB4.out t5 hB2 hx1); have HO5 := hid (t5.own HO4.out (by intro k hk; have := hltX1 k hk; omega)); have HA5 := hid (t5.own HA4.out (by intro k hk; exact hltX1 k hk)); have hB25 : B2 ≤ w5.heap.size := Nat.le_trans hB24 t5.size; clear l5 t5
    refine wmk h539 rfl rfl rfl rfl 94 rfl (fun _ => rfl) fun a542 h541 => ?_
    have h543 := h541.subs (l' := [(14, _), (13, _), (11, _), (12, _), (10, _), (9, _), (7, _), (8, _), (0, _), (1, _), (2, _)]) rfl
    clear h541
    iterate 5 go_step
    refine wmk h543 rfl rfl rfl rfl 8 rfl (fun _ => rfl) fun a545 h544 => ?_
    refine wv h544 rfl rfl rfl rfl (.pointer (some ⟨K2.pp, 0, none⟩)) (by unfold execOp; simp only [h544.ev 95 rfl]; exact rfl) fun a547 h546 => ?_
    refine wv h546 rfl rfl rfl rfl (.pointer (some ⟨K2.pp, 1, none⟩)) (by unfold execOp; simp only [h546.ev 96 rfl]; exact run_v (fa_50_0_1 (K2.pp) _)) fun a549 h548 => ?_
    refine wv h548 rfl rfl rfl rfl (.pointer (some ⟨K2.lg, 0, none⟩)) (by unfold execOp; simp only [h548.ev 97 rfl]; exact run_v (loadLP (TP5.out.b2.cell (i := 1) (by show 1 < 4; omega)))) fun a551 h550 => ?_
    refine wmk h550 rfl rfl rfl rfl 11 rfl (fun _ => rfl) fun a553 h552 => ?_
    refine wpk_call h552 (wanted_none rfl) rfl (by decide) (fr rfl) (fun args => callP_22 args _) rfl #[.pointer (some ⟨K2.lg, 0, none⟩), .slice oa O.length oc] (by simp only [List.map_toArray, List.map_cons, List.map_nil, h552.ev 98 rfl, h552.ev 99 rfl]) (R := fun v' w' => v' = .int .i64 (appE M 512 512 O) ∧ LogP w' K2.lg K2.g K2.v K2.d K2.p 512 512 (appM M 512 512 O) ∧ Turns (XM K2.v K2.d K2.p) w5 w') (append_any TP5.out.r (logOk_of9 hlenM) HO5.out.row okO (by omega)) fun a555 v6 w6 r6 h554 => ?_
    obtain ⟨rfl, l6, t6⟩ := r6; have TP6 := hid (TP5.out.right l6 t6); have HB6 := hid (below_X HB5.out t6 hB2 hx2); have HO6 := hid (t6.own HO5.out (by intro k hk; have := hltX2 k hk; omega)); have HA6 := hid (t6.own HA5.out (by intro k hk; exact hltX2 k hk)); have hB26 : B2 ≤ w6.heap.size := Nat.le_trans hB25 t6.size; clear l6 t6
    refine wmk h554 rfl rfl rfl rfl 100 rfl (fun _ => rfl) fun a557 h556 => ?_
    have h558 := h556.subs (l' := [(15, _), (14, _), (13, _), (11, _), (12, _), (10, _), (9, _), (7, _), (8, _), (0, _), (1, _), (2, _)]) rfl
    clear h556
    iterate 6 go_step
    refine wmk h558 rfl rfl rfl rfl 14 rfl (fun _ => rfl) fun a560 h559 => ?_
    refine wmk h559 rfl rfl rfl rfl 15 rfl (fun _ => rfl) fun a562 h561 => ?_
    refine wv h561 rfl rfl rfl rfl (.bool false) (by unfold execOp; simp only [h561.ev 101 rfl, h561.ev 102 rfl]; exact run_v (neEP _ _ _ _ _ (by simp))) fun a564 h563 => ?_
    have h565 := h563.subs (l' := [(103, _), (15, _), (14, _), (13, _), (11, _), (12, _), (10, _), (9, _), (7, _), (8, _), (0, _), (1, _), (2, _)]) rfl
    clear h563
    iterate 3 go_step
    refine wp_cond (t := false) (h565.ev 103 rfl) ?_
    simp only [Bool.false_eq_true, if_false]
    have h566 := h565.subs (l' := [(15, _), (14, _), (13, _), (11, _), (12, _), (10, _), (9, _), (7, _), (8, _), (0, _), (1, _), (2, _)]) rfl
    clear h565
    iterate 3 go_step
    have okM := appM_ok hMok 512 512 O; have dM := appM_D hMok hMD 512 512 O; have fM := flat_app (logOk_of9 hlenM) O; have lM : (appM M 512 512 O).V.length = 1024 := by rw [appM_len]; exact hlenM
    have hOin : ∀ p ∈ O, inR p = true ∧ p.d.length ≤ 40 := fun p hp => own_in HOe.out hCd p hp
    by_cases heo : appE M 512 512 O = 0
    · have heok : (appE M 512 512 O == 0) = true := by rw [heo]; rfl
      rw [if_pos heo, hFA] at fM
      iterate 2 go_step
      refine wmk h566 rfl rfl rfl rfl 14 rfl (fun _ => rfl) fun a568 h567 => ?_
      refine wv h567 rfl rfl rfl rfl (.bool true) (by unfold execOp; simp only [h567.ev 104 rfl]; exact run_v (eqEP _ _ _ _ _ heok)) fun a570 h569 => ?_
      have h571 := h569.subs (l' := [(105, _), (15, _), (14, _), (13, _), (11, _), (12, _), (10, _), (9, _), (7, _), (8, _), (0, _), (1, _), (2, _)]) rfl
      clear h569
      iterate 3 go_step
      refine wp_cond (t := true) (h571.ev 105 rfl) ?_
      simp only [if_true]
      have h572 := h571.subs (l' := [(15, _), (14, _), (13, _), (11, _), (12, _), (10, _), (9, _), (7, _), (8, _), (0, _), (1, _), (2, _)]) rfl
      clear h571
      go_step
      refine wmk h572 rfl rfl rfl rfl 9 rfl (fun _ => rfl) fun a574 h573 => ?_
      refine wmk h573 rfl rfl rfl rfl 11 rfl (fun _ => rfl) fun a576 h575 => ?_
      refine wpl_append rfl (.tmp 106) (.tmp 107) rfl EPt B2 (h575.ev 106 rfl) (h575.ev 107 rfl) HA6.out HO6.out.row (pts_one _) (by omega) (by omega) hB26 ?_
      intro aa3 ac3 w7 o7 g7 b7
      refine wpk_enter (h575.put (d := 108) (by decide) (fr rfl) (.slice aa3 (A.length + O.length) ac3)) fun a578 h577 => ?_
      have HA7 : Hid (OwnPt w7 B2 aa3 ac3 (A ++ O)) := hid (by unfold OwnPt; rw [List.length_append, List.flatMap_append]; exact o7)
      have TP7 := hid (TP6.out.under b7 hltB); have HB7 := hid (below_base HB6.out b7 hB2); have hB27 : B2 ≤ w7.heap.size := Nat.le_trans hB26 b7.size; clear o7 g7 b7
      have h579 := h577.subs (l' := [(108, _), (107, _), (106, _), (15, _), (14, _), (13, _), (11, _), (12, _), (10, _), (7, _), (8, _), (0, _), (1, _), (2, _)]) rfl
      clear h577
      refine wmk h579 rfl rfl rfl rfl 108 rfl (fun _ => rfl) fun a581 h580 => ?_
      have h582 := h580.subs (l' := [(9, _), (15, _), (14, _), (13, _), (11, _), (12, _), (10, _), (7, _), (8, _), (0, _), (1, _), (2, _)]) rfl
      clear h580
      iterate 4 go_step
      refine wmk h582 rfl rfl rfl rfl 10 rfl (fun _ => rfl) fun a584 h583 => ?_
      refine wv h583 rfl rfl rfl rfl (.int .i64 ((i + 1 : Nat) : Int)) (by unfold execOp; simp only [h583.ev 40 rfl]; exact run_v (addIP _ _ i (by omega) _)) fun a586 h585 => ?_
      have h587 := h585.subs (l' := [(41, _), (40, _), (9, _), (15, _), (14, _), (13, _), (11, _), (12, _), (7, _), (8, _), (0, _), (1, _), (2, _)]) rfl
      clear h585
      refine wmk h587 rfl rfl rfl rfl 41 rfl (fun _ => rfl) fun a589 h588 => ?_
      have h590 := h588.subs (l' := [(10, _), (9, _), (15, _), (14, _), (13, _), (11, _), (12, _), (7, _), (8, _), (0, _), (1, _), (2, _)]) rfl
      clear h588
      iterate 2 go_step
      refine ⟨⟨i + 1, appM M 512 512 O, A ++ O, aa3, ac3, by omega, by omega, ⟨lM, okM, dM, fM, (fun p hp => by rcases List.mem_append.1 hp with q | q; exact hinA p q; exact hOin p q), by rw [List.length_append]; omega⟩, (by rw [List.length_append]; exact h590.subs rfl), TP7.out, HA7.out, HB7.out, hB27⟩, ?_⟩
      rw [h590.ev 10 rfl, hK.ev 10 rfl]; simp [intOf]; omega
    · have heok : (appE M 512 512 O == 0) = false := by simpa using heo
      rw [if_neg heo, hFA] at fM
      iterate 2 go_step
      refine wmk h566 rfl rfl rfl rfl 14 rfl (fun _ => rfl) fun a592 h591 => ?_
      refine wv h591 rfl rfl rfl rfl (.bool false) (by unfold execOp; simp only [h591.ev 104 rfl]; exact run_v (eqEP _ _ _ _ _ heok)) fun a594 h593 => ?_
      have h595 := h593.subs (l' := [(105, _), (15, _), (14, _), (13, _), (11, _), (12, _), (10, _), (9, _), (7, _), (8, _), (0, _), (1, _), (2, _)]) rfl
      clear h593
      iterate 3 go_step
      refine wp_cond (t := false) (h595.ev 105 rfl) ?_
      simp only [Bool.false_eq_true, if_false]
      have h596 := h595.subs (l' := [(15, _), (14, _), (13, _), (11, _), (12, _), (10, _), (9, _), (7, _), (8, _), (0, _), (1, _), (2, _)]) rfl
      clear h595
      iterate 4 go_step
      refine wmk h596 rfl rfl rfl rfl 10 rfl (fun _ => rfl) fun a598 h597 => ?_
      refine wv h597 rfl rfl rfl rfl (.int .i64 ((i + 1 : Nat) : Int)) (by unfold execOp; simp only [h597.ev 40 rfl]; exact run_v (addIP _ _ i (by omega) _)) fun a600 h599 => ?_
      have h601 := h599.subs (l' := [(41, _), (40, _), (15, _), (14, _), (13, _), (11, _), (12, _), (9, _), (7, _), (8, _), (0, _), (1, _), (2, _)]) rfl
      clear h599
      refine wmk h601 rfl rfl rfl rfl 41 rfl (fun _ => rfl) fun a603 h602 => ?_
      have h604 := h602.subs (l' := [(10, _), (15, _), (14, _), (13, _), (11, _), (12, _), (9, _), (7, _), (8, _), (0, _), (1, _), (2, _)]) rfl
      clear h602
      iterate 2 go_step
      refine ⟨⟨i + 1, appM M 512 512 O, A, aa, ac, by omega, by omega, ⟨lM, okM, dM, fM, hinA, by omega⟩, h604.subs rfl, TP6.out, HA6.out, HB6.out, hB26⟩, ?_⟩
      rw [h604.ev 10 rfl, hK.ev 10 rfl]; simp [intOf]; omega
  clear HT2 HB2
  rintro aq wk ⟨M, A, aa, ac, ⟨hlenM, hMok, hMD, hFA, hinA0, hAl⟩, hQ, htp, hoa, hb, hBk⟩
  have TPk := hid htp; have HAk := hid hoa; have HBk := hid hb; have hinA := hinA0; clear htp hoa hb
  refine wp_join9 (J := fun a' w' => ∃ (j : Nat) (N : MemM), j ≤ A.length ∧ N = (A.take j).foldl stU M ∧ Kn 201 [(7, .pointer (some ⟨K1.pp, 0, none⟩)), (8, .pointer (some ⟨K2.pp, 0, none⟩)), (2, .slice ia I.length ic)] a' ∧ TwoP w' wb0.heap.size K1 K2 M N ∧ Below w.heap.size w w') ?_ ?_
  case refine_1 =>
    iterate 3 go_step
    refine wv hQ rfl rfl rfl rfl (.int .i64 0) rfl fun a606 h605 => ?_
    iterate 4 go_step
    have h607 := h605.subs (l' := [(16, _), (9, _), (7, _), (8, _), (1, _), (2, _)]) rfl
    clear h605
    refine wp_loop (I := fun a' w' => ∃ (i : Nat) (N : MemM), i ≤ A.length ∧ N = (A.take i).foldl stU M ∧ Kn 201 [(16, .int .i64 (i : Int)), (9, .slice aa A.length ac), (7, .pointer (some ⟨K1.pp, 0, none⟩)), (8, .pointer (some ⟨K2.pp, 0, none⟩)), (1, .int .i64 stored), (2, .slice ia I.length ic)] a' ∧ TwoP w' wb0.heap.size K1 K2 M N ∧ OwnPt w' B2 aa ac A ∧ Below w.heap.size w w' ∧ B2 ≤ w'.heap.size) (μ := fun a' _ => A.length - (intOf (a'.eval (.tmp 16))).toNat) ⟨0, M, by omega, rfl, h607, TPk.out, HAk.out, HBk.out, hBk⟩ ?_
    clear h607
    rintro aL3 wb ⟨i, N, hi, hN, hK3, htp, hoa, hbb, hBb⟩
    have TPb := hid htp; have HAb := hid hoa; have HBb := hid hbb; clear htp hoa hbb
    by_cases hltL : i < A.length
    case neg =>
      have hd0 : decide ((i : Int) < (A.length : Int)) = false := decide_eq_false (by omega)
      iterate 4 go_step
      refine wmk hK3 rfl rfl rfl rfl 16 rfl (fun _ => rfl) fun a609 h608 => ?_
      refine wmk h608 rfl rfl rfl rfl 9 rfl (fun _ => rfl) fun a611 h610 => ?_
      refine wv h610 rfl rfl rfl rfl (.int .i64 (A.length : Int)) (run_lenP rfl (h610.ev 110 rfl) _) fun a613 h612 => ?_
      refine wv h612 rfl rfl rfl rfl (.bool false) (by unfold execOp; simp only [h612.ev 109 rfl, h612.ev 111 rfl]; exact run_v (ltIP _ _ _ _ _ hd0)) fun a615 h614 => ?_
      refine wmk h614 rfl rfl rfl rfl 112 rfl (fun _ => rfl) fun a617 h616 => ?_
      refine wpk_skip h616 (by rw [wanted_of (g := 4) (want := true) (b := false) rfl (h616.yields (prev := 113) rfl (by simp))]; rfl) rfl (by decide) (fr rfl) fun a619 h618 => ?_
      refine wpk_skip h618 (by rw [wanted_of (g := 4) (want := true) (b := false) rfl (h618.yields (prev := 113) rfl (by simp))]; rfl) rfl (by decide) (fr rfl) fun a621 h620 => ?_
      refine wpk_skip h620 (by rw [wanted_of (g := 4) (want := true) (b := false) rfl (h620.yields (prev := 113) rfl (by simp))]; rfl) rfl (by decide) (fr rfl) fun a623 h622 => ?_
      refine wv h622 rfl rfl rfl rfl (.bool false) (run_pick rfl (h622.ev 113 rfl) rfl) fun a625 h624 => ?_
      have h626 := h624.subs (l' := [(117, _), (16, _), (9, _), (7, _), (8, _), (1, _), (2, _)]) rfl
      clear h624
      iterate 3 go_step
      refine wp_cond (t := false) (h626.ev 117 rfl) ?_
      simp only [Bool.false_eq_true, if_false]
      have h627 := h626.subs (l' := [(16, _), (9, _), (7, _), (8, _), (1, _), (2, _)]) rfl
      clear h626
      iterate 4 go_step
      exact ⟨i, N, hi, hN, h627.subs rfl, TPb.out, HBb.out⟩
    have hd0 : decide ((i : Int) < (A.length : Int)) = true := decide_eq_true (by omega)
    by_cases hltN : (i : Int) < stored
    case neg =>
      have hd1 : decide ((i : Int) < stored) = false := decide_eq_false (by omega)
      iterate 4 go_step
      refine wmk hK3 rfl rfl rfl rfl 16 rfl (fun _ => rfl) fun a629 h628 => ?_
      refine wmk h628 rfl rfl rfl rfl 9 rfl (fun _ => rfl) fun a631 h630 => ?_
      refine wv h630 rfl rfl rfl rfl (.int .i64 (A.length : Int)) (run_lenP rfl (h630.ev 110 rfl) _) fun a633 h632 => ?_
      refine wv h632 rfl rfl rfl rfl (.bool true) (by unfold execOp; simp only [h632.ev 109 rfl, h632.ev 111 rfl]; exact run_v (ltIP _ _ _ _ _ hd0)) fun a635 h634 => ?_
      refine wmk h634 rfl rfl rfl rfl 112 rfl (fun _ => rfl) fun a637 h636 => ?_
      refine wpk_val h636 (by rw [wanted_of (g := 4) (want := true) (b := true) rfl (h636.yields (prev := 113) rfl (by simp))]; rfl) rfl (by decide) (fr rfl) (.int .i64 (i : Int)) (by unfold execOp; simp only [h636.ev 16 rfl]; rfl) fun a639 h638 => ?_
      refine wpk_val h638 (by rw [wanted_of (g := 4) (want := true) (b := true) rfl (h638.yields (prev := 113) rfl (by simp))]; rfl) rfl (by decide) (fr rfl) (.int .i64 stored) (by unfold execOp; simp only [h638.ev 1 rfl]; rfl) fun a641 h640 => ?_
      refine wpk_val h640 (by rw [wanted_of (g := 4) (want := true) (b := true) rfl (h640.yields (prev := 113) rfl (by simp))]; rfl) rfl (by decide) (fr rfl) (.bool false) (by unfold execOp; simp only [h640.ev 114 rfl, h640.ev 115 rfl]; exact run_v (ltIP _ _ _ _ _ hd1)) fun a643 h642 => ?_
      refine wv h642 rfl rfl rfl rfl (.bool false) (run_pick rfl (h642.ev 113 rfl) (by rw [if_pos rfl]; exact h642.ev 116 rfl)) fun a645 h644 => ?_
      have h646 := h644.subs (l' := [(117, _), (16, _), (9, _), (7, _), (8, _), (1, _), (2, _)]) rfl
      clear h644
      iterate 3 go_step
      refine wp_cond (t := false) (h646.ev 117 rfl) ?_
      simp only [Bool.false_eq_true, if_false]
      have h647 := h646.subs (l' := [(16, _), (9, _), (7, _), (8, _), (1, _), (2, _)]) rfl
      clear h646
      iterate 4 go_step
      exact ⟨i, N, hi, hN, h647.subs rfl, TPb.out, HBb.out⟩
    have hd1 : decide ((i : Int) < stored) = true := decide_eq_true (by omega)
    obtain ⟨qb, qo, hqa, _⟩ := rowPt_at HAb.out.row (by omega)
    have hq0i := hinA A[i] (List.getElem_mem hltL)
    obtain ⟨q0, hq0⟩ : ∃ y, y = A[i] := ⟨_, rfl⟩
    rw [← hq0] at hq0i; have HQ := hid hq0; obtain ⟨z1, z2⟩ := (inR_iff q0).1 hq0i.1; have hq0a : i64B q0.at_ := (by unfold i64B; omega); have hq0d : q0.d.length ≤ 1000000 := by omega
    have hst : (A.take (i + 1)).foldl stU M = stU N q0 := by rw [List.take_add_one, List.getElem?_eq_getElem hltL, Option.toList_some, List.foldl_append, ← hN, hq0]; rfl
    clear hq0
    iterate 4 go_step
    refine wmk hK3 rfl rfl rfl rfl 16 rfl (fun _ => rfl) fun a649 h648 => ?_
    refine wmk h648 rfl rfl rfl rfl 9 rfl (fun _ => rfl) fun a651 h650 => ?_
    refine wv h650 rfl rfl rfl rfl (.int .i64 (A.length : Int)) (run_lenP rfl (h650.ev 110 rfl) _) fun a653 h652 => ?_
    refine wv h652 rfl rfl rfl rfl (.bool true) (by unfold execOp; simp only [h652.ev 109 rfl, h652.ev 111 rfl]; exact run_v (ltIP _ _ _ _ _ hd0)) fun a655 h654 => ?_
    refine wmk h654 rfl rfl rfl rfl 112 rfl (fun _ => rfl) fun a657 h656 => ?_
    refine wpk_val h656 (by rw [wanted_of (g := 4) (want := true) (b := true) rfl (h656.yields (prev := 113) rfl (by simp))]; rfl) rfl (by decide) (fr rfl) (.int .i64 (i : Int)) (by unfold execOp; simp only [h656.ev 16 rfl]; rfl) fun a659 h658 => ?_
    refine wpk_val h658 (by rw [wanted_of (g := 4) (want := true) (b := true) rfl (h658.yields (prev := 113) rfl (by simp))]; rfl) rfl (by decide) (fr rfl) (.int .i64 stored) (by unfold execOp; simp only [h658.ev 1 rfl]; rfl) fun a661 h660 => ?_
    refine wpk_val h660 (by rw [wanted_of (g := 4) (want := true) (b := true) rfl (h660.yields (prev := 113) rfl (by simp))]; rfl) rfl (by decide) (fr rfl) (.bool true) (by unfold execOp; simp only [h660.ev 114 rfl, h660.ev 115 rfl]; exact run_v (ltIP _ _ _ _ _ hd1)) fun a663 h662 => ?_
    refine wv h662 rfl rfl rfl rfl (.bool true) (run_pick rfl (h662.ev 113 rfl) (by rw [if_pos rfl]; exact h662.ev 116 rfl)) fun a665 h664 => ?_
    have h666 := h664.subs (l' := [(117, _), (16, _), (9, _), (7, _), (8, _), (1, _), (2, _)]) rfl
    clear h664
    iterate 3 go_step
    refine wp_cond (t := true) (h666.ev 117 rfl) ?_
    simp only [if_true]
    have h667 := h666.subs (l' := [(16, _), (9, _), (7, _), (8, _), (1, _), (2, _)]) rfl
    clear h666
    iterate 5 go_step
    have TPd0 := hid (TPb.out.mono (Below.refl _ _).drew); have HBd0 := hid HBb.out.drew; have HAd0 := hid (Own.mono HAb.out (Below.refl _ _).drew); have hBd0 : B2 ≤ wb.drew.heap.size := hBb
    refine wp_region_held_drew (S := fun w' => Blk w' K2.pp 50 (pairC K2) ∧ OwnPt w' B2 aa ac A) (by kernel_rfl) ⟨TPd0.out.b2, HAd0.out⟩ (fun hS1 => ?_)
    refine wpk_take hS1 h667 0 rfl rfl (by decide) (fr rfl) (by kernel_rfl) (by kernel_rfl) (by kernel_rfl) (fun _ _ _ _ h => h) (.pointer (some ⟨K2.pp, 0, none⟩)) (Or.inl ⟨Eq.refl true, fun w1 hSw => (by show (execOp _ (⟨_, .move (.tmp 8), _, _, _, _⟩ : Oper)).run _ _ = _; exact (by unfold execOp; simp only [h667.ev 8 rfl]; exact rfl))⟩) fun a669 h668 => ?_
    refine wpk_take hS1 h668 1 rfl rfl (by decide) (fr rfl) (by kernel_rfl) (by kernel_rfl) (by kernel_rfl) (fun _ _ _ _ h => h) (.pointer (some ⟨K2.pp, 0, none⟩)) (Or.inl ⟨Eq.refl true, fun w1 hSw => (by show (execOp _ (⟨_, .nilCheck (.tmp 120), _, _, _, _⟩ : Oper)).run _ _ = _; exact (by unfold execOp; simp only [h668.ev 120 rfl]; exact rfl))⟩) fun a671 h670 => ?_
    refine wpk_take hS1 h670 2 rfl rfl (by decide) (fr rfl) (by kernel_rfl) (by kernel_rfl) (by kernel_rfl) (fun _ _ _ _ h => h) (.pointer (some ⟨K2.pp, 0, none⟩)) (Or.inl ⟨Eq.refl true, fun w1 hSw => (by show (execOp _ (⟨_, .fieldAddr 50 (.tmp 121) 0, _, _, _, _⟩ : Oper)).run _ _ = _; exact (by unfold execOp; simp only [h670.ev 121 rfl]; exact run_v (fa_50_0_0 (K2.pp) _)))⟩) fun a673 h672 => ?_
    refine wpk_take hS1 h672 3 rfl rfl (by decide) (fr rfl) (by kernel_rfl) (by kernel_rfl) (by kernel_rfl) (fun _ _ _ _ h => h) (.pointer (some ⟨K2.g, 0, none⟩)) (Or.inl ⟨Eq.refl true, fun w1 hSw => (by show (execOp _ (⟨_, .load 36 (.tmp 122), _, _, _, _⟩ : Oper)).run _ _ = _; exact (by unfold execOp; simp only [h672.ev 122 rfl]; exact run_v (loadMP (hSw.1.cell (i := 0) (by show 0 < 4; omega)))))⟩) fun a675 h674 => ?_
    refine wpk_take hS1 h674 4 rfl rfl (by decide) (fr rfl) (by kernel_rfl) (by kernel_rfl) (by kernel_rfl) (fun _ _ _ _ h => h) (.slice aa A.length ac) (Or.inl ⟨Eq.refl true, fun w1 hSw => (by show (execOp _ (⟨_, .move (.tmp 9), _, _, _, _⟩ : Oper)).run _ _ = _; exact (by unfold execOp; simp only [h674.ev 9 rfl]; exact rfl))⟩) fun a677 h676 => ?_
    refine wpk_take hS1 h676 5 rfl rfl (by decide) (fr rfl) (by kernel_rfl) (by kernel_rfl) (by kernel_rfl) (fun _ _ _ _ h => h) (.int .i64 (i : Int)) (Or.inl ⟨Eq.refl true, fun w1 hSw => (by show (execOp _ (⟨_, .move (.tmp 16), _, _, _, _⟩ : Oper)).run _ _ = _; exact (by unfold execOp; simp only [h676.ev 16 rfl]; exact rfl))⟩) fun a679 h678 => ?_
    refine wpk_take hS1 h678 6 rfl rfl (by decide) (fr rfl) (by kernel_rfl) (by kernel_rfl) (by kernel_rfl) (fun _ _ _ _ h => h) (.pointer (some ⟨qb, qo + i * 2, none⟩)) (Or.inl ⟨Eq.refl true, fun w1 hSw => (by show (execOp _ (⟨_, .indexAddr 22 (.tmp 124) (.tmp 125), _, _, _, _⟩ : Oper)).run _ _ = _; exact (by unfold execOp; simp only [h678.ev 124 rfl, h678.ev 125 rfl]; exact run_v (by rw [hqa]; exact ixP qb qo _ ac i hltL _)))⟩) fun a681 h680 => ?_
    refine wpk_take hS1 h680 7 rfl rfl (by decide) (fr rfl) (by kernel_rfl) (by kernel_rfl) (by kernel_rfl) (fun _ _ _ _ h => h) (.pointer (some ⟨qb, qo + i * 2, none⟩)) (Or.inl ⟨Eq.refl true, fun w1 hSw => (by show (execOp _ (⟨_, .fieldAddr 46 (.tmp 126) 0, _, _, _, _⟩ : Oper)).run _ _ = _; exact (by unfold execOp; simp only [h680.ev 126 rfl]; exact run_v (fa46g_0 _ _ _)))⟩) fun a683 h682 => ?_
    refine wpk_take hS1 h682 8 rfl rfl (by decide) (fr rfl) (by kernel_rfl) (by kernel_rfl) (by kernel_rfl) (fun _ _ _ _ h => h) (.int .i64 q0.at_) (Or.inl ⟨Eq.refl true, fun w1 hSw => (by show (execOp _ (⟨_, .load 3 (.tmp 127), _, _, _, _⟩ : Oper)).run _ _ = _; exact (by unfold execOp; simp only [h682.ev 127 rfl]; exact run_v (loadIP (by rw [HQ.out]; exact (rowPt_cells hSw.2.row hltL hqa).1))))⟩) fun a685 h684 => ?_
    refine wpk_take hS1 h684 9 rfl rfl (by decide) (fr rfl) (by kernel_rfl) (by kernel_rfl) (by kernel_rfl) (fun _ _ _ _ h => h) (.slice aa A.length ac) (Or.inl ⟨Eq.refl true, fun w1 hSw => (by show (execOp _ (⟨_, .move (.tmp 9), _, _, _, _⟩ : Oper)).run _ _ = _; exact (by unfold execOp; simp only [h684.ev 9 rfl]; exact rfl))⟩) fun a687 h686 => ?_
    refine wpk_take hS1 h686 10 rfl rfl (by decide) (fr rfl) (by kernel_rfl) (by kernel_rfl) (by kernel_rfl) (fun _ _ _ _ h => h) (.int .i64 (i : Int)) (Or.inl ⟨Eq.refl true, fun w1 hSw => (by show (execOp _ (⟨_, .move (.tmp 16), _, _, _, _⟩ : Oper)).run _ _ = _; exact (by unfold execOp; simp only [h686.ev 16 rfl]; exact rfl))⟩) fun a689 h688 => ?_
    refine wpk_take hS1 h688 11 rfl rfl (by decide) (fr rfl) (by kernel_rfl) (by kernel_rfl) (by kernel_rfl) (fun _ _ _ _ h => h) (.pointer (some ⟨qb, qo + i * 2, none⟩)) (Or.inl ⟨Eq.refl true, fun w1 hSw => (by show (execOp _ (⟨_, .indexAddr 22 (.tmp 129) (.tmp 130), _, _, _, _⟩ : Oper)).run _ _ = _; exact (by unfold execOp; simp only [h688.ev 129 rfl, h688.ev 130 rfl]; exact run_v (by rw [hqa]; exact ixP qb qo _ ac i hltL _)))⟩) fun a691 h690 => ?_
    refine wpk_take hS1 h690 12 rfl rfl (by decide) (fr rfl) (by kernel_rfl) (by kernel_rfl) (by kernel_rfl) (fun _ _ _ _ h => h) (.pointer (some ⟨qb, qo + i * 2 + 1, none⟩)) (Or.inl ⟨Eq.refl true, fun w1 hSw => (by show (execOp _ (⟨_, .fieldAddr 46 (.tmp 131) 1, _, _, _, _⟩ : Oper)).run _ _ = _; exact (by unfold execOp; simp only [h690.ev 131 rfl]; exact run_v (fa46g_1 _ _ _)))⟩) fun a693 h692 => ?_
    refine wpk_take hS1 h692 13 rfl rfl (by decide) (fr rfl) (by kernel_rfl) (by kernel_rfl) (by kernel_rfl) (fun _ _ _ _ h => h) (strB q0.d) (Or.inl ⟨Eq.refl true, fun w1 hSw => (by show (execOp _ (⟨_, .load 9 (.tmp 132), _, _, _, _⟩ : Oper)).run _ _ = _; exact (by unfold execOp; simp only [h692.ev 132 rfl]; exact run_v (loadSP (by rw [HQ.out]; exact (rowPt_cells hSw.2.row hltL hqa).2))))⟩) fun a695 h694 => ?_
    obtain ⟨yc, wy, hcv, hry, by_⟩ := bytes_of_str wb.drew q0.d hq0d
    refine wpk_only 14 rfl rfl (by kernel_rfl) fun KK hK => op_val (w' := wy) h694 rfl (by decide) (fr rfl) (.slice (some ⟨wb.drew.heap.size, 0, none⟩) q0.d.length yc) (by show (execOp _ (⟨_, .convert 9 24 (.tmp 133), _, _, _, _⟩ : Oper)).run _ _ = _; exact (by unfold execOp; simp only [h694.ev 133 rfl]; exact run_v hcv)) fun a697 h696 => hK _ _ (⟨hS1.1.mono by_, Own.mono hS1.2 by_⟩) fun hS2 => ?_
    clear hK KK
    have TPy := hid (TPd0.out.mono by_); have HBy := hid (kept_trans HBd0.out by_); have hBy : B2 ≤ wy.heap.size := Nat.le_trans hBd0 by_.size; clear by_
    refine wpk_only 15 rfl rfl (by kernel_rfl) fun KK hK => op_call h696 rfl (by decide) (fr rfl) (fun args => callP_23 args _) rfl #[.pointer (some ⟨K2.g, 0, none⟩), .int .i64 q0.at_, .slice (some ⟨wb.drew.heap.size, 0, none⟩) q0.d.length yc] (by simp only [List.map_toArray, List.map_cons, List.map_nil, h696.ev 123 rfl, h696.ev 128 rfl, h696.ev 134 rfl]) (R := fun v' w' => LogP w' K2.lg K2.g K2.v K2.d K2.p 512 512 (stU N q0) ∧ Turns (XM K2.v K2.d K2.p) wy w') ((store_u TPy.out.r.m q0.at_ hq0a (some ⟨wb.drew.heap.size, 0, none⟩) yc q0.d hry).mono fun e w' q => ⟨_, q.1, TPy.out.r.next q.2.1 q.2.2 (by intro k hk; rcases hk with e | e; exact .inl e; exact .inr (.inr e)), q.2.2.mono (by intro k hk; rcases hk with e | e; exact .inl e; exact .inr (.inr e))⟩) fun a699 vs wt rt h698 => hK _ _ (⟨(TPy.out.right rt.1 rt.2).b2, rt.2.own hS2.2 (by intro k hk; exact hltX2 k hk)⟩) fun hS3 => ?_
    clear hK KK
    have TPt := hid (TPy.out.right rt.1 rt.2); have HBt := hid (below_X HBy.out rt.2 hB2 hx2); have HAt := hid hS3.2; have hBt : B2 ≤ wt.heap.size := Nat.le_trans hBy rt.2.size; clear rt
    refine wpAnyH_done (by kernel_rfl) ?_ _
    have h700 := h698.subs (l' := [(16, _), (9, _), (7, _), (8, _), (1, _), (2, _)]) rfl
    clear h698
    iterate 3 go_step
    refine wmk h700 rfl rfl rfl rfl 16 rfl (fun _ => rfl) fun a702 h701 => ?_
    refine wv h701 rfl rfl rfl rfl (.int .i64 ((i + 1 : Nat) : Int)) (by unfold execOp; simp only [h701.ev 118 rfl]; exact run_v (addIP _ _ i (by omega) _)) fun a704 h703 => ?_
    have h705 := h703.subs (l' := [(119, _), (118, _), (9, _), (7, _), (8, _), (1, _), (2, _)]) rfl
    clear h703
    refine wmk h705 rfl rfl rfl rfl 119 rfl (fun _ => rfl) fun a707 h706 => ?_
    have h708 := h706.subs (l' := [(16, _), (9, _), (7, _), (8, _), (1, _), (2, _)]) rfl
    clear h706
    iterate 2 go_step
    refine ⟨⟨i + 1, stU N q0, by omega, hst.symm, h708.subs rfl, TPt.out, HAt.out, HBt.out, hBt⟩, ?_⟩
    rw [h708.ev 16 rfl, hK3.ev 16 rfl]; simp [intOf]; omega
  rintro ar ws ⟨j, N, hj, hN, hQ2, htp, hb⟩
  have TPs := hid htp; have HBs := hid hb; clear htp hb
  have hinA : ∀ p ∈ A, inR p = true := fun p hp => (hinA0 p hp).1
  obtain ⟨J, hJ⟩ : ∃ J, J = I.take 200 := ⟨_, rfl⟩
  have HJ : Hid (RowI w ia ic J) := hid (by rw [hJ]; exact rowI_take9 HIS.out 200)
  have hJok : intsOk J := fun y hy => hIok y (List.mem_of_mem_take (by rw [← hJ]; exact hy))
  refine wp_join9 (J := fun a' w' => Kn 201 [(7, .pointer (some ⟨K1.pp, 0, none⟩)), (8, .pointer (some ⟨K2.pp, 0, none⟩)), (2, .slice ia J.length ic)] a' ∧ ws = w') ?_ ?_
  case refine_1 =>
    by_cases hp2 : 200 < I.length
    · have hbig : decide ((200 : Int) < (I.length : Int)) = true := decide_eq_true (by omega)
      iterate 3 go_step
      refine wmk hQ2 rfl rfl rfl rfl 2 rfl (fun _ => rfl) fun a710 h709 => ?_
      refine wv h709 rfl rfl rfl rfl (.int .i64 (I.length : Int)) (run_lenIS rfl (h709.ev 136 rfl) _) fun a712 h711 => ?_
      refine wv h711 rfl rfl rfl rfl (.bool true) (by unfold execOp; simp only [h711.ev 137 rfl]; exact run_v (gtIP _ _ _ _ _ hbig)) fun a714 h713 => ?_
      have h715 := h713.subs (l' := [(138, _), (7, _), (8, _), (2, _)]) rfl
      clear h713
      iterate 3 go_step
      refine wp_cond (t := true) (h715.ev 138 rfl) ?_
      simp only [if_true]
      have h716 := h715.subs (l' := [(7, _), (8, _), (2, _)]) rfl
      clear h715
      go_step
      refine wmk h716 rfl rfl rfl rfl 2 rfl (fun _ => rfl) fun a718 h717 => ?_
      refine wv h717 rfl rfl rfl rfl (.slice ia 200 ic) (by unfold execOp; simp only [Option.map_some, Option.map_none, h717.ev 139 rfl]; exact run_v (sliceHI9 HIS.out 200 (by omega) _)) fun a720 h719 => ?_
      have h721 := h719.subs (l' := [(140, _), (139, _), (7, _), (8, _)]) rfl
      clear h719
      refine wmk h721 rfl rfl rfl rfl 140 rfl (fun _ => rfl) fun a723 h722 => ?_
      have h724 := h722.subs (l' := [(2, _), (7, _), (8, _)]) rfl
      clear h722
      iterate 2 go_step
      have hJl : J.length = 200 := by rw [hJ, List.length_take]; omega
      rw [← hJl] at h724
      exact ⟨h724.subs rfl, rfl⟩
    · have hbig : decide ((200 : Int) < (I.length : Int)) = false := decide_eq_false (by omega)
      iterate 3 go_step
      refine wmk hQ2 rfl rfl rfl rfl 2 rfl (fun _ => rfl) fun a726 h725 => ?_
      refine wv h725 rfl rfl rfl rfl (.int .i64 (I.length : Int)) (run_lenIS rfl (h725.ev 136 rfl) _) fun a728 h727 => ?_
      refine wv h727 rfl rfl rfl rfl (.bool false) (by unfold execOp; simp only [h727.ev 137 rfl]; exact run_v (gtIP _ _ _ _ _ hbig)) fun a730 h729 => ?_
      have h731 := h729.subs (l' := [(138, _), (7, _), (8, _), (2, _)]) rfl
      clear h729
      iterate 3 go_step
      refine wp_cond (t := false) (h731.ev 138 rfl) ?_
      simp only [Bool.false_eq_true, if_false]
      have h732 := h731.subs (l' := [(7, _), (8, _), (2, _)]) rfl
      clear h731
      iterate 2 go_step
      have hJl : J.length = I.length := by rw [hJ, List.length_take]; omega
      rw [← hJl] at h732
      exact ⟨h732.subs rfl, rfl⟩
  rintro aj wj ⟨hQ3, rfl⟩
  iterate 2 go_step
  refine wmk hQ3 rfl rfl rfl rfl 8 rfl (fun _ => rfl) fun a734 h733 => ?_
  refine wv h733 rfl rfl rfl rfl (.pointer (some ⟨K2.pp, 0, none⟩)) (by unfold execOp; simp only [h733.ev 141 rfl]; exact rfl) fun a736 h735 => ?_
  refine wv h735 rfl rfl rfl rfl (.pointer (some ⟨K2.pp, 0, none⟩)) (by unfold execOp; simp only [h735.ev 142 rfl]; exact run_v (fa_50_0_0 (K2.pp) _)) fun a738 h737 => ?_
  refine wv h737 rfl rfl rfl rfl (.pointer (some ⟨K2.g, 0, none⟩)) (by unfold execOp; simp only [h737.ev 143 rfl]; exact run_v (loadMP (TPs.out.b2.cell (i := 0) (by show 0 < 4; omega)))) fun a740 h739 => ?_
  refine wmk h739 rfl rfl rfl rfl 2 rfl (fun _ => rfl) fun a742 h741 => ?_
  refine wpk_call h741 (wanted_none rfl) rfl (by decide) (fr rfl) (fun args => callP_24 args _) rfl #[.pointer (some ⟨K2.g, 0, none⟩), .slice ia J.length ic] (by simp only [List.map_toArray, List.map_cons, List.map_nil, h741.ev 144 rfl, h741.ev 145 rfl]) (R := fun v' w' => LogP w' K2.lg K2.g K2.v K2.d K2.p 512 512 (crashM N J) ∧ Turns (XM K2.v K2.d K2.p) ws w') ((crash_any TPs.out.r.m J ia ic (HJ.out.below HBs.out) hJok (fun hn k hk => by obtain ⟨off, e⟩ := hk; have z := rowLt9 HJ.out hn e; have z2 := hx2 k; intro e2; have z3 := hx2 K2.d (.inr (.inl rfl)); omega)).mono fun e w' q => by obtain ⟨⟨y, q1⟩, q2, q3⟩ := q; exact ⟨y, q1, TPs.out.r.next q2 q3 (by intro k hk; exact hk), q3⟩) fun a744 vc wc rc h743 => ?_
  have TPc := hid (TPs.out.right rc.1 rc.2); have HBc := hid (below_X HBs.out rc.2 hB2 hx2); clear rc
  have hNok : N.ok := TPs.out.r.m.1
  have htw := twice hMok hMD hlenM A hFA hinA j J (by rw [← hN]; exact hNok)
  rw [← hN] at htw
  obtain ⟨htl, htd, hcl⟩ := htw
  have h745 := h743.subs (l' := [(7, _), (8, _), (2, _)]) rfl
  clear h743
  iterate 5 go_step
  refine wmk h745 rfl rfl rfl rfl 7 rfl (fun _ => rfl) fun a747 h746 => ?_
  refine wv h746 rfl rfl rfl rfl (.pointer (some ⟨K1.pp, 0, none⟩)) (by unfold execOp; simp only [h746.ev 147 rfl]; exact rfl) fun a749 h748 => ?_
  refine wv h748 rfl rfl rfl rfl (.pointer (some ⟨K1.pp, 1, none⟩)) (by unfold execOp; simp only [h748.ev 148 rfl]; exact run_v (fa_50_0_1 (K1.pp) _)) fun a751 h750 => ?_
  refine wv h750 rfl rfl rfl rfl (.pointer (some ⟨K1.lg, 0, none⟩)) (by unfold execOp; simp only [h750.ev 149 rfl]; exact run_v (loadLP (TPc.out.b1.cell (i := 1) (by show 1 < 4; omega)))) fun a753 h752 => ?_
  refine wpk_call h752 (wanted_none rfl) rfl (by decide) (fr rfl) (fun args => callP_25 args _) rfl #[.pointer (some ⟨K1.lg, 0, none⟩)] (by simp only [List.map_toArray, List.map_cons, List.map_nil, h752.ev 150 rfl]) (R := fun v' w' => v' = .int .i64 ((logR M.V 512 512).1.length : Int) ∧ LogP w' K1.lg K1.g K1.v K1.d K1.p 512 512 (redoM M 512 512) ∧ Turns (XM K1.v K1.d K1.p) wc w') (redo_any TPc.out.l (logOk_of9 hlenM)) fun a755 vd wd rd h754 => ?_
  obtain ⟨rfl, ld, td⟩ := rd; have TPd := hid (TPc.out.left ld td); have HBd := hid (below_X HBc.out td hB2 hx1); clear ld td
  refine wmk h754 rfl rfl rfl rfl 151 rfl (fun _ => rfl) fun a757 h756 => ?_
  have h758 := h756.subs (l' := [(17, _), (7, _), (8, _), (2, _)]) rfl
  clear h756
  iterate 5 go_step
  refine wmk h758 rfl rfl rfl rfl 8 rfl (fun _ => rfl) fun a760 h759 => ?_
  refine wv h759 rfl rfl rfl rfl (.pointer (some ⟨K2.pp, 0, none⟩)) (by unfold execOp; simp only [h759.ev 152 rfl]; exact rfl) fun a762 h761 => ?_
  refine wv h761 rfl rfl rfl rfl (.pointer (some ⟨K2.pp, 1, none⟩)) (by unfold execOp; simp only [h761.ev 153 rfl]; exact run_v (fa_50_0_1 (K2.pp) _)) fun a764 h763 => ?_
  refine wv h763 rfl rfl rfl rfl (.pointer (some ⟨K2.lg, 0, none⟩)) (by unfold execOp; simp only [h763.ev 154 rfl]; exact run_v (loadLP (TPd.out.b2.cell (i := 1) (by show 1 < 4; omega)))) fun a766 h765 => ?_
  refine wpk_call h765 (wanted_none rfl) rfl (by decide) (fr rfl) (fun args => callP_25 args _) rfl #[.pointer (some ⟨K2.lg, 0, none⟩)] (by simp only [List.map_toArray, List.map_cons, List.map_nil, h765.ev 155 rfl]) (R := fun v' w' => v' = .int .i64 ((logR (crashM N J).V 512 512).1.length : Int) ∧ LogP w' K2.lg K2.g K2.v K2.d K2.p 512 512 (redoM (crashM N J) 512 512) ∧ Turns (XM K2.v K2.d K2.p) wd w') (redo_any TPd.out.r (logOk_of9 hcl)) fun a768 ve we re h767 => ?_
  obtain ⟨rfl, le_, te⟩ := re; rw [htl] at h767; have TPe := hid (TPd.out.right le_ te); have HBe := hid (below_X HBd.out te hB2 hx2); clear le_ te
  refine wmk h767 rfl rfl rfl rfl 156 rfl (fun _ => rfl) fun a770 h769 => ?_
  have h771 := h769.subs (l' := [(18, _), (17, _), (7, _), (8, _), (2, _)]) rfl
  clear h769
  iterate 5 go_step
  refine wmk h771 rfl rfl rfl rfl 7 rfl (fun _ => rfl) fun a773 h772 => ?_
  refine wv h772 rfl rfl rfl rfl (.pointer (some ⟨K1.pp, 0, none⟩)) (by unfold execOp; simp only [h772.ev 158 rfl]; exact rfl) fun a775 h774 => ?_
  refine wv h774 rfl rfl rfl rfl (.pointer (some ⟨K1.pp, 0, none⟩)) (by unfold execOp; simp only [h774.ev 159 rfl]; exact run_v (fa_50_0_0 (K1.pp) _)) fun a777 h776 => ?_
  refine wv h776 rfl rfl rfl rfl (.pointer (some ⟨K1.g, 0, none⟩)) (by unfold execOp; simp only [h776.ev 160 rfl]; exact run_v (loadMP (TPe.out.b1.cell (i := 0) (by show 0 < 4; omega)))) fun a779 h778 => ?_
  refine wpk_call h778 (wanted_none rfl) rfl (by decide) (fr rfl) (fun args => callP_26 args _) rfl #[.pointer (some ⟨K1.g, 0, none⟩), .int .i64 0, .int .i64 512] (by simp only [List.map_toArray, List.map_cons, List.map_nil, h778.ev 161 rfl]; rfl) (R := fun v' w' => ∃ x y, v' = .tuple #[.slice x 512 y, .int .i64 0] ∧ RowB w' x y ((redoM M 512 512).D.take 512) ∧ Below we.heap.size we w') ((lasts512 TPe.out.l.m (by rw [redoM_len]; exact hlenM)).mono fun e w' q => by obtain ⟨x, y, q1, q2, q3⟩ := q; exact ⟨_, q1, x, y, rfl, q2, q3⟩) fun a781 vf wf rf h780 => ?_
  obtain ⟨fa, fc, rfl, of, bf⟩ := rf; have TPf := hid (TPe.out.mono bf); have HBf := hid (kept_trans HBe.out bf); have RF := hid of; clear of bf
  refine wmk h780 rfl rfl rfl rfl 162 rfl (fun _ => rfl) fun a783 h782 => ?_
  refine wv h782 rfl rfl rfl rfl (.slice fa 512 fc) (by unfold execOp; simp only [h782.ev 157 rfl]; exact rfl) fun a785 h784 => ?_
  refine wv h784 rfl rfl rfl rfl (.int .i64 0) (by unfold execOp; simp only [h784.ev 157 rfl]; exact rfl) fun a787 h786 => ?_
  refine wmk h786 rfl rfl rfl rfl 163 rfl (fun _ => rfl) fun a789 h788 => ?_
  refine wmk h788 rfl rfl rfl rfl 164 rfl (fun _ => rfl) fun a791 h790 => ?_
  have h792 := h790.subs (l' := [(19, _), (18, _), (17, _), (7, _), (8, _), (2, _)]) rfl
  clear h790
  iterate 5 go_step
  refine wmk h792 rfl rfl rfl rfl 8 rfl (fun _ => rfl) fun a794 h793 => ?_
  refine wv h793 rfl rfl rfl rfl (.pointer (some ⟨K2.pp, 0, none⟩)) (by unfold execOp; simp only [h793.ev 166 rfl]; exact rfl) fun a796 h795 => ?_
  refine wv h795 rfl rfl rfl rfl (.pointer (some ⟨K2.pp, 0, none⟩)) (by unfold execOp; simp only [h795.ev 167 rfl]; exact run_v (fa_50_0_0 (K2.pp) _)) fun a798 h797 => ?_
  refine wv h797 rfl rfl rfl rfl (.pointer (some ⟨K2.g, 0, none⟩)) (by unfold execOp; simp only [h797.ev 168 rfl]; exact run_v (loadMP (TPf.out.b2.cell (i := 0) (by show 0 < 4; omega)))) fun a800 h799 => ?_
  refine wpk_call h799 (wanted_none rfl) rfl (by decide) (fr rfl) (fun args => callP_26 args _) rfl #[.pointer (some ⟨K2.g, 0, none⟩), .int .i64 0, .int .i64 512] (by simp only [List.map_toArray, List.map_cons, List.map_nil, h799.ev 169 rfl]; rfl) (R := fun v' w' => ∃ x y, v' = .tuple #[.slice x 512 y, .int .i64 0] ∧ RowB w' x y ((redoM (crashM N J) 512 512).D.take 512) ∧ Below wf.heap.size wf w') ((lasts512 TPf.out.r.m (by rw [redoM_len]; exact hcl)).mono fun e w' q => by obtain ⟨x, y, q1, q2, q3⟩ := q; exact ⟨_, q1, x, y, rfl, q2, q3⟩) fun a802 vg wg rg h801 => ?_
  obtain ⟨ga, gc, rfl, og, bg⟩ := rg; rw [htd] at og; have TPg := hid (TPf.out.mono bg); have HBg := hid (kept_trans HBf.out bg); have RG := hid og; have RF := hid (Row.mono RF.out bg); clear og bg
  refine wmk h801 rfl rfl rfl rfl 170 rfl (fun _ => rfl) fun a804 h803 => ?_
  refine wv h803 rfl rfl rfl rfl (.slice ga 512 gc) (by unfold execOp; simp only [h803.ev 165 rfl]; exact rfl) fun a806 h805 => ?_
  refine wv h805 rfl rfl rfl rfl (.int .i64 0) (by unfold execOp; simp only [h805.ev 165 rfl]; exact rfl) fun a808 h807 => ?_
  refine wmk h807 rfl rfl rfl rfl 171 rfl (fun _ => rfl) fun a810 h809 => ?_
  refine wmk h809 rfl rfl rfl rfl 172 rfl (fun _ => rfl) fun a812 h811 => ?_
  have h813 := h811.subs (l' := [(21, _), (19, _), (18, _), (17, _), (7, _), (8, _), (2, _)]) rfl
  clear h811
  iterate 5 go_step
  refine wmk h813 rfl rfl rfl rfl 19 rfl (fun _ => rfl) fun a815 h814 => ?_
  refine wmk h814 rfl rfl rfl rfl 21 rfl (fun _ => rfl) fun a817 h816 => ?_
  refine wpk_call h816 (wanted_none rfl) rfl (by decide) (fr rfl) (fun args => callP_12 args _) rfl #[.slice fa 512 fc, .slice ga 512 gc] (by simp only [List.map_toArray, List.map_cons, List.map_nil, h816.ev 173 rfl, h816.ev 174 rfl]) (R := fun v' w' => v' = .bool true ∧ Below wg.heap.size wg w') ((same512 RF.out RG.out (by rw [List.length_take]; have := redoM_ok hMok 512 512; rw [this.1, redoM_len]; omega)).mono fun e w' q => ⟨_, q.1, rfl, q.2⟩) fun a819 vh wh rh h818 => ?_
  obtain ⟨rfl, bh⟩ := rh; have TPh := hid (TPg.out.mono bh); have HBh := hid (kept_trans HBg.out bh); clear bh
  refine wmk h818 rfl rfl rfl rfl 175 rfl (fun _ => rfl) fun a821 h820 => ?_
  have h822 := h820.subs (l' := [(23, _), (21, _), (19, _), (18, _), (17, _), (7, _), (8, _), (2, _)]) rfl
  clear h820
  iterate 5 go_step
  refine wmk h822 rfl rfl rfl rfl 23 rfl (fun _ => rfl) fun a824 h823 => ?_
  refine wmk h823 rfl rfl rfl rfl 176 rfl (fun _ => rfl) fun a826 h825 => ?_
  refine wpk_val h825 (by rw [wanted_of (g := 1) (want := true) (b := true) rfl (h825.yields (prev := 177) rfl (by simp))]; rfl) rfl (by decide) (fr rfl) (.int .i64 ((logR M.V 512 512).1.length : Int)) (by unfold execOp; simp only [h825.ev 17 rfl]; rfl) fun a828 h827 => ?_
  refine wpk_val h827 (by rw [wanted_of (g := 1) (want := true) (b := true) rfl (h827.yields (prev := 177) rfl (by simp))]; rfl) rfl (by decide) (fr rfl) (.int .i64 ((logR M.V 512 512).1.length : Int)) (by unfold execOp; simp only [h827.ev 18 rfl]; rfl) fun a830 h829 => ?_
  refine wpk_val h829 (by rw [wanted_of (g := 1) (want := true) (b := true) rfl (h829.yields (prev := 177) rfl (by simp))]; rfl) rfl (by decide) (fr rfl) (.bool true) (by unfold execOp; simp only [h829.ev 178 rfl, h829.ev 179 rfl]; exact run_v (eqIP _ _ _ _ _ (by simp))) fun a832 h831 => ?_
  refine wv h831 rfl rfl rfl rfl (.bool true) (run_pick rfl (h831.ev 177 rfl) (by rw [if_pos rfl]; exact h831.ev 180 rfl)) fun a834 h833 => ?_
  refine wmk h833 rfl rfl rfl rfl 181 rfl (fun _ => rfl) fun a836 h835 => ?_
  refine wpk_val h835 (by rw [wanted_of (g := 6) (want := true) (b := true) rfl (h835.yields (prev := 182) rfl (by simp))]; rfl) rfl (by decide) (fr rfl) (.pointer (some ⟨K1.pp, 0, none⟩)) (by unfold execOp; simp only [h835.ev 7 rfl]; rfl) fun a838 h837 => ?_
  refine wpk_val h837 (by rw [wanted_of (g := 6) (want := true) (b := true) rfl (h837.yields (prev := 182) rfl (by simp))]; rfl) rfl (by decide) (fr rfl) (.pointer (some ⟨K1.pp, 0, none⟩)) (by unfold execOp; simp only [h837.ev 183 rfl]; exact rfl) fun a840 h839 => ?_
  refine wpk_val h839 (by rw [wanted_of (g := 6) (want := true) (b := true) rfl (h839.yields (prev := 182) rfl (by simp))]; rfl) rfl (by decide) (fr rfl) (.pointer (some ⟨K1.pp, 1, none⟩)) (by unfold execOp; simp only [h839.ev 184 rfl]; exact run_v (fa_50_0_1 (K1.pp) _)) fun a842 h841 => ?_
  refine wpk_val h841 (by rw [wanted_of (g := 6) (want := true) (b := true) rfl (h841.yields (prev := 182) rfl (by simp))]; rfl) rfl (by decide) (fr rfl) (.pointer (some ⟨K1.lg, 0, none⟩)) (by unfold execOp; simp only [h841.ev 185 rfl]; exact run_v (loadLP (TPh.out.b1.cell (i := 1) (by show 1 < 4; omega)))) fun a844 h843 => ?_
  refine wpk_call h843 (by rw [wanted_of (g := 6) (want := true) (b := true) rfl (h843.yields (prev := 182) rfl (by simp))]; rfl) rfl (by decide) (fr rfl) (fun args => callP_27 args _) rfl #[.pointer (some ⟨K1.lg, 0, none⟩)] (by simp only [List.map_toArray, List.map_cons, List.map_nil, h843.ev 186 rfl]) (R := fun v' w' => v' = .int .i64 (endL (redoM M 512 512).V 512 512 : Int) ∧ Below wh.heap.size wh w') (end_any TPh.out.l (logOk_redo (logOk_of9 hlenM))) fun a846 vx0 wx0 rx0 h845 => ?_
  obtain ⟨rfl, bx0⟩ := rx0; rw [endL_redo (logOk_of9 hlenM)] at h845; have TPx0 := hid (TPh.out.mono bx0); have HBx0 := hid (kept_trans HBh.out bx0); clear bx0
  refine wpk_val h845 (by rw [wanted_of (g := 6) (want := true) (b := true) rfl (h845.yields (prev := 182) rfl (by simp))]; rfl) rfl (by decide) (fr rfl) (.bool true) (by unfold execOp; simp only [h845.ev 187 rfl]; exact run_v (eqIP _ _ _ _ _ (by simp))) fun a848 h847 => ?_
  refine wv h847 rfl rfl rfl rfl (.bool true) (run_pick rfl (h847.ev 182 rfl) (by rw [if_pos rfl]; exact h847.ev 188 rfl)) fun a850 h849 => ?_
  refine wmk h849 rfl rfl rfl rfl 189 rfl (fun _ => rfl) fun a852 h851 => ?_
  refine wpk_val h851 (by rw [wanted_of (g := 14) (want := true) (b := true) rfl (h851.yields (prev := 190) rfl (by simp))]; rfl) rfl (by decide) (fr rfl) (.pointer (some ⟨K2.pp, 0, none⟩)) (by unfold execOp; simp only [h851.ev 8 rfl]; rfl) fun a854 h853 => ?_
  refine wpk_val h853 (by rw [wanted_of (g := 14) (want := true) (b := true) rfl (h853.yields (prev := 190) rfl (by simp))]; rfl) rfl (by decide) (fr rfl) (.pointer (some ⟨K2.pp, 0, none⟩)) (by unfold execOp; simp only [h853.ev 191 rfl]; exact rfl) fun a856 h855 => ?_
  refine wpk_val h855 (by rw [wanted_of (g := 14) (want := true) (b := true) rfl (h855.yields (prev := 190) rfl (by simp))]; rfl) rfl (by decide) (fr rfl) (.pointer (some ⟨K2.pp, 1, none⟩)) (by unfold execOp; simp only [h855.ev 192 rfl]; exact run_v (fa_50_0_1 (K2.pp) _)) fun a858 h857 => ?_
  refine wpk_val h857 (by rw [wanted_of (g := 14) (want := true) (b := true) rfl (h857.yields (prev := 190) rfl (by simp))]; rfl) rfl (by decide) (fr rfl) (.pointer (some ⟨K2.lg, 0, none⟩)) (by unfold execOp; simp only [h857.ev 193 rfl]; exact run_v (loadLP (TPx0.out.b2.cell (i := 1) (by show 1 < 4; omega)))) fun a860 h859 => ?_
  refine wpk_call h859 (by rw [wanted_of (g := 14) (want := true) (b := true) rfl (h859.yields (prev := 190) rfl (by simp))]; rfl) rfl (by decide) (fr rfl) (fun args => callP_27 args _) rfl #[.pointer (some ⟨K2.lg, 0, none⟩)] (by simp only [List.map_toArray, List.map_cons, List.map_nil, h859.ev 194 rfl]) (R := fun v' w' => v' = .int .i64 (endL (redoM (crashM N J) 512 512).V 512 512 : Int) ∧ Below wx0.heap.size wx0 w') (end_any TPx0.out.r (logOk_redo (logOk_of9 hcl))) fun a862 vx1 wx1 rx1 h861 => ?_
  obtain ⟨rfl, bx1⟩ := rx1; rw [endL_redo (logOk_of9 hcl)] at h861; have HBx1 := hid (kept_trans HBx0.out bx1); clear bx1
  refine wpk_val h861 (by rw [wanted_of (g := 14) (want := true) (b := true) rfl (h861.yields (prev := 190) rfl (by simp))]; rfl) rfl (by decide) (fr rfl) (.bool true) (by unfold execOp; simp only [h861.ev 195 rfl]; exact run_v (eqIP _ _ _ _ _ (by simp))) fun a864 h863 => ?_
  refine wv h863 rfl rfl rfl rfl (.bool true) (run_pick rfl (h863.ev 190 rfl) (by rw [if_pos rfl]; exact h863.ev 196 rfl)) fun a866 h865 => ?_
  refine wmk h865 rfl rfl rfl rfl 197 rfl (fun _ => rfl) fun a868 h867 => ?_
  refine wpk_call h867 (by rw [wanted_of (g := 22) (want := true) (b := true) rfl (h867.yields (prev := 198) rfl (by simp))]; rfl) rfl (by decide) (fr rfl) (fun args => callP_13 args _) rfl #[] (by simp) (R := fun v' w' => v' = .bool true ∧ Below wx1.heap.size wx1 w') ((lives08_any _).mono fun e w' q => ⟨_, q.1, rfl, q.2⟩) fun a870 vx2 wx2 rx2 h869 => ?_
  obtain ⟨rfl, bx2⟩ := rx2; have HBx2 := hid (kept_trans HBx1.out bx2); clear bx2
  refine wv h869 rfl rfl rfl rfl (.bool true) (run_pick rfl (h869.ev 198 rfl) (by rw [if_pos rfl]; exact h869.ev 199 rfl)) fun a872 h871 => ?_
  refine wmk h871 rfl rfl rfl rfl 200 rfl (fun _ => rfl) fun a874 h873 => ?_
  have h875 := h873.subs (l' := [(6, _), (23, _), (21, _), (19, _), (18, _), (17, _), (7, _), (8, _), (2, _)]) rfl
  clear h873
  iterate 4 go_step
  exact bodyPost_ret (results_tmp1 rfl (h875.known (6, .bool true) (by simp))) h875.defs ⟨rfl, HBx2.out⟩
end Go.Proofs.YtkhhoognemjibaaDoor
