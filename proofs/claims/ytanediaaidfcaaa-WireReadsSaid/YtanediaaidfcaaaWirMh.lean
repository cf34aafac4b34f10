/- Merged: WirFx WirFw. -/
import Derived.Test.YtanediaaidfcaaaWirIn
/- Words for few: strings cut, lists of texts grown, over an abstract act. -/
namespace Go.Proofs.Ytanediaaidfcaaa
open Go.RowKit
set_option linter.unusedSimpArgs false
set_option linter.unusedVariables false

theorem Code.wp_weak {P : Program} {c : Code} {Q Q' : Exit → Act → World → Prop} {a : Act} {w : World} (h : c.wp P Q a w) (k : ∀ e a w, Q e a w → Q' e a w) : c.wp P Q' a w := fun b kk cs => by
  obtain ⟨e, a', w', hq, har⟩ := h b kk cs
  exact ⟨e, a', w', k _ _ _ hq, har⟩
/-- two ways that come to the same -/
theorem wp_join {P : Program} {c y : Code} {Q : Exit → Act → World → Prop} {a : Act} {w : World} (J : Act → World → Prop) (h1 : c.wp P (Exit.then J Q) a w) (h2 : ∀ a' w', J a' w' → y.wp P Q a' w') : (Code.seq c y).wp P Q a w :=
  wp_seq (Code.wp_weak h1 fun e a w hq => by
    cases e with
    | normal => exact h2 _ _ hq
    | _ => exact hq)
theorem ext_bsW (s : List UInt8) (n : Nat) : (bsW s).extract 0 n = bsW (s.take n) := by
  apply ByteArray.ext
  apply Array.toList_inj.1
  simp [bsW, ByteArray.data_extract]
theorem sliceStr (s : List UInt8) (n : Nat) (hn : n ≤ s.length) (w : World) : (Instr.sliceAt 9 (.string (bsW s)) none (some (.int .i64 (n : Int))) none).run Try.prog w = .ok (.string (bsW (s.take n))) w := by
  have u9 := Try.underlying9
  have hsz : (bsW s).size = s.length := strV_size s
  have e := ext_bsW s n
  have d0 : 0 ≤ (n : Int) := by omega
  have d1 : (n : Int) ≤ ((bsW s).size : Int) := by omega
  have d2 : n ≤ (bsW s).size := by omega
  go_simp
theorem run_lenStr {o : Oper} {x : Operand} (ho : o.op = .call { callee := .builtin .len, args := #[x], argTypes := #[9] }) {ρ : Operand → Value} {s : List UInt8} (hx : ρ x = .string (bsW s)) (w : World) : (execOp ρ o).run Try.prog w = .ok (.value (.int .i64 (s.length : Int))) w := by
  unfold execOp; rw [ho]
  have u3 := Try.underlying9
  have hsz : (bsW s).size = s.length := strV_size s
  simp [resolve, invoke, builtin, hx]
  go_simp
theorem gtIb (x y : Operand) (v u : Int) (w : World) {b : Bool} (h : decide (u < v) = b) : (do eqGuard .gtr 3 x y (.int .i64 v) (.int .i64 u); binOp .gtr 3 (.int .i64 v) (.int .i64 u) : Sem Value).run Try.prog w = .ok (.bool b) w := by
  have u3 := Try.underlying3
  have a3 := Try.isAgg3
  have z3 := Try.sizeOf3
  go_simp
theorem buildStr (s : ByteArray) (w : World) : (Instr.buildSlice 25 1 #[(0, .string s)]).run Try.prog w = .ok (.slice (some ⟨w.heap.size, 0, none⟩) 1 1) (w.alloc (.cells #[.string s] 9)) := by
  have u3 := Try.underlying25
  have u9 := Try.underlying9
  have z3 := Try.sizeOf9
  go_simp
theorem storeN {w : World} {g off : Nat} {u : Value} (h : w.cell? ⟨g, off, none⟩ = some u) (hz : w.frozen? ⟨g, off, none⟩ = false) (a : Option Addr) (n c : Nat) : (Instr.storeAt 25 (.pointer (some ⟨g, off, none⟩)) (.slice a n c)).run Try.prog w = .ok () (w.setCell ⟨g, off, none⟩ (.slice a n c)) := by
  have u3 := Try.underlying25
  have a3 := Try.isAgg25
  have z3 := Try.sizeOf25
  go_simp
theorem ESW : ElemT Try.prog 25 9 1 16 := elemT Try.underlying25 (z := .string ⟨#[]⟩) (by kernel_rfl) rfl (by omega)
end Go.Proofs.Ytanediaaidfcaaa
/- few of a packet. (genWirFw.py) -/
namespace Go.Proofs.Ytanediaaidfcaaa
open Go.RowKit
set_option linter.unusedSimpArgs false
set_option linter.unusedVariables false

def cutTo (P : PkM) (k : Nat) : PkM := ⟨P.I, fun o => if o ≤ k then (P.S o).take 150 else P.S o, P.N⟩
def fewP (P : PkM) : PkM := ⟨P.I, fun o => if o ≤ 12 then (P.S o).take 150 else P.S o, (P.N.take 20).map (List.take 20)⟩
theorem few_step (P : PkM) (j : Nat) (h1 : j < P.N.length) (h2 : j < 20) : j + 1 ≤ ((P.N.take 20).map (List.take 20)).length ∧ ((((P.N.take 20).map (List.take 20)).take (j + 1)).map strV = (((P.N.take 20).map (List.take 20)).take j).map strV ++ [.string (bsW (P.N[j].take 20))]) := by
  refine ⟨by simp; omega, ?_⟩
  have hl : j < ((P.N.take 20).map (List.take 20)).length := by simp; omega
  rw [List.take_add_one, List.getElem?_eq_getElem hl]
  simp [strV_eq]
theorem results_cell1' {P : Program} {fn : Func} {c : Nat} {T : TypeId} (h : fn.results = #[.cell c T]) {tmps : Array Value} {w : World} {g : Nat} {e : TypeId} {L : List Value} {k : TypeDesc} (hc : tmps[c]? = some (.pointer (some ⟨g, 0, none⟩))) (hb : Blk w g e L)
    (hu : P.underlying T = some k) (hk : k.isRow = true) (hn : (P.info? T).map (·.size) = some L.length) : (results fn tmps).run P w = .ok (.agg L.toArray) w :=
  results_cell1 h (by rw [Array.getD_eq_getD_getElem?, hc]; rfl) hb hu hk hn

set_option maxRecDepth 100000 in
set_option maxHeartbeats 4000000 in
theorem few_any (P : PkM) (a : Option Addr) (c : Nat) (w : World) (ha : Row w 1 a P.N.length c (P.N.map strV)) :
    Calls Try.prog 9 #[.agg (pkC P a P.N.length c).toArray] w fun e w' => ∃ na nc, e = .returned (.agg (pkC (fewP P) na (fewP P).N.length nc).toArray) ∧ PkO w w' (fewP P) na nc := by
  have HA := hid ha
  obtain ⟨L, hL⟩ : ∃ L, L = (P.N.take 20).map (List.take 20) := ⟨_, rfl⟩
  have hLL : L.length = min 20 P.N.length := by rw [hL]; simp
  have HL := hid hL; have HLL := hid hLL
  clear ha hL hLL
  go_enter Try.func9, Try.ntmps9
  go_step
  go_step
  go_step
  refine wpl_boxT rfl 35 _ rfl (pkC P a P.N.length c) rfl ?_
  intro w1 k1 b1 s1
  refine wpl_allocPk rfl rfl ?_
  intro w2 k2 b2 s2
  have nE : ¬ w.heap.size = w1.heap.size := by omega
  have KP0 : Hid (Blk w2 w.heap.size 35 (pkC (cutTo P 0) a P.N.length c)) := hid (k1.mono b2)
  have KR0 := hid k2; have BP0 := hid (kept_trans b1 b2); have B1 := hid b1
  clear k1 b1 s1 k2 b2 s2
  refine wpk_enter (N := 67) (l := [(2, .pointer (some ⟨w1.heap.size, 0, none⟩)), (1, .pointer (some ⟨w.heap.size, 0, none⟩))]) ⟨rfl, (by intro x hx; simp only [List.mem_cons, List.not_mem_nil, or_false] at hx; rcases hx with rfl | rfl <;> rfl), rfl⟩ fun a2 h1 => ?_
  go_step
  go_step
  go_step
  refine wp_join (J := fun a' w' => Kn 67 [(2, .pointer (some ⟨w1.heap.size, 0, none⟩)), (1, .pointer (some ⟨w.heap.size, 0, none⟩))] a' ∧ Blk w' w.heap.size 35 (pkC (cutTo P 7) a P.N.length c) ∧ Blk w' w1.heap.size 35 (pkC P0z none 0 0) ∧ Below w.heap.size w w') ?_ ?_
  · by_cases hlen : 150 < (P.S 7).length
    · have hd : decide ((150 : Int) < ((P.S 7).length : Int)) = true := decide_eq_true (by omega)
      go_step
      go_step
      go_step
      refine wpk_val h1 (wanted_none rfl) rfl (by decide) (by intro x hx; simp only [List.mem_cons, List.not_mem_nil, or_false] at hx; rcases hx with rfl | rfl <;> simp) (.pointer (some ⟨w.heap.size, 7, none⟩)) (by unfold execOp; simp only [h1.eval (k := 1) (v := .pointer (some ⟨w.heap.size, 0, none⟩)) (by simp)]; exact run_v (fa_35_0_7 (w.heap.size) _)) fun a4 h3 => ?_
      refine wpk_val h3 (wanted_none rfl) rfl (by decide) (by intro x hx; simp only [List.mem_cons, List.not_mem_nil, or_false] at hx; rcases hx with rfl | rfl | rfl <;> simp) (.string (bsW (P.S 7))) (by unfold execOp; simp only [h3.eval (k := 6) (v := .pointer (some ⟨w.heap.size, 7, none⟩)) (by simp)]; exact run_v (loadS (KP0.out.cell (i := 7) (by show 7 < 43; omega)))) fun a6 h5 => ?_
      refine wpk_val h5 (wanted_none rfl) rfl (by decide) (by intro x hx; simp only [List.mem_cons, List.not_mem_nil, or_false] at hx; rcases hx with rfl | rfl | rfl | rfl <;> simp) (.int .i64 ((P.S 7).length : Int)) (run_lenStr rfl (h5.eval (k := 7) (v := .string (bsW (P.S 7))) (by simp)) _) fun a8 h7 => ?_
      refine wpk_val h7 (wanted_none rfl) rfl (by decide) (by intro x hx; simp only [List.mem_cons, List.not_mem_nil, or_false] at hx; rcases hx with rfl | rfl | rfl | rfl | rfl <;> simp) (.bool true) (by unfold execOp; simp only [h7.eval (k := 8) (v := .int .i64 ((P.S 7).length : Int)) (by simp)]; exact run_v (gtIb _ _ _ _ _ hd)) fun a10 h9 => ?_
      have h11 := h9.sub (l' := [(9, .bool true), (2, .pointer (some ⟨w1.heap.size, 0, none⟩)), (1, .pointer (some ⟨w.heap.size, 0, none⟩))]) (by intro x hx; simp only [List.mem_cons, List.not_mem_nil, or_false] at hx; rcases hx with rfl | rfl | rfl <;> simp)
      clear h9
      go_step
      go_step
      go_step
      refine wp_cond (t := true) (h11.eval (k := 9) (v := .bool true) (by simp)) ?_
      simp only [if_true]
      have h12 := h11.sub (l' := [(2, .pointer (some ⟨w1.heap.size, 0, none⟩)), (1, .pointer (some ⟨w.heap.size, 0, none⟩))]) (by intro x hx; simp only [List.mem_cons, List.not_mem_nil, or_false] at hx; rcases hx with rfl | rfl <;> simp)
      clear h11
      go_step
      refine wpk_val h12 (wanted_none rfl) rfl (by decide) (by intro x hx; simp only [List.mem_cons, List.not_mem_nil, or_false] at hx; rcases hx with rfl | rfl <;> simp) (.pointer (some ⟨w.heap.size, 7, none⟩)) (by unfold execOp; simp only [h12.eval (k := 1) (v := .pointer (some ⟨w.heap.size, 0, none⟩)) (by simp)]; exact run_v (fa_35_0_7 (w.heap.size) _)) fun a14 h13 => ?_
      refine wpk_val h13 (wanted_none rfl) rfl (by decide) (by intro x hx; simp only [List.mem_cons, List.not_mem_nil, or_false] at hx; rcases hx with rfl | rfl | rfl <;> simp) (.string (bsW (P.S 7))) (by unfold execOp; simp only [h13.eval (k := 10) (v := .pointer (some ⟨w.heap.size, 7, none⟩)) (by simp)]; exact run_v (loadS (KP0.out.cell (i := 7) (by show 7 < 43; omega)))) fun a16 h15 => ?_
      refine wpk_val h15 (wanted_none rfl) rfl (by decide) (by intro x hx; simp only [List.mem_cons, List.not_mem_nil, or_false] at hx; rcases hx with rfl | rfl | rfl | rfl <;> simp) (.string (bsW ((P.S 7).take 150))) (by unfold execOp; simp only [h15.eval (k := 11) (v := .string (bsW (P.S 7))) (by simp)]; exact run_v (sliceStr (P.S 7) 150 (by omega) _)) fun a18 h17 => ?_
      refine wpk_val h17 (wanted_none rfl) rfl (by decide) (by intro x hx; simp only [List.mem_cons, List.not_mem_nil, or_false] at hx; rcases hx with rfl | rfl | rfl | rfl | rfl <;> simp) (.pointer (some ⟨w.heap.size, 7, none⟩)) (by unfold execOp; simp only [h17.eval (k := 1) (v := .pointer (some ⟨w.heap.size, 0, none⟩)) (by simp)]; exact run_v (fa_35_0_7 (w.heap.size) _)) fun a20 h19 => ?_
      refine wpk_skipv h19 (wanted_none rfl) rfl (w' := w2.setCell ⟨w.heap.size, 7, none⟩ (.string (bsW ((P.S 7).take 150)))) (by unfold execOp; simp only [h19.eval (k := 13) (v := .pointer (some ⟨w.heap.size, 7, none⟩)) (by simp), h19.eval (k := 12) (v := .string (bsW ((P.S 7).take 150))) (by simp)]; exact run_u (storeS (KP0.out.cell (i := 7) (by show 7 < 43; omega)) (KP0.out.frozen 7) _)) fun a22 h21 => ?_
      have h23 := h21.sub (l' := [(2, .pointer (some ⟨w1.heap.size, 0, none⟩)), (1, .pointer (some ⟨w.heap.size, 0, none⟩))]) (by intro x hx; simp only [List.mem_cons, List.not_mem_nil, or_false] at hx; rcases hx with rfl | rfl <;> simp)
      clear h21
      go_step
      go_step
      exact ⟨h23, KP0.out.set 7 (.string (bsW ((P.S 7).take 150))), KR0.out.grownS (sg_set (sg_refl w2 (some w.heap.size)) 7 _) (fun e => nE e.symm), below_grownS BP0.out (sg_set (sg_refl w2 _) 7 _) (Nat.le_refl _) BP0.out.size⟩
    · have hd : decide ((150 : Int) < ((P.S 7).length : Int)) = false := decide_eq_false (by omega)
      go_step
      go_step
      go_step
      refine wpk_val h1 (wanted_none rfl) rfl (by decide) (by intro x hx; simp only [List.mem_cons, List.not_mem_nil, or_false] at hx; rcases hx with rfl | rfl <;> simp) (.pointer (some ⟨w.heap.size, 7, none⟩)) (by unfold execOp; simp only [h1.eval (k := 1) (v := .pointer (some ⟨w.heap.size, 0, none⟩)) (by simp)]; exact run_v (fa_35_0_7 (w.heap.size) _)) fun a25 h24 => ?_
      refine wpk_val h24 (wanted_none rfl) rfl (by decide) (by intro x hx; simp only [List.mem_cons, List.not_mem_nil, or_false] at hx; rcases hx with rfl | rfl | rfl <;> simp) (.string (bsW (P.S 7))) (by unfold execOp; simp only [h24.eval (k := 6) (v := .pointer (some ⟨w.heap.size, 7, none⟩)) (by simp)]; exact run_v (loadS (KP0.out.cell (i := 7) (by show 7 < 43; omega)))) fun a27 h26 => ?_
      refine wpk_val h26 (wanted_none rfl) rfl (by decide) (by intro x hx; simp only [List.mem_cons, List.not_mem_nil, or_false] at hx; rcases hx with rfl | rfl | rfl | rfl <;> simp) (.int .i64 ((P.S 7).length : Int)) (run_lenStr rfl (h26.eval (k := 7) (v := .string (bsW (P.S 7))) (by simp)) _) fun a29 h28 => ?_
      refine wpk_val h28 (wanted_none rfl) rfl (by decide) (by intro x hx; simp only [List.mem_cons, List.not_mem_nil, or_false] at hx; rcases hx with rfl | rfl | rfl | rfl | rfl <;> simp) (.bool false) (by unfold execOp; simp only [h28.eval (k := 8) (v := .int .i64 ((P.S 7).length : Int)) (by simp)]; exact run_v (gtIb _ _ _ _ _ hd)) fun a31 h30 => ?_
      have h32 := h30.sub (l' := [(9, .bool false), (2, .pointer (some ⟨w1.heap.size, 0, none⟩)), (1, .pointer (some ⟨w.heap.size, 0, none⟩))]) (by intro x hx; simp only [List.mem_cons, List.not_mem_nil, or_false] at hx; rcases hx with rfl | rfl | rfl <;> simp)
      clear h30
      go_step
      go_step
      go_step
      refine wp_cond (t := false) (h32.eval (k := 9) (v := .bool false) (by simp)) ?_
      simp only [Bool.false_eq_true, if_false]
      have h33 := h32.sub (l' := [(2, .pointer (some ⟨w1.heap.size, 0, none⟩)), (1, .pointer (some ⟨w.heap.size, 0, none⟩))]) (by intro x hx; simp only [List.mem_cons, List.not_mem_nil, or_false] at hx; rcases hx with rfl | rfl <;> simp)
      clear h32
      go_step
      go_step
      refine ⟨h33, ?_, KR0.out, BP0.out⟩
      have e : pkC (cutTo P 7) a P.N.length c = (pkC (cutTo P 0) a P.N.length c).set 7 (strV ((P.S 7).take 150)) := rfl
      rw [e, List.take_of_length_le (by omega)]; exact KP0.out
  rintro aJ1 wJ1 ⟨hJ1, kp, kr, bp⟩
  have KP1 := hid kp; have KR1 := hid kr; have BP1 := hid bp
  clear kp kr bp KP0 KR0 BP0
  refine wp_join (J := fun a' w' => Kn 67 [(2, .pointer (some ⟨w1.heap.size, 0, none⟩)), (1, .pointer (some ⟨w.heap.size, 0, none⟩))] a' ∧ Blk w' w.heap.size 35 (pkC (cutTo P 11) a P.N.length c) ∧ Blk w' w1.heap.size 35 (pkC P0z none 0 0) ∧ Below w.heap.size w w') ?_ ?_
  · by_cases hlen : 150 < (P.S 11).length
    · have hd : decide ((150 : Int) < ((P.S 11).length : Int)) = true := decide_eq_true (by omega)
      go_step
      go_step
      go_step
      refine wpk_val hJ1 (wanted_none rfl) rfl (by decide) (by intro x hx; simp only [List.mem_cons, List.not_mem_nil, or_false] at hx; rcases hx with rfl | rfl <;> simp) (.pointer (some ⟨w.heap.size, 10, none⟩)) (by unfold execOp; simp only [hJ1.eval (k := 1) (v := .pointer (some ⟨w.heap.size, 0, none⟩)) (by simp)]; exact run_v (fa_35_0_10 (w.heap.size) _)) fun a35 h34 => ?_
      refine wpk_val h34 (wanted_none rfl) rfl (by decide) (by intro x hx; simp only [List.mem_cons, List.not_mem_nil, or_false] at hx; rcases hx with rfl | rfl | rfl <;> simp) (.pointer (some ⟨w.heap.size, 11, none⟩)) (by unfold execOp; simp only [h34.eval (k := 14) (v := .pointer (some ⟨w.heap.size, 10, none⟩)) (by simp)]; exact run_v (fa_23_10_1 (w.heap.size) _)) fun a37 h36 => ?_
      refine wpk_val h36 (wanted_none rfl) rfl (by decide) (by intro x hx; simp only [List.mem_cons, List.not_mem_nil, or_false] at hx; rcases hx with rfl | rfl | rfl | rfl <;> simp) (.string (bsW (P.S 11))) (by unfold execOp; simp only [h36.eval (k := 15) (v := .pointer (some ⟨w.heap.size, 11, none⟩)) (by simp)]; exact run_v (loadS (KP1.out.cell (i := 11) (by show 11 < 43; omega)))) fun a39 h38 => ?_
      refine wpk_val h38 (wanted_none rfl) rfl (by decide) (by intro x hx; simp only [List.mem_cons, List.not_mem_nil, or_false] at hx; rcases hx with rfl | rfl | rfl | rfl | rfl <;> simp) (.int .i64 ((P.S 11).length : Int)) (run_lenStr rfl (h38.eval (k := 16) (v := .string (bsW (P.S 11))) (by simp)) _) fun a41 h40 => ?_
      refine wpk_val h40 (wanted_none rfl) rfl (by decide) (by intro x hx; simp only [List.mem_cons, List.not_mem_nil, or_false] at hx; rcases hx with rfl | rfl | rfl | rfl | rfl | rfl <;> simp) (.bool true) (by unfold execOp; simp only [h40.eval (k := 17) (v := .int .i64 ((P.S 11).length : Int)) (by simp)]; exact run_v (gtIb _ _ _ _ _ hd)) fun a43 h42 => ?_
      have h44 := h42.sub (l' := [(18, .bool true), (2, .pointer (some ⟨w1.heap.size, 0, none⟩)), (1, .pointer (some ⟨w.heap.size, 0, none⟩))]) (by intro x hx; simp only [List.mem_cons, List.not_mem_nil, or_false] at hx; rcases hx with rfl | rfl | rfl <;> simp)
      clear h42
      go_step
      go_step
      go_step
      refine wp_cond (t := true) (h44.eval (k := 18) (v := .bool true) (by simp)) ?_
      simp only [if_true]
      have h45 := h44.sub (l' := [(2, .pointer (some ⟨w1.heap.size, 0, none⟩)), (1, .pointer (some ⟨w.heap.size, 0, none⟩))]) (by intro x hx; simp only [List.mem_cons, List.not_mem_nil, or_false] at hx; rcases hx with rfl | rfl <;> simp)
      clear h44
      go_step
      refine wpk_val h45 (wanted_none rfl) rfl (by decide) (by intro x hx; simp only [List.mem_cons, List.not_mem_nil, or_false] at hx; rcases hx with rfl | rfl <;> simp) (.pointer (some ⟨w.heap.size, 10, none⟩)) (by unfold execOp; simp only [h45.eval (k := 1) (v := .pointer (some ⟨w.heap.size, 0, none⟩)) (by simp)]; exact run_v (fa_35_0_10 (w.heap.size) _)) fun a47 h46 => ?_
      refine wpk_val h46 (wanted_none rfl) rfl (by decide) (by intro x hx; simp only [List.mem_cons, List.not_mem_nil, or_false] at hx; rcases hx with rfl | rfl | rfl <;> simp) (.pointer (some ⟨w.heap.size, 11, none⟩)) (by unfold execOp; simp only [h46.eval (k := 19) (v := .pointer (some ⟨w.heap.size, 10, none⟩)) (by simp)]; exact run_v (fa_23_10_1 (w.heap.size) _)) fun a49 h48 => ?_
      refine wpk_val h48 (wanted_none rfl) rfl (by decide) (by intro x hx; simp only [List.mem_cons, List.not_mem_nil, or_false] at hx; rcases hx with rfl | rfl | rfl | rfl <;> simp) (.string (bsW (P.S 11))) (by unfold execOp; simp only [h48.eval (k := 20) (v := .pointer (some ⟨w.heap.size, 11, none⟩)) (by simp)]; exact run_v (loadS (KP1.out.cell (i := 11) (by show 11 < 43; omega)))) fun a51 h50 => ?_
      refine wpk_val h50 (wanted_none rfl) rfl (by decide) (by intro x hx; simp only [List.mem_cons, List.not_mem_nil, or_false] at hx; rcases hx with rfl | rfl | rfl | rfl | rfl <;> simp) (.string (bsW ((P.S 11).take 150))) (by unfold execOp; simp only [h50.eval (k := 21) (v := .string (bsW (P.S 11))) (by simp)]; exact run_v (sliceStr (P.S 11) 150 (by omega) _)) fun a53 h52 => ?_
      refine wpk_val h52 (wanted_none rfl) rfl (by decide) (by intro x hx; simp only [List.mem_cons, List.not_mem_nil, or_false] at hx; rcases hx with rfl | rfl | rfl | rfl | rfl | rfl <;> simp) (.pointer (some ⟨w.heap.size, 10, none⟩)) (by unfold execOp; simp only [h52.eval (k := 1) (v := .pointer (some ⟨w.heap.size, 0, none⟩)) (by simp)]; exact run_v (fa_35_0_10 (w.heap.size) _)) fun a55 h54 => ?_
      refine wpk_val h54 (wanted_none rfl) rfl (by decide) (by intro x hx; simp only [List.mem_cons, List.not_mem_nil, or_false] at hx; rcases hx with rfl | rfl | rfl | rfl | rfl | rfl | rfl <;> simp) (.pointer (some ⟨w.heap.size, 11, none⟩)) (by unfold execOp; simp only [h54.eval (k := 23) (v := .pointer (some ⟨w.heap.size, 10, none⟩)) (by simp)]; exact run_v (fa_23_10_1 (w.heap.size) _)) fun a57 h56 => ?_
      refine wpk_skipv h56 (wanted_none rfl) rfl (w' := wJ1.setCell ⟨w.heap.size, 11, none⟩ (.string (bsW ((P.S 11).take 150)))) (by unfold execOp; simp only [h56.eval (k := 24) (v := .pointer (some ⟨w.heap.size, 11, none⟩)) (by simp), h56.eval (k := 22) (v := .string (bsW ((P.S 11).take 150))) (by simp)]; exact run_u (storeS (KP1.out.cell (i := 11) (by show 11 < 43; omega)) (KP1.out.frozen 11) _)) fun a59 h58 => ?_
      have h60 := h58.sub (l' := [(2, .pointer (some ⟨w1.heap.size, 0, none⟩)), (1, .pointer (some ⟨w.heap.size, 0, none⟩))]) (by intro x hx; simp only [List.mem_cons, List.not_mem_nil, or_false] at hx; rcases hx with rfl | rfl <;> simp)
      clear h58
      go_step
      go_step
      exact ⟨h60, KP1.out.set 11 (.string (bsW ((P.S 11).take 150))), KR1.out.grownS (sg_set (sg_refl wJ1 (some w.heap.size)) 11 _) (fun e => nE e.symm), below_grownS BP1.out (sg_set (sg_refl wJ1 _) 11 _) (Nat.le_refl _) BP1.out.size⟩
    · have hd : decide ((150 : Int) < ((P.S 11).length : Int)) = false := decide_eq_false (by omega)
      go_step
      go_step
      go_step
      refine wpk_val hJ1 (wanted_none rfl) rfl (by decide) (by intro x hx; simp only [List.mem_cons, List.not_mem_nil, or_false] at hx; rcases hx with rfl | rfl <;> simp) (.pointer (some ⟨w.heap.size, 10, none⟩)) (by unfold execOp; simp only [hJ1.eval (k := 1) (v := .pointer (some ⟨w.heap.size, 0, none⟩)) (by simp)]; exact run_v (fa_35_0_10 (w.heap.size) _)) fun a62 h61 => ?_
      refine wpk_val h61 (wanted_none rfl) rfl (by decide) (by intro x hx; simp only [List.mem_cons, List.not_mem_nil, or_false] at hx; rcases hx with rfl | rfl | rfl <;> simp) (.pointer (some ⟨w.heap.size, 11, none⟩)) (by unfold execOp; simp only [h61.eval (k := 14) (v := .pointer (some ⟨w.heap.size, 10, none⟩)) (by simp)]; exact run_v (fa_23_10_1 (w.heap.size) _)) fun a64 h63 => ?_
      refine wpk_val h63 (wanted_none rfl) rfl (by decide) (by intro x hx; simp only [List.mem_cons, List.not_mem_nil, or_false] at hx; rcases hx with rfl | rfl | rfl | rfl <;> simp) (.string (bsW (P.S 11))) (by unfold execOp; simp only [h63.eval (k := 15) (v := .pointer (some ⟨w.heap.size, 11, none⟩)) (by simp)]; exact run_v (loadS (KP1.out.cell (i := 11) (by show 11 < 43; omega)))) fun a66 h65 => ?_
      refine wpk_val h65 (wanted_none rfl) rfl (by decide) (by intro x hx; simp only [List.mem_cons, List.not_mem_nil, or_false] at hx; rcases hx with rfl | rfl | rfl | rfl | rfl <;> simp) (.int .i64 ((P.S 11).length : Int)) (run_lenStr rfl (h65.eval (k := 16) (v := .string (bsW (P.S 11))) (by simp)) _) fun a68 h67 => ?_
      refine wpk_val h67 (wanted_none rfl) rfl (by decide) (by intro x hx; simp only [List.mem_cons, List.not_mem_nil, or_false] at hx; rcases hx with rfl | rfl | rfl | rfl | rfl | rfl <;> simp) (.bool false) (by unfold execOp; simp only [h67.eval (k := 17) (v := .int .i64 ((P.S 11).length : Int)) (by simp)]; exact run_v (gtIb _ _ _ _ _ hd)) fun a70 h69 => ?_
      have h71 := h69.sub (l' := [(18, .bool false), (2, .pointer (some ⟨w1.heap.size, 0, none⟩)), (1, .pointer (some ⟨w.heap.size, 0, none⟩))]) (by intro x hx; simp only [List.mem_cons, List.not_mem_nil, or_false] at hx; rcases hx with rfl | rfl | rfl <;> simp)
      clear h69
      go_step
      go_step
      go_step
      refine wp_cond (t := false) (h71.eval (k := 18) (v := .bool false) (by simp)) ?_
      simp only [Bool.false_eq_true, if_false]
      have h72 := h71.sub (l' := [(2, .pointer (some ⟨w1.heap.size, 0, none⟩)), (1, .pointer (some ⟨w.heap.size, 0, none⟩))]) (by intro x hx; simp only [List.mem_cons, List.not_mem_nil, or_false] at hx; rcases hx with rfl | rfl <;> simp)
      clear h71
      go_step
      go_step
      refine ⟨h72, ?_, KR1.out, BP1.out⟩
      have e : pkC (cutTo P 11) a P.N.length c = (pkC (cutTo P 7) a P.N.length c).set 11 (strV ((P.S 11).take 150)) := rfl
      rw [e, List.take_of_length_le (by omega)]; exact KP1.out
  rintro aJ2 wJ2 ⟨hJ2, kp, kr, bp⟩
  have KP2 := hid kp; have KR2 := hid kr; have BP2 := hid bp
  clear kp kr bp KP1 KR1 BP1
  refine wp_join (J := fun a' w' => Kn 67 [(2, .pointer (some ⟨w1.heap.size, 0, none⟩)), (1, .pointer (some ⟨w.heap.size, 0, none⟩))] a' ∧ Blk w' w.heap.size 35 (pkC (cutTo P 12) a P.N.length c) ∧ Blk w' w1.heap.size 35 (pkC P0z none 0 0) ∧ Below w.heap.size w w') ?_ ?_
  · by_cases hlen : 150 < (P.S 12).length
    · have hd : decide ((150 : Int) < ((P.S 12).length : Int)) = true := decide_eq_true (by omega)
      go_step
      go_step
      go_step
      refine wpk_val hJ2 (wanted_none rfl) rfl (by decide) (by intro x hx; simp only [List.mem_cons, List.not_mem_nil, or_false] at hx; rcases hx with rfl | rfl <;> simp) (.pointer (some ⟨w.heap.size, 10, none⟩)) (by unfold execOp; simp only [hJ2.eval (k := 1) (v := .pointer (some ⟨w.heap.size, 0, none⟩)) (by simp)]; exact run_v (fa_35_0_10 (w.heap.size) _)) fun a74 h73 => ?_
      refine wpk_val h73 (wanted_none rfl) rfl (by decide) (by intro x hx; simp only [List.mem_cons, List.not_mem_nil, or_false] at hx; rcases hx with rfl | rfl | rfl <;> simp) (.pointer (some ⟨w.heap.size, 12, none⟩)) (by unfold execOp; simp only [h73.eval (k := 25) (v := .pointer (some ⟨w.heap.size, 10, none⟩)) (by simp)]; exact run_v (fa_23_10_2 (w.heap.size) _)) fun a76 h75 => ?_
      refine wpk_val h75 (wanted_none rfl) rfl (by decide) (by intro x hx; simp only [List.mem_cons, List.not_mem_nil, or_false] at hx; rcases hx with rfl | rfl | rfl | rfl <;> simp) (.string (bsW (P.S 12))) (by unfold execOp; simp only [h75.eval (k := 26) (v := .pointer (some ⟨w.heap.size, 12, none⟩)) (by simp)]; exact run_v (loadS (KP2.out.cell (i := 12) (by show 12 < 43; omega)))) fun a78 h77 => ?_
      refine wpk_val h77 (wanted_none rfl) rfl (by decide) (by intro x hx; simp only [List.mem_cons, List.not_mem_nil, or_false] at hx; rcases hx with rfl | rfl | rfl | rfl | rfl <;> simp) (.int .i64 ((P.S 12).length : Int)) (run_lenStr rfl (h77.eval (k := 27) (v := .string (bsW (P.S 12))) (by simp)) _) fun a80 h79 => ?_
      refine wpk_val h79 (wanted_none rfl) rfl (by decide) (by intro x hx; simp only [List.mem_cons, List.not_mem_nil, or_false] at hx; rcases hx with rfl | rfl | rfl | rfl | rfl | rfl <;> simp) (.bool true) (by unfold execOp; simp only [h79.eval (k := 28) (v := .int .i64 ((P.S 12).length : Int)) (by simp)]; exact run_v (gtIb _ _ _ _ _ hd)) fun a82 h81 => ?_
      have h83 := h81.sub (l' := [(29, .bool true), (2, .pointer (some ⟨w1.heap.size, 0, none⟩)), (1, .pointer (some ⟨w.heap.size, 0, none⟩))]) (by intro x hx; simp only [List.mem_cons, List.not_mem_nil, or_false] at hx; rcases hx with rfl | rfl | rfl <;> simp)
      clear h81
      go_step
      go_step
      go_step
      refine wp_cond (t := true) (h83.eval (k := 29) (v := .bool true) (by simp)) ?_
      simp only [if_true]
      have h84 := h83.sub (l' := [(2, .pointer (some ⟨w1.heap.size, 0, none⟩)), (1, .pointer (some ⟨w.heap.size, 0, none⟩))]) (by intro x hx; simp only [List.mem_cons, List.not_mem_nil, or_false] at hx; rcases hx with rfl | rfl <;> simp)
      clear h83
      go_step
      refine wpk_val h84 (wanted_none rfl) rfl (by decide) (by intro x hx; simp only [List.mem_cons, List.not_mem_nil, or_false] at hx; rcases hx with rfl | rfl <;> simp) (.pointer (some ⟨w.heap.size, 10, none⟩)) (by unfold execOp; simp only [h84.eval (k := 1) (v := .pointer (some ⟨w.heap.size, 0, none⟩)) (by simp)]; exact run_v (fa_35_0_10 (w.heap.size) _)) fun a86 h85 => ?_
      refine wpk_val h85 (wanted_none rfl) rfl (by decide) (by intro x hx; simp only [List.mem_cons, List.not_mem_nil, or_false] at hx; rcases hx with rfl | rfl | rfl <;> simp) (.pointer (some ⟨w.heap.size, 12, none⟩)) (by unfold execOp; simp only [h85.eval (k := 30) (v := .pointer (some ⟨w.heap.size, 10, none⟩)) (by simp)]; exact run_v (fa_23_10_2 (w.heap.size) _)) fun a88 h87 => ?_
      refine wpk_val h87 (wanted_none rfl) rfl (by decide) (by intro x hx; simp only [List.mem_cons, List.not_mem_nil, or_false] at hx; rcases hx with rfl | rfl | rfl | rfl <;> simp) (.string (bsW (P.S 12))) (by unfold execOp; simp only [h87.eval (k := 31) (v := .pointer (some ⟨w.heap.size, 12, none⟩)) (by simp)]; exact run_v (loadS (KP2.out.cell (i := 12) (by show 12 < 43; omega)))) fun a90 h89 => ?_
      refine wpk_val h89 (wanted_none rfl) rfl (by decide) (by intro x hx; simp only [List.mem_cons, List.not_mem_nil, or_false] at hx; rcases hx with rfl | rfl | rfl | rfl | rfl <;> simp) (.string (bsW ((P.S 12).take 150))) (by unfold execOp; simp only [h89.eval (k := 32) (v := .string (bsW (P.S 12))) (by simp)]; exact run_v (sliceStr (P.S 12) 150 (by omega) _)) fun a92 h91 => ?_
      refine wpk_val h91 (wanted_none rfl) rfl (by decide) (by intro x hx; simp only [List.mem_cons, List.not_mem_nil, or_false] at hx; rcases hx with rfl | rfl | rfl | rfl | rfl | rfl <;> simp) (.pointer (some ⟨w.heap.size, 10, none⟩)) (by unfold execOp; simp only [h91.eval (k := 1) (v := .pointer (some ⟨w.heap.size, 0, none⟩)) (by simp)]; exact run_v (fa_35_0_10 (w.heap.size) _)) fun a94 h93 => ?_
      refine wpk_val h93 (wanted_none rfl) rfl (by decide) (by intro x hx; simp only [List.mem_cons, List.not_mem_nil, or_false] at hx; rcases hx with rfl | rfl | rfl | rfl | rfl | rfl | rfl <;> simp) (.pointer (some ⟨w.heap.size, 12, none⟩)) (by unfold execOp; simp only [h93.eval (k := 34) (v := .pointer (some ⟨w.heap.size, 10, none⟩)) (by simp)]; exact run_v (fa_23_10_2 (w.heap.size) _)) fun a96 h95 => ?_
      refine wpk_skipv h95 (wanted_none rfl) rfl (w' := wJ2.setCell ⟨w.heap.size, 12, none⟩ (.string (bsW ((P.S 12).take 150)))) (by unfold execOp; simp only [h95.eval (k := 35) (v := .pointer (some ⟨w.heap.size, 12, none⟩)) (by simp), h95.eval (k := 33) (v := .string (bsW ((P.S 12).take 150))) (by simp)]; exact run_u (storeS (KP2.out.cell (i := 12) (by show 12 < 43; omega)) (KP2.out.frozen 12) _)) fun a98 h97 => ?_
      have h99 := h97.sub (l' := [(2, .pointer (some ⟨w1.heap.size, 0, none⟩)), (1, .pointer (some ⟨w.heap.size, 0, none⟩))]) (by intro x hx; simp only [List.mem_cons, List.not_mem_nil, or_false] at hx; rcases hx with rfl | rfl <;> simp)
      clear h97
      go_step
      go_step
      exact ⟨h99, KP2.out.set 12 (.string (bsW ((P.S 12).take 150))), KR2.out.grownS (sg_set (sg_refl wJ2 (some w.heap.size)) 12 _) (fun e => nE e.symm), below_grownS BP2.out (sg_set (sg_refl wJ2 _) 12 _) (Nat.le_refl _) BP2.out.size⟩
    · have hd : decide ((150 : Int) < ((P.S 12).length : Int)) = false := decide_eq_false (by omega)
      go_step
      go_step
      go_step
      refine wpk_val hJ2 (wanted_none rfl) rfl (by decide) (by intro x hx; simp only [List.mem_cons, List.not_mem_nil, or_false] at hx; rcases hx with rfl | rfl <;> simp) (.pointer (some ⟨w.heap.size, 10, none⟩)) (by unfold execOp; simp only [hJ2.eval (k := 1) (v := .pointer (some ⟨w.heap.size, 0, none⟩)) (by simp)]; exact run_v (fa_35_0_10 (w.heap.size) _)) fun a101 h100 => ?_
      refine wpk_val h100 (wanted_none rfl) rfl (by decide) (by intro x hx; simp only [List.mem_cons, List.not_mem_nil, or_false] at hx; rcases hx with rfl | rfl | rfl <;> simp) (.pointer (some ⟨w.heap.size, 12, none⟩)) (by unfold execOp; simp only [h100.eval (k := 25) (v := .pointer (some ⟨w.heap.size, 10, none⟩)) (by simp)]; exact run_v (fa_23_10_2 (w.heap.size) _)) fun a103 h102 => ?_
      refine wpk_val h102 (wanted_none rfl) rfl (by decide) (by intro x hx; simp only [List.mem_cons, List.not_mem_nil, or_false] at hx; rcases hx with rfl | rfl | rfl | rfl <;> simp) (.string (bsW (P.S 12))) (by unfold execOp; simp only [h102.eval (k := 26) (v := .pointer (some ⟨w.heap.size, 12, none⟩)) (by simp)]; exact run_v (loadS (KP2.out.cell (i := 12) (by show 12 < 43; omega)))) fun a105 h104 => ?_
      refine wpk_val h104 (wanted_none rfl) rfl (by decide) (by intro x hx; simp only [List.mem_cons, List.not_mem_nil, or_false] at hx; rcases hx with rfl | rfl | rfl | rfl | rfl <;> simp) (.int .i64 ((P.S 12).length : Int)) (run_lenStr rfl (h104.eval (k := 27) (v := .string (bsW (P.S 12))) (by simp)) _) fun a107 h106 => ?_
      refine wpk_val h106 (wanted_none rfl) rfl (by decide) (by intro x hx; simp only [List.mem_cons, List.not_mem_nil, or_false] at hx; rcases hx with rfl | rfl | rfl | rfl | rfl | rfl <;> simp) (.bool false) (by unfold execOp; simp only [h106.eval (k := 28) (v := .int .i64 ((P.S 12).length : Int)) (by simp)]; exact run_v (gtIb _ _ _ _ _ hd)) fun a109 h108 => ?_
      have h110 := h108.sub (l' := [(29, .bool false), (2, .pointer (some ⟨w1.heap.size, 0, none⟩)), (1, .pointer (some ⟨w.heap.size, 0, none⟩))]) (by intro x hx; simp only [List.mem_cons, List.not_mem_nil, or_false] at hx; rcases hx with rfl | rfl | rfl <;> simp)
      clear h108
      go_step
      go_step
      go_step
      refine wp_cond (t := false) (h110.eval (k := 29) (v := .bool false) (by simp)) ?_
      simp only [Bool.false_eq_true, if_false]
      have h111 := h110.sub (l' := [(2, .pointer (some ⟨w1.heap.size, 0, none⟩)), (1, .pointer (some ⟨w.heap.size, 0, none⟩))]) (by intro x hx; simp only [List.mem_cons, List.not_mem_nil, or_false] at hx; rcases hx with rfl | rfl <;> simp)
      clear h110
      go_step
      go_step
      refine ⟨h111, ?_, KR2.out, BP2.out⟩
      have e : pkC (cutTo P 12) a P.N.length c = (pkC (cutTo P 11) a P.N.length c).set 12 (strV ((P.S 12).take 150)) := rfl
      rw [e, List.take_of_length_le (by omega)]; exact KP2.out
  rintro aJ3 wJ3 ⟨hJ3, kp, kr, bp⟩
  have KP3 := hid kp; have KR3 := hid kr; have BP3 := hid bp
  clear kp kr bp KP2 KR2 BP2
  go_step
  go_step
  refine wpk_val hJ3 (wanted_none rfl) rfl (by decide) (by intro x hx; simp only [List.mem_cons, List.not_mem_nil, or_false] at hx; rcases hx with rfl | rfl <;> simp) (.slice none 0 0) rfl fun a113 h112 => ?_
  go_step
  go_step
  go_step
  go_step
  go_step
  go_step
  refine wpk_val h112 (wanted_none rfl) rfl (by decide) (by intro x hx; simp only [List.mem_cons, List.not_mem_nil, or_false] at hx; rcases hx with rfl | rfl | rfl <;> simp) (.int .i64 0) rfl fun a115 h114 => ?_
  go_step
  go_step
  go_step
  go_step
  refine wp_loop (I := fun a' w' => ∃ (j : Nat) (na : Option Addr) (nc : Nat), j ≤ L.length ∧ Kn 67 [(4, .int .i64 (j : Int)), (3, .slice na j nc), (2, .pointer (some ⟨w1.heap.size, 0, none⟩)), (1, .pointer (some ⟨w.heap.size, 0, none⟩))] a' ∧ Own w' w.heap.size 9 1 na j nc ((L.take j).map strV) ∧ Blk w' w.heap.size 35 (pkC (cutTo P 12) a P.N.length c) ∧ Blk w' w1.heap.size 35 (pkC P0z none 0 0) ∧ Below w.heap.size w w') (μ := fun a' _ => L.length - (intOf (a'.eval (.tmp 4))).toNat) ⟨0, none, 0, Nat.zero_le _, h114, Own.nil _ _ _ _, KP3.out, KR3.out, BP3.out⟩ ?_
  clear KP3 KR3 BP3 h114
  rintro aL wL ⟨j, na, nc, hj, hK, ho, kp, kr, bp⟩
  have HOj := hid ho; have KPj := hid kp; have KRj := hid kr; have BPj := hid bp
  clear ho kp kr bp
  by_cases hlN : j < P.N.length
  · have dN : decide ((j : Int) < (P.N.length : Int)) = true := decide_eq_true (by omega)
    by_cases hl2 : j < 20
    · have d2 : decide ((j : Int) < 20) = true := decide_eq_true (by omega)
      have hrow := HA.out.mono BPj.out
      obtain ⟨nb, noff, ha0, _, hcell⟩ := rowN_cells hrow (by omega)
      have hcell := hcell j hlN
      have hstep := few_step P j hlN hl2
      rw [← HL.out] at hstep
      by_cases h20 : 20 < P.N[j].length
      · have hd : decide ((20 : Int) < (P.N[j].length : Int)) = true := decide_eq_true (by omega)
        go_step
        go_step
        go_step
        go_step
        refine wpk_val hK (wanted_none rfl) rfl (by decide) (by intro x hx; simp only [List.mem_cons, List.not_mem_nil, or_false] at hx; rcases hx with rfl | rfl | rfl | rfl <;> simp) (.int .i64 (j : Int)) (by unfold execOp; simp only [hK.eval (k := 4) (v := .int .i64 (j : Int)) (by simp)]; rfl) fun a117 h116 => ?_
        refine wpk_val h116 (wanted_none rfl) rfl (by decide) (by intro x hx; simp only [List.mem_cons, List.not_mem_nil, or_false] at hx; rcases hx with rfl | rfl | rfl | rfl | rfl <;> simp) (.pointer (some ⟨w.heap.size, 20, none⟩)) (by unfold execOp; simp only [h116.eval (k := 1) (v := .pointer (some ⟨w.heap.size, 0, none⟩)) (by simp)]; exact run_v (fa_35_0_13 (w.heap.size) _)) fun a119 h118 => ?_
        refine wpk_val h118 (wanted_none rfl) rfl (by decide) (by intro x hx; simp only [List.mem_cons, List.not_mem_nil, or_false] at hx; rcases hx with rfl | rfl | rfl | rfl | rfl | rfl <;> simp) (.pointer (some ⟨w.heap.size, 23, none⟩)) (by unfold execOp; simp only [h118.eval (k := 37) (v := .pointer (some ⟨w.heap.size, 20, none⟩)) (by simp)]; exact run_v (fa_29_20_3 (w.heap.size) _)) fun a121 h120 => ?_
        refine wpk_val h120 (wanted_none rfl) rfl (by decide) (by intro x hx; simp only [List.mem_cons, List.not_mem_nil, or_false] at hx; rcases hx with rfl | rfl | rfl | rfl | rfl | rfl | rfl <;> simp) (.slice a P.N.length c) (by unfold execOp; simp only [h120.eval (k := 38) (v := .pointer (some ⟨w.heap.size, 23, none⟩)) (by simp)]; exact run_v (loadN (KPj.out.cell (i := 23) (by show 23 < 43; omega)))) fun a123 h122 => ?_
        refine wpk_val h122 (wanted_none rfl) rfl (by decide) (by intro x hx; simp only [List.mem_cons, List.not_mem_nil, or_false] at hx; rcases hx with rfl | rfl | rfl | rfl | rfl | rfl | rfl | rfl <;> simp) (.int .i64 (P.N.length : Int)) (run_lenS rfl (h122.eval (k := 39) (v := .slice a P.N.length c) (by simp)) _) fun a125 h124 => ?_
        refine wpk_val h124 (wanted_none rfl) rfl (by decide) (by intro x hx; simp only [List.mem_cons, List.not_mem_nil, or_false] at hx; rcases hx with rfl | rfl | rfl | rfl | rfl | rfl | rfl | rfl | rfl <;> simp) (.bool true) (by unfold execOp; simp only [h124.eval (k := 36) (v := .int .i64 (j : Int)) (by simp), h124.eval (k := 40) (v := .int .i64 (P.N.length : Int)) (by simp)]; exact run_v (ltIb _ _ _ _ _ dN)) fun a127 h126 => ?_
        refine wpk_val h126 (wanted_none rfl) rfl (by decide) (by intro x hx; simp only [List.mem_cons, List.not_mem_nil, or_false] at hx; rcases hx with rfl | rfl | rfl | rfl | rfl | rfl | rfl | rfl | rfl | rfl <;> simp) (.bool true) (by unfold execOp; simp only [h126.eval (k := 41) (v := .bool true) (by simp)]; rfl) fun a129 h128 => ?_
        refine wpk_val h128 (by rw [wanted_of (g := 6) (want := true) (b := true) rfl (h128.yields (prev := 42) rfl (by simp))]; rfl) rfl (by decide) (by intro x hx; simp only [List.mem_cons, List.not_mem_nil, or_false] at hx; rcases hx with rfl | rfl | rfl | rfl | rfl | rfl | rfl | rfl | rfl | rfl | rfl <;> simp) (.int .i64 (j : Int)) (by unfold execOp; simp only [h128.eval (k := 4) (v := .int .i64 (j : Int)) (by simp)]; rfl) fun a131 h130 => ?_
        refine wpk_val h130 (by rw [wanted_of (g := 6) (want := true) (b := true) rfl (h130.yields (prev := 42) rfl (by simp))]; rfl) rfl (by decide) (by intro x hx; simp only [List.mem_cons, List.not_mem_nil, or_false] at hx; rcases hx with rfl | rfl | rfl | rfl | rfl | rfl | rfl | rfl | rfl | rfl | rfl | rfl <;> simp) (.bool true) (by unfold execOp; simp only [h130.eval (k := 43) (v := .int .i64 (j : Int)) (by simp)]; exact run_v (ltIb _ _ _ _ _ d2)) fun a133 h132 => ?_
        refine wpk_val h132 (wanted_none rfl) rfl (by decide) (by intro x hx; simp only [List.mem_cons, List.not_mem_nil, or_false] at hx; rcases hx with rfl | rfl | rfl | rfl | rfl | rfl | rfl | rfl | rfl | rfl | rfl | rfl | rfl <;> simp) (.bool true) (run_pick rfl (h132.eval (k := 42) (v := .bool true) (by simp)) (by rw [if_pos rfl]; exact h132.eval (k := 44) (v := .bool true) (by simp))) fun a135 h134 => ?_
        have h136 := h134.sub (l' := [(45, .bool true), (4, .int .i64 (j : Int)), (3, .slice na j nc), (2, .pointer (some ⟨w1.heap.size, 0, none⟩)), (1, .pointer (some ⟨w.heap.size, 0, none⟩))]) (by intro x hx; simp only [List.mem_cons, List.not_mem_nil, or_false] at hx; rcases hx with rfl | rfl | rfl | rfl | rfl <;> simp)
        clear h134
        go_step
        go_step
        go_step
        refine wp_cond (t := true) (h136.eval (k := 45) (v := .bool true) (by simp)) ?_
        simp only [if_true]
        have h137 := h136.sub (l' := [(4, .int .i64 (j : Int)), (3, .slice na j nc), (2, .pointer (some ⟨w1.heap.size, 0, none⟩)), (1, .pointer (some ⟨w.heap.size, 0, none⟩))]) (by intro x hx; simp only [List.mem_cons, List.not_mem_nil, or_false] at hx; rcases hx with rfl | rfl | rfl | rfl <;> simp)
        clear h136
        go_step
        go_step
        go_step
        go_step
        go_step
        go_step
        go_step
        refine wpk_val h137 (wanted_none rfl) rfl (by decide) (by intro x hx; simp only [List.mem_cons, List.not_mem_nil, or_false] at hx; rcases hx with rfl | rfl | rfl | rfl <;> simp) (.pointer (some ⟨w.heap.size, 20, none⟩)) (by unfold execOp; simp only [h137.eval (k := 1) (v := .pointer (some ⟨w.heap.size, 0, none⟩)) (by simp)]; exact run_v (fa_35_0_13 (w.heap.size) _)) fun a139 h138 => ?_
        refine wpk_val h138 (wanted_none rfl) rfl (by decide) (by intro x hx; simp only [List.mem_cons, List.not_mem_nil, or_false] at hx; rcases hx with rfl | rfl | rfl | rfl | rfl <;> simp) (.pointer (some ⟨w.heap.size, 23, none⟩)) (by unfold execOp; simp only [h138.eval (k := 48) (v := .pointer (some ⟨w.heap.size, 20, none⟩)) (by simp)]; exact run_v (fa_29_20_3 (w.heap.size) _)) fun a141 h140 => ?_
        refine wpk_val h140 (wanted_none rfl) rfl (by decide) (by intro x hx; simp only [List.mem_cons, List.not_mem_nil, or_false] at hx; rcases hx with rfl | rfl | rfl | rfl | rfl | rfl <;> simp) (.slice a P.N.length c) (by unfold execOp; simp only [h140.eval (k := 49) (v := .pointer (some ⟨w.heap.size, 23, none⟩)) (by simp)]; exact run_v (loadN (KPj.out.cell (i := 23) (by show 23 < 43; omega)))) fun a143 h142 => ?_
        refine wpk_val h142 (wanted_none rfl) rfl (by decide) (by intro x hx; simp only [List.mem_cons, List.not_mem_nil, or_false] at hx; rcases hx with rfl | rfl | rfl | rfl | rfl | rfl | rfl <;> simp) (.int .i64 (j : Int)) (by unfold execOp; simp only [h142.eval (k := 4) (v := .int .i64 (j : Int)) (by simp)]; rfl) fun a145 h144 => ?_
        refine wpk_val h144 (wanted_none rfl) rfl (by decide) (by intro x hx; simp only [List.mem_cons, List.not_mem_nil, or_false] at hx; rcases hx with rfl | rfl | rfl | rfl | rfl | rfl | rfl | rfl <;> simp) (.pointer (some ⟨nb, noff + j, none⟩)) (by unfold execOp; simp only [h144.eval (k := 50) (v := .slice a P.N.length c) (by simp), h144.eval (k := 51) (v := .int .i64 (j : Int)) (by simp)]; exact run_v (by rw [ha0]; exact ixSl nb noff P.N.length c j hlN _)) fun a147 h146 => ?_
        refine wpk_val h146 (wanted_none rfl) rfl (by decide) (by intro x hx; simp only [List.mem_cons, List.not_mem_nil, or_false] at hx; rcases hx with rfl | rfl | rfl | rfl | rfl | rfl | rfl | rfl | rfl <;> simp) (.string (bsW P.N[j])) (by unfold execOp; simp only [h146.eval (k := 52) (v := .pointer (some ⟨nb, noff + j, none⟩)) (by simp)]; exact run_v (loadS hcell)) fun a149 h148 => ?_
        refine wpk_val h148 (wanted_none rfl) rfl (by decide) (by intro x hx; simp only [List.mem_cons, List.not_mem_nil, or_false] at hx; rcases hx with rfl | rfl | rfl | rfl | rfl | rfl | rfl | rfl | rfl | rfl <;> simp) (.string (bsW P.N[j])) (by unfold execOp; simp only [h148.eval (k := 53) (v := .string (bsW P.N[j])) (by simp)]; rfl) fun a151 h150 => ?_
        have h152 := h150.sub (l' := [(5, .string (bsW P.N[j])), (4, .int .i64 (j : Int)), (3, .slice na j nc), (2, .pointer (some ⟨w1.heap.size, 0, none⟩)), (1, .pointer (some ⟨w.heap.size, 0, none⟩))]) (by intro x hx; simp only [List.mem_cons, List.not_mem_nil, or_false] at hx; rcases hx with rfl | rfl | rfl | rfl | rfl <;> simp)
        clear h150
        go_step
        go_step
        go_step
        go_step
        go_step
        go_step
        refine wpk_val h152 (wanted_none rfl) rfl (by decide) (by intro x hx; simp only [List.mem_cons, List.not_mem_nil, or_false] at hx; rcases hx with rfl | rfl | rfl | rfl | rfl <;> simp) (.string (bsW P.N[j])) (by unfold execOp; simp only [h152.eval (k := 5) (v := .string (bsW P.N[j])) (by simp)]; rfl) fun a154 h153 => ?_
        refine wpk_val h153 (wanted_none rfl) rfl (by decide) (by intro x hx; simp only [List.mem_cons, List.not_mem_nil, or_false] at hx; rcases hx with rfl | rfl | rfl | rfl | rfl | rfl <;> simp) (.int .i64 (P.N[j].length : Int)) (run_lenStr rfl (h153.eval (k := 54) (v := .string (bsW P.N[j])) (by simp)) _) fun a156 h155 => ?_
        refine wpk_val h155 (wanted_none rfl) rfl (by decide) (by intro x hx; simp only [List.mem_cons, List.not_mem_nil, or_false] at hx; rcases hx with rfl | rfl | rfl | rfl | rfl | rfl | rfl <;> simp) (.bool true) (by unfold execOp; simp only [h155.eval (k := 55) (v := .int .i64 (P.N[j].length : Int)) (by simp)]; exact run_v (gtIb _ _ _ _ _ hd)) fun a158 h157 => ?_
        have h159 := h157.sub (l' := [(56, .bool true), (5, .string (bsW P.N[j])), (4, .int .i64 (j : Int)), (3, .slice na j nc), (2, .pointer (some ⟨w1.heap.size, 0, none⟩)), (1, .pointer (some ⟨w.heap.size, 0, none⟩))]) (by intro x hx; simp only [List.mem_cons, List.not_mem_nil, or_false] at hx; rcases hx with rfl | rfl | rfl | rfl | rfl | rfl <;> simp)
        clear h157
        go_step
        go_step
        go_step
        refine wp_cond (t := true) (h159.eval (k := 56) (v := .bool true) (by simp)) ?_
        simp only [if_true]
        have h160 := h159.sub (l' := [(5, .string (bsW P.N[j])), (4, .int .i64 (j : Int)), (3, .slice na j nc), (2, .pointer (some ⟨w1.heap.size, 0, none⟩)), (1, .pointer (some ⟨w.heap.size, 0, none⟩))]) (by intro x hx; simp only [List.mem_cons, List.not_mem_nil, or_false] at hx; rcases hx with rfl | rfl | rfl | rfl | rfl <;> simp)
        clear h159
        go_step
        refine wpk_val h160 (wanted_none rfl) rfl (by decide) (by intro x hx; simp only [List.mem_cons, List.not_mem_nil, or_false] at hx; rcases hx with rfl | rfl | rfl | rfl | rfl <;> simp) (.string (bsW P.N[j])) (by unfold execOp; simp only [h160.eval (k := 5) (v := .string (bsW P.N[j])) (by simp)]; rfl) fun a162 h161 => ?_
        refine wpk_val h161 (wanted_none rfl) rfl (by decide) (by intro x hx; simp only [List.mem_cons, List.not_mem_nil, or_false] at hx; rcases hx with rfl | rfl | rfl | rfl | rfl | rfl <;> simp) (.string (bsW (P.N[j].take 20))) (by unfold execOp; simp only [h161.eval (k := 57) (v := .string (bsW P.N[j])) (by simp)]; exact run_v (sliceStr P.N[j] 20 (by omega) _)) fun a164 h163 => ?_
        have h165 := h163.sub (l' := [(58, .string (bsW (P.N[j].take 20))), (57, .string (bsW P.N[j])), (4, .int .i64 (j : Int)), (3, .slice na j nc), (2, .pointer (some ⟨w1.heap.size, 0, none⟩)), (1, .pointer (some ⟨w.heap.size, 0, none⟩))]) (by intro x hx; simp only [List.mem_cons, List.not_mem_nil, or_false] at hx; rcases hx with rfl | rfl | rfl | rfl | rfl | rfl <;> simp)
        clear h163
        refine wpk_val h165 (wanted_none rfl) rfl (by decide) (by intro x hx; simp only [List.mem_cons, List.not_mem_nil, or_false] at hx; rcases hx with rfl | rfl | rfl | rfl | rfl | rfl <;> simp) (.string (bsW (P.N[j].take 20))) (by unfold execOp; simp only [h165.eval (k := 58) (v := .string (bsW (P.N[j].take 20))) (by simp)]; rfl) fun a167 h166 => ?_
        have h168 := h166.sub (l' := [(5, .string (bsW (P.N[j].take 20))), (4, .int .i64 (j : Int)), (3, .slice na j nc), (2, .pointer (some ⟨w1.heap.size, 0, none⟩)), (1, .pointer (some ⟨w.heap.size, 0, none⟩))]) (by intro x hx; simp only [List.mem_cons, List.not_mem_nil, or_false] at hx; rcases hx with rfl | rfl | rfl | rfl | rfl <;> simp)
        clear h166
        go_step
        go_step
        go_step
        go_step
        refine wpk_val h168 (wanted_none rfl) rfl (by decide) (by intro x hx; simp only [List.mem_cons, List.not_mem_nil, or_false] at hx; rcases hx with rfl | rfl | rfl | rfl | rfl <;> simp) (.slice na j nc) (by unfold execOp; simp only [h168.eval (k := 3) (v := .slice na j nc) (by simp)]; rfl) fun a170 h169 => ?_
        refine wpk_val h169 (wanted_none rfl) rfl (by decide) (by intro x hx; simp only [List.mem_cons, List.not_mem_nil, or_false] at hx; rcases hx with rfl | rfl | rfl | rfl | rfl | rfl <;> simp) (.string (bsW (P.N[j].take 20))) (by unfold execOp; simp only [h169.eval (k := 5) (v := .string (bsW (P.N[j].take 20))) (by simp)]; rfl) fun a172 h171 => ?_
        refine wpk_val h171 (wanted_none rfl) rfl (by decide) (by intro x hx; simp only [List.mem_cons, List.not_mem_nil, or_false] at hx; rcases hx with rfl | rfl | rfl | rfl | rfl | rfl | rfl <;> simp) (.slice (some ⟨wL.heap.size, 0, none⟩) 1 1) (by unfold execOp; simp only [List.map_toArray, List.map_cons, List.map_nil, h171.eval (k := 60) (v := .string (bsW (P.N[j].take 20))) (by simp)]; exact run_v (buildStr _ _)) fun a174 h173 => ?_
        have R6 := hid (row_new1 wL (.string (bsW (P.N[j].take 20))) 9); have O6 := hid (Own.mono HOj.out (albO wL (.cells #[.string (bsW (P.N[j].take 20))] 9))); have KP6 := hid (KPj.out.mono (albO wL (.cells #[.string (bsW (P.N[j].take 20))] 9))); have KR6 := hid (KRj.out.mono (albO wL (.cells #[.string (bsW (P.N[j].take 20))] 9))); have B6 := hid (kept_alloc BPj.out (.cells #[.string (bsW (P.N[j].take 20))] 9))
        refine wpl_append rfl (.tmp 59) (.tmp 61) rfl ESW w.heap.size (h173.eval (k := 59) (v := .slice na j nc) (by simp)) (h173.eval (k := 61) (v := .slice (some ⟨wL.heap.size, 0, none⟩) 1 1) (by simp)) O6.out R6.out (by intro u hu; simp only [List.mem_cons, List.not_mem_nil, or_false] at hu; subst hu; rfl) (by omega) (by omega) B6.out.size ?_
        intro na2 nc2 w5 o5 g5 b5
        refine wpk_enter (h173.put (d := 62) (by decide) (by intro x hx; simp only [List.mem_cons, List.not_mem_nil, or_false] at hx; rcases hx with rfl | rfl | rfl | rfl | rfl | rfl | rfl | rfl <;> simp) (.slice na2 (j + 1) nc2)) fun a176 h175 => ?_
        have KPn := hid (blk_keepsW O6.out KP6.out g5 (by decide)); have KRn := hid (blk_keepsW O6.out KR6.out g5 (by decide)); have BPn := hid (B6.out.trans b5); have OOn := hid o5
        have h177 := h175.sub (l' := [(62, .slice na2 (j + 1) nc2), (61, .slice (some ⟨wL.heap.size, 0, none⟩) 1 1), (60, .string (bsW (P.N[j].take 20))), (59, .slice na j nc), (5, .string (bsW (P.N[j].take 20))), (4, .int .i64 (j : Int)), (2, .pointer (some ⟨w1.heap.size, 0, none⟩)), (1, .pointer (some ⟨w.heap.size, 0, none⟩))]) (by intro x hx; simp only [List.mem_cons, List.not_mem_nil, or_false] at hx; rcases hx with rfl | rfl | rfl | rfl | rfl | rfl | rfl | rfl <;> simp)
        clear h175
        refine wpk_val h177 (wanted_none rfl) rfl (by decide) (by intro x hx; simp only [List.mem_cons, List.not_mem_nil, or_false] at hx; rcases hx with rfl | rfl | rfl | rfl | rfl | rfl | rfl | rfl <;> simp) (.slice na2 (j + 1) nc2) (by unfold execOp; simp only [h177.eval (k := 62) (v := .slice na2 (j + 1) nc2) (by simp)]; rfl) fun a179 h178 => ?_
        have h180 := h178.sub (l' := [(3, .slice na2 (j + 1) nc2), (5, .string (bsW (P.N[j].take 20))), (4, .int .i64 (j : Int)), (2, .pointer (some ⟨w1.heap.size, 0, none⟩)), (1, .pointer (some ⟨w.heap.size, 0, none⟩))]) (by intro x hx; simp only [List.mem_cons, List.not_mem_nil, or_false] at hx; rcases hx with rfl | rfl | rfl | rfl | rfl <;> simp)
        clear h178
        go_step
        go_step
        go_step
        go_step
        refine wpk_val h180 (wanted_none rfl) rfl (by decide) (by intro x hx; simp only [List.mem_cons, List.not_mem_nil, or_false] at hx; rcases hx with rfl | rfl | rfl | rfl | rfl <;> simp) (.int .i64 (j : Int)) (by unfold execOp; simp only [h180.eval (k := 4) (v := .int .i64 (j : Int)) (by simp)]; rfl) fun a182 h181 => ?_
        refine wpk_val h181 (wanted_none rfl) rfl (by decide) (by intro x hx; simp only [List.mem_cons, List.not_mem_nil, or_false] at hx; rcases hx with rfl | rfl | rfl | rfl | rfl | rfl <;> simp) (.int .i64 ((j + 1 : Nat) : Int)) (by unfold execOp; simp only [h181.eval (k := 46) (v := .int .i64 (j : Int)) (by simp)]; exact run_v (addI1 _ _ j (by omega) _)) fun a184 h183 => ?_
        have h185 := h183.sub (l' := [(47, .int .i64 ((j + 1 : Nat) : Int)), (46, .int .i64 (j : Int)), (3, .slice na2 (j + 1) nc2), (5, .string (bsW (P.N[j].take 20))), (2, .pointer (some ⟨w1.heap.size, 0, none⟩)), (1, .pointer (some ⟨w.heap.size, 0, none⟩))]) (by intro x hx; simp only [List.mem_cons, List.not_mem_nil, or_false] at hx; rcases hx with rfl | rfl | rfl | rfl | rfl | rfl <;> simp)
        clear h183
        refine wpk_val h185 (wanted_none rfl) rfl (by decide) (by intro x hx; simp only [List.mem_cons, List.not_mem_nil, or_false] at hx; rcases hx with rfl | rfl | rfl | rfl | rfl | rfl <;> simp) (.int .i64 ((j + 1 : Nat) : Int)) (by unfold execOp; simp only [h185.eval (k := 47) (v := .int .i64 ((j + 1 : Nat) : Int)) (by simp)]; rfl) fun a187 h186 => ?_
        have h188 := h186.sub (l' := [(4, .int .i64 ((j + 1 : Nat) : Int)), (3, .slice na2 (j + 1) nc2), (5, .string (bsW (P.N[j].take 20))), (2, .pointer (some ⟨w1.heap.size, 0, none⟩)), (1, .pointer (some ⟨w.heap.size, 0, none⟩))]) (by intro x hx; simp only [List.mem_cons, List.not_mem_nil, or_false] at hx; rcases hx with rfl | rfl | rfl | rfl | rfl <;> simp)
        clear h186
        go_step
        go_step
        have h189 := h188.sub (l' := [(4, .int .i64 ((j + 1 : Nat) : Int)), (3, .slice na2 (j + 1) nc2), (2, .pointer (some ⟨w1.heap.size, 0, none⟩)), (1, .pointer (some ⟨w.heap.size, 0, none⟩))]) (by intro x hx; simp only [List.mem_cons, List.not_mem_nil, or_false] at hx; rcases hx with rfl | rfl | rfl | rfl <;> simp)
        clear h188
        refine ⟨⟨j + 1, na2, nc2, hstep.1, h189, by rw [hstep.2]; exact OOn.out, KPn.out, KRn.out, BPn.out⟩, ?_⟩
        rw [h189.eval (k := 4) (v := .int .i64 ((j + 1 : Nat) : Int)) (by simp), hK.eval (k := 4) (v := .int .i64 (j : Int)) (by simp)]; simp [intOf]; have := hstep.1; omega
      · have hd : decide ((20 : Int) < (P.N[j].length : Int)) = false := decide_eq_false (by omega)
        have e20 : P.N[j].take 20 = P.N[j] := List.take_of_length_le (by omega)
        rw [e20] at hstep
        go_step
        go_step
        go_step
        go_step
        refine wpk_val hK (wanted_none rfl) rfl (by decide) (by intro x hx; simp only [List.mem_cons, List.not_mem_nil, or_false] at hx; rcases hx with rfl | rfl | rfl | rfl <;> simp) (.int .i64 (j : Int)) (by unfold execOp; simp only [hK.eval (k := 4) (v := .int .i64 (j : Int)) (by simp)]; rfl) fun a191 h190 => ?_
        refine wpk_val h190 (wanted_none rfl) rfl (by decide) (by intro x hx; simp only [List.mem_cons, List.not_mem_nil, or_false] at hx; rcases hx with rfl | rfl | rfl | rfl | rfl <;> simp) (.pointer (some ⟨w.heap.size, 20, none⟩)) (by unfold execOp; simp only [h190.eval (k := 1) (v := .pointer (some ⟨w.heap.size, 0, none⟩)) (by simp)]; exact run_v (fa_35_0_13 (w.heap.size) _)) fun a193 h192 => ?_
        refine wpk_val h192 (wanted_none rfl) rfl (by decide) (by intro x hx; simp only [List.mem_cons, List.not_mem_nil, or_false] at hx; rcases hx with rfl | rfl | rfl | rfl | rfl | rfl <;> simp) (.pointer (some ⟨w.heap.size, 23, none⟩)) (by unfold execOp; simp only [h192.eval (k := 37) (v := .pointer (some ⟨w.heap.size, 20, none⟩)) (by simp)]; exact run_v (fa_29_20_3 (w.heap.size) _)) fun a195 h194 => ?_
        refine wpk_val h194 (wanted_none rfl) rfl (by decide) (by intro x hx; simp only [List.mem_cons, List.not_mem_nil, or_false] at hx; rcases hx with rfl | rfl | rfl | rfl | rfl | rfl | rfl <;> simp) (.slice a P.N.length c) (by unfold execOp; simp only [h194.eval (k := 38) (v := .pointer (some ⟨w.heap.size, 23, none⟩)) (by simp)]; exact run_v (loadN (KPj.out.cell (i := 23) (by show 23 < 43; omega)))) fun a197 h196 => ?_
        refine wpk_val h196 (wanted_none rfl) rfl (by decide) (by intro x hx; simp only [List.mem_cons, List.not_mem_nil, or_false] at hx; rcases hx with rfl | rfl | rfl | rfl | rfl | rfl | rfl | rfl <;> simp) (.int .i64 (P.N.length : Int)) (run_lenS rfl (h196.eval (k := 39) (v := .slice a P.N.length c) (by simp)) _) fun a199 h198 => ?_
        refine wpk_val h198 (wanted_none rfl) rfl (by decide) (by intro x hx; simp only [List.mem_cons, List.not_mem_nil, or_false] at hx; rcases hx with rfl | rfl | rfl | rfl | rfl | rfl | rfl | rfl | rfl <;> simp) (.bool true) (by unfold execOp; simp only [h198.eval (k := 36) (v := .int .i64 (j : Int)) (by simp), h198.eval (k := 40) (v := .int .i64 (P.N.length : Int)) (by simp)]; exact run_v (ltIb _ _ _ _ _ dN)) fun a201 h200 => ?_
        refine wpk_val h200 (wanted_none rfl) rfl (by decide) (by intro x hx; simp only [List.mem_cons, List.not_mem_nil, or_false] at hx; rcases hx with rfl | rfl | rfl | rfl | rfl | rfl | rfl | rfl | rfl | rfl <;> simp) (.bool true) (by unfold execOp; simp only [h200.eval (k := 41) (v := .bool true) (by simp)]; rfl) fun a203 h202 => ?_
        refine wpk_val h202 (by rw [wanted_of (g := 6) (want := true) (b := true) rfl (h202.yields (prev := 42) rfl (by simp))]; rfl) rfl (by decide) (by intro x hx; simp only [List.mem_cons, List.not_mem_nil, or_false] at hx; rcases hx with rfl | rfl | rfl | rfl | rfl | rfl | rfl | rfl | rfl | rfl | rfl <;> simp) (.int .i64 (j : Int)) (by unfold execOp; simp only [h202.eval (k := 4) (v := .int .i64 (j : Int)) (by simp)]; rfl) fun a205 h204 => ?_
        refine wpk_val h204 (by rw [wanted_of (g := 6) (want := true) (b := true) rfl (h204.yields (prev := 42) rfl (by simp))]; rfl) rfl (by decide) (by intro x hx; simp only [List.mem_cons, List.not_mem_nil, or_false] at hx; rcases hx with rfl | rfl | rfl | rfl | rfl | rfl | rfl | rfl | rfl | rfl | rfl | rfl <;> simp) (.bool true) (by unfold execOp; simp only [h204.eval (k := 43) (v := .int .i64 (j : Int)) (by simp)]; exact run_v (ltIb _ _ _ _ _ d2)) fun a207 h206 => ?_
        refine wpk_val h206 (wanted_none rfl) rfl (by decide) (by intro x hx; simp only [List.mem_cons, List.not_mem_nil, or_false] at hx; rcases hx with rfl | rfl | rfl | rfl | rfl | rfl | rfl | rfl | rfl | rfl | rfl | rfl | rfl <;> simp) (.bool true) (run_pick rfl (h206.eval (k := 42) (v := .bool true) (by simp)) (by rw [if_pos rfl]; exact h206.eval (k := 44) (v := .bool true) (by simp))) fun a209 h208 => ?_
        have h210 := h208.sub (l' := [(45, .bool true), (4, .int .i64 (j : Int)), (3, .slice na j nc), (2, .pointer (some ⟨w1.heap.size, 0, none⟩)), (1, .pointer (some ⟨w.heap.size, 0, none⟩))]) (by intro x hx; simp only [List.mem_cons, List.not_mem_nil, or_false] at hx; rcases hx with rfl | rfl | rfl | rfl | rfl <;> simp)
        clear h208
        go_step
        go_step
        go_step
        refine wp_cond (t := true) (h210.eval (k := 45) (v := .bool true) (by simp)) ?_
        simp only [if_true]
        have h211 := h210.sub (l' := [(4, .int .i64 (j : Int)), (3, .slice na j nc), (2, .pointer (some ⟨w1.heap.size, 0, none⟩)), (1, .pointer (some ⟨w.heap.size, 0, none⟩))]) (by intro x hx; simp only [List.mem_cons, List.not_mem_nil, or_false] at hx; rcases hx with rfl | rfl | rfl | rfl <;> simp)
        clear h210
        go_step
        go_step
        go_step
        go_step
        go_step
        go_step
        go_step
        refine wpk_val h211 (wanted_none rfl) rfl (by decide) (by intro x hx; simp only [List.mem_cons, List.not_mem_nil, or_false] at hx; rcases hx with rfl | rfl | rfl | rfl <;> simp) (.pointer (some ⟨w.heap.size, 20, none⟩)) (by unfold execOp; simp only [h211.eval (k := 1) (v := .pointer (some ⟨w.heap.size, 0, none⟩)) (by simp)]; exact run_v (fa_35_0_13 (w.heap.size) _)) fun a213 h212 => ?_
        refine wpk_val h212 (wanted_none rfl) rfl (by decide) (by intro x hx; simp only [List.mem_cons, List.not_mem_nil, or_false] at hx; rcases hx with rfl | rfl | rfl | rfl | rfl <;> simp) (.pointer (some ⟨w.heap.size, 23, none⟩)) (by unfold execOp; simp only [h212.eval (k := 48) (v := .pointer (some ⟨w.heap.size, 20, none⟩)) (by simp)]; exact run_v (fa_29_20_3 (w.heap.size) _)) fun a215 h214 => ?_
        refine wpk_val h214 (wanted_none rfl) rfl (by decide) (by intro x hx; simp only [List.mem_cons, List.not_mem_nil, or_false] at hx; rcases hx with rfl | rfl | rfl | rfl | rfl | rfl <;> simp) (.slice a P.N.length c) (by unfold execOp; simp only [h214.eval (k := 49) (v := .pointer (some ⟨w.heap.size, 23, none⟩)) (by simp)]; exact run_v (loadN (KPj.out.cell (i := 23) (by show 23 < 43; omega)))) fun a217 h216 => ?_
        refine wpk_val h216 (wanted_none rfl) rfl (by decide) (by intro x hx; simp only [List.mem_cons, List.not_mem_nil, or_false] at hx; rcases hx with rfl | rfl | rfl | rfl | rfl | rfl | rfl <;> simp) (.int .i64 (j : Int)) (by unfold execOp; simp only [h216.eval (k := 4) (v := .int .i64 (j : Int)) (by simp)]; rfl) fun a219 h218 => ?_
        refine wpk_val h218 (wanted_none rfl) rfl (by decide) (by intro x hx; simp only [List.mem_cons, List.not_mem_nil, or_false] at hx; rcases hx with rfl | rfl | rfl | rfl | rfl | rfl | rfl | rfl <;> simp) (.pointer (some ⟨nb, noff + j, none⟩)) (by unfold execOp; simp only [h218.eval (k := 50) (v := .slice a P.N.length c) (by simp), h218.eval (k := 51) (v := .int .i64 (j : Int)) (by simp)]; exact run_v (by rw [ha0]; exact ixSl nb noff P.N.length c j hlN _)) fun a221 h220 => ?_
        refine wpk_val h220 (wanted_none rfl) rfl (by decide) (by intro x hx; simp only [List.mem_cons, List.not_mem_nil, or_false] at hx; rcases hx with rfl | rfl | rfl | rfl | rfl | rfl | rfl | rfl | rfl <;> simp) (.string (bsW P.N[j])) (by unfold execOp; simp only [h220.eval (k := 52) (v := .pointer (some ⟨nb, noff + j, none⟩)) (by simp)]; exact run_v (loadS hcell)) fun a223 h222 => ?_
        refine wpk_val h222 (wanted_none rfl) rfl (by decide) (by intro x hx; simp only [List.mem_cons, List.not_mem_nil, or_false] at hx; rcases hx with rfl | rfl | rfl | rfl | rfl | rfl | rfl | rfl | rfl | rfl <;> simp) (.string (bsW P.N[j])) (by unfold execOp; simp only [h222.eval (k := 53) (v := .string (bsW P.N[j])) (by simp)]; rfl) fun a225 h224 => ?_
        have h226 := h224.sub (l' := [(5, .string (bsW P.N[j])), (4, .int .i64 (j : Int)), (3, .slice na j nc), (2, .pointer (some ⟨w1.heap.size, 0, none⟩)), (1, .pointer (some ⟨w.heap.size, 0, none⟩))]) (by intro x hx; simp only [List.mem_cons, List.not_mem_nil, or_false] at hx; rcases hx with rfl | rfl | rfl | rfl | rfl <;> simp)
        clear h224
        go_step
        go_step
        go_step
        go_step
        go_step
        go_step
        refine wpk_val h226 (wanted_none rfl) rfl (by decide) (by intro x hx; simp only [List.mem_cons, List.not_mem_nil, or_false] at hx; rcases hx with rfl | rfl | rfl | rfl | rfl <;> simp) (.string (bsW P.N[j])) (by unfold execOp; simp only [h226.eval (k := 5) (v := .string (bsW P.N[j])) (by simp)]; rfl) fun a228 h227 => ?_
        refine wpk_val h227 (wanted_none rfl) rfl (by decide) (by intro x hx; simp only [List.mem_cons, List.not_mem_nil, or_false] at hx; rcases hx with rfl | rfl | rfl | rfl | rfl | rfl <;> simp) (.int .i64 (P.N[j].length : Int)) (run_lenStr rfl (h227.eval (k := 54) (v := .string (bsW P.N[j])) (by simp)) _) fun a230 h229 => ?_
        refine wpk_val h229 (wanted_none rfl) rfl (by decide) (by intro x hx; simp only [List.mem_cons, List.not_mem_nil, or_false] at hx; rcases hx with rfl | rfl | rfl | rfl | rfl | rfl | rfl <;> simp) (.bool false) (by unfold execOp; simp only [h229.eval (k := 55) (v := .int .i64 (P.N[j].length : Int)) (by simp)]; exact run_v (gtIb _ _ _ _ _ hd)) fun a232 h231 => ?_
        have h233 := h231.sub (l' := [(56, .bool false), (5, .string (bsW P.N[j])), (4, .int .i64 (j : Int)), (3, .slice na j nc), (2, .pointer (some ⟨w1.heap.size, 0, none⟩)), (1, .pointer (some ⟨w.heap.size, 0, none⟩))]) (by intro x hx; simp only [List.mem_cons, List.not_mem_nil, or_false] at hx; rcases hx with rfl | rfl | rfl | rfl | rfl | rfl <;> simp)
        clear h231
        go_step
        go_step
        go_step
        refine wp_cond (t := false) (h233.eval (k := 56) (v := .bool false) (by simp)) ?_
        simp only [Bool.false_eq_true, if_false]
        have h234 := h233.sub (l' := [(5, .string (bsW P.N[j])), (4, .int .i64 (j : Int)), (3, .slice na j nc), (2, .pointer (some ⟨w1.heap.size, 0, none⟩)), (1, .pointer (some ⟨w.heap.size, 0, none⟩))]) (by intro x hx; simp only [List.mem_cons, List.not_mem_nil, or_false] at hx; rcases hx with rfl | rfl | rfl | rfl | rfl <;> simp)
        clear h233
        go_step
        go_step
        go_step
        go_step
        refine wpk_val h234 (wanted_none rfl) rfl (by decide) (by intro x hx; simp only [List.mem_cons, List.not_mem_nil, or_false] at hx; rcases hx with rfl | rfl | rfl | rfl | rfl <;> simp) (.slice na j nc) (by unfold execOp; simp only [h234.eval (k := 3) (v := .slice na j nc) (by simp)]; rfl) fun a236 h235 => ?_
        refine wpk_val h235 (wanted_none rfl) rfl (by decide) (by intro x hx; simp only [List.mem_cons, List.not_mem_nil, or_false] at hx; rcases hx with rfl | rfl | rfl | rfl | rfl | rfl <;> simp) (.string (bsW P.N[j])) (by unfold execOp; simp only [h235.eval (k := 5) (v := .string (bsW P.N[j])) (by simp)]; rfl) fun a238 h237 => ?_
        refine wpk_val h237 (wanted_none rfl) rfl (by decide) (by intro x hx; simp only [List.mem_cons, List.not_mem_nil, or_false] at hx; rcases hx with rfl | rfl | rfl | rfl | rfl | rfl | rfl <;> simp) (.slice (some ⟨wL.heap.size, 0, none⟩) 1 1) (by unfold execOp; simp only [List.map_toArray, List.map_cons, List.map_nil, h237.eval (k := 60) (v := .string (bsW P.N[j])) (by simp)]; exact run_v (buildStr _ _)) fun a240 h239 => ?_
        have R6 := hid (row_new1 wL (.string (bsW P.N[j])) 9); have O6 := hid (Own.mono HOj.out (albO wL (.cells #[.string (bsW P.N[j])] 9))); have KP6 := hid (KPj.out.mono (albO wL (.cells #[.string (bsW P.N[j])] 9))); have KR6 := hid (KRj.out.mono (albO wL (.cells #[.string (bsW P.N[j])] 9))); have B6 := hid (kept_alloc BPj.out (.cells #[.string (bsW P.N[j])] 9))
        refine wpl_append rfl (.tmp 59) (.tmp 61) rfl ESW w.heap.size (h239.eval (k := 59) (v := .slice na j nc) (by simp)) (h239.eval (k := 61) (v := .slice (some ⟨wL.heap.size, 0, none⟩) 1 1) (by simp)) O6.out R6.out (by intro u hu; simp only [List.mem_cons, List.not_mem_nil, or_false] at hu; subst hu; rfl) (by omega) (by omega) B6.out.size ?_
        intro na2 nc2 w5 o5 g5 b5
        refine wpk_enter (h239.put (d := 62) (by decide) (by intro x hx; simp only [List.mem_cons, List.not_mem_nil, or_false] at hx; rcases hx with rfl | rfl | rfl | rfl | rfl | rfl | rfl | rfl <;> simp) (.slice na2 (j + 1) nc2)) fun a242 h241 => ?_
        have KPn := hid (blk_keepsW O6.out KP6.out g5 (by decide)); have KRn := hid (blk_keepsW O6.out KR6.out g5 (by decide)); have BPn := hid (B6.out.trans b5); have OOn := hid o5
        have h243 := h241.sub (l' := [(62, .slice na2 (j + 1) nc2), (61, .slice (some ⟨wL.heap.size, 0, none⟩) 1 1), (60, .string (bsW P.N[j])), (59, .slice na j nc), (5, .string (bsW P.N[j])), (4, .int .i64 (j : Int)), (2, .pointer (some ⟨w1.heap.size, 0, none⟩)), (1, .pointer (some ⟨w.heap.size, 0, none⟩))]) (by intro x hx; simp only [List.mem_cons, List.not_mem_nil, or_false] at hx; rcases hx with rfl | rfl | rfl | rfl | rfl | rfl | rfl | rfl <;> simp)
        clear h241
        refine wpk_val h243 (wanted_none rfl) rfl (by decide) (by intro x hx; simp only [List.mem_cons, List.not_mem_nil, or_false] at hx; rcases hx with rfl | rfl | rfl | rfl | rfl | rfl | rfl | rfl <;> simp) (.slice na2 (j + 1) nc2) (by unfold execOp; simp only [h243.eval (k := 62) (v := .slice na2 (j + 1) nc2) (by simp)]; rfl) fun a245 h244 => ?_
        have h246 := h244.sub (l' := [(3, .slice na2 (j + 1) nc2), (5, .string (bsW P.N[j])), (4, .int .i64 (j : Int)), (2, .pointer (some ⟨w1.heap.size, 0, none⟩)), (1, .pointer (some ⟨w.heap.size, 0, none⟩))]) (by intro x hx; simp only [List.mem_cons, List.not_mem_nil, or_false] at hx; rcases hx with rfl | rfl | rfl | rfl | rfl <;> simp)
        clear h244
        go_step
        go_step
        go_step
        go_step
        refine wpk_val h246 (wanted_none rfl) rfl (by decide) (by intro x hx; simp only [List.mem_cons, List.not_mem_nil, or_false] at hx; rcases hx with rfl | rfl | rfl | rfl | rfl <;> simp) (.int .i64 (j : Int)) (by unfold execOp; simp only [h246.eval (k := 4) (v := .int .i64 (j : Int)) (by simp)]; rfl) fun a248 h247 => ?_
        refine wpk_val h247 (wanted_none rfl) rfl (by decide) (by intro x hx; simp only [List.mem_cons, List.not_mem_nil, or_false] at hx; rcases hx with rfl | rfl | rfl | rfl | rfl | rfl <;> simp) (.int .i64 ((j + 1 : Nat) : Int)) (by unfold execOp; simp only [h247.eval (k := 46) (v := .int .i64 (j : Int)) (by simp)]; exact run_v (addI1 _ _ j (by omega) _)) fun a250 h249 => ?_
        have h251 := h249.sub (l' := [(47, .int .i64 ((j + 1 : Nat) : Int)), (46, .int .i64 (j : Int)), (3, .slice na2 (j + 1) nc2), (5, .string (bsW P.N[j])), (2, .pointer (some ⟨w1.heap.size, 0, none⟩)), (1, .pointer (some ⟨w.heap.size, 0, none⟩))]) (by intro x hx; simp only [List.mem_cons, List.not_mem_nil, or_false] at hx; rcases hx with rfl | rfl | rfl | rfl | rfl | rfl <;> simp)
        clear h249
        refine wpk_val h251 (wanted_none rfl) rfl (by decide) (by intro x hx; simp only [List.mem_cons, List.not_mem_nil, or_false] at hx; rcases hx with rfl | rfl | rfl | rfl | rfl | rfl <;> simp) (.int .i64 ((j + 1 : Nat) : Int)) (by unfold execOp; simp only [h251.eval (k := 47) (v := .int .i64 ((j + 1 : Nat) : Int)) (by simp)]; rfl) fun a253 h252 => ?_
        have h254 := h252.sub (l' := [(4, .int .i64 ((j + 1 : Nat) : Int)), (3, .slice na2 (j + 1) nc2), (5, .string (bsW P.N[j])), (2, .pointer (some ⟨w1.heap.size, 0, none⟩)), (1, .pointer (some ⟨w.heap.size, 0, none⟩))]) (by intro x hx; simp only [List.mem_cons, List.not_mem_nil, or_false] at hx; rcases hx with rfl | rfl | rfl | rfl | rfl <;> simp)
        clear h252
        go_step
        go_step
        have h255 := h254.sub (l' := [(4, .int .i64 ((j + 1 : Nat) : Int)), (3, .slice na2 (j + 1) nc2), (2, .pointer (some ⟨w1.heap.size, 0, none⟩)), (1, .pointer (some ⟨w.heap.size, 0, none⟩))]) (by intro x hx; simp only [List.mem_cons, List.not_mem_nil, or_false] at hx; rcases hx with rfl | rfl | rfl | rfl <;> simp)
        clear h254
        refine ⟨⟨j + 1, na2, nc2, hstep.1, h255, by rw [hstep.2]; exact OOn.out, KPn.out, KRn.out, BPn.out⟩, ?_⟩
        rw [h255.eval (k := 4) (v := .int .i64 ((j + 1 : Nat) : Int)) (by simp), hK.eval (k := 4) (v := .int .i64 (j : Int)) (by simp)]; simp [intOf]; have := hstep.1; omega
    · have d2 : decide ((j : Int) < 20) = false := decide_eq_false (by omega)
      have hjn : j = L.length := by have := HLL.out; omega
      go_step
      go_step
      go_step
      go_step
      refine wpk_val hK (wanted_none rfl) rfl (by decide) (by intro x hx; simp only [List.mem_cons, List.not_mem_nil, or_false] at hx; rcases hx with rfl | rfl | rfl | rfl <;> simp) (.int .i64 (j : Int)) (by unfold execOp; simp only [hK.eval (k := 4) (v := .int .i64 (j : Int)) (by simp)]; rfl) fun a257 h256 => ?_
      refine wpk_val h256 (wanted_none rfl) rfl (by decide) (by intro x hx; simp only [List.mem_cons, List.not_mem_nil, or_false] at hx; rcases hx with rfl | rfl | rfl | rfl | rfl <;> simp) (.pointer (some ⟨w.heap.size, 20, none⟩)) (by unfold execOp; simp only [h256.eval (k := 1) (v := .pointer (some ⟨w.heap.size, 0, none⟩)) (by simp)]; exact run_v (fa_35_0_13 (w.heap.size) _)) fun a259 h258 => ?_
      refine wpk_val h258 (wanted_none rfl) rfl (by decide) (by intro x hx; simp only [List.mem_cons, List.not_mem_nil, or_false] at hx; rcases hx with rfl | rfl | rfl | rfl | rfl | rfl <;> simp) (.pointer (some ⟨w.heap.size, 23, none⟩)) (by unfold execOp; simp only [h258.eval (k := 37) (v := .pointer (some ⟨w.heap.size, 20, none⟩)) (by simp)]; exact run_v (fa_29_20_3 (w.heap.size) _)) fun a261 h260 => ?_
      refine wpk_val h260 (wanted_none rfl) rfl (by decide) (by intro x hx; simp only [List.mem_cons, List.not_mem_nil, or_false] at hx; rcases hx with rfl | rfl | rfl | rfl | rfl | rfl | rfl <;> simp) (.slice a P.N.length c) (by unfold execOp; simp only [h260.eval (k := 38) (v := .pointer (some ⟨w.heap.size, 23, none⟩)) (by simp)]; exact run_v (loadN (KPj.out.cell (i := 23) (by show 23 < 43; omega)))) fun a263 h262 => ?_
      refine wpk_val h262 (wanted_none rfl) rfl (by decide) (by intro x hx; simp only [List.mem_cons, List.not_mem_nil, or_false] at hx; rcases hx with rfl | rfl | rfl | rfl | rfl | rfl | rfl | rfl <;> simp) (.int .i64 (P.N.length : Int)) (run_lenS rfl (h262.eval (k := 39) (v := .slice a P.N.length c) (by simp)) _) fun a265 h264 => ?_
      refine wpk_val h264 (wanted_none rfl) rfl (by decide) (by intro x hx; simp only [List.mem_cons, List.not_mem_nil, or_false] at hx; rcases hx with rfl | rfl | rfl | rfl | rfl | rfl | rfl | rfl | rfl <;> simp) (.bool true) (by unfold execOp; simp only [h264.eval (k := 36) (v := .int .i64 (j : Int)) (by simp), h264.eval (k := 40) (v := .int .i64 (P.N.length : Int)) (by simp)]; exact run_v (ltIb _ _ _ _ _ dN)) fun a267 h266 => ?_
      refine wpk_val h266 (wanted_none rfl) rfl (by decide) (by intro x hx; simp only [List.mem_cons, List.not_mem_nil, or_false] at hx; rcases hx with rfl | rfl | rfl | rfl | rfl | rfl | rfl | rfl | rfl | rfl <;> simp) (.bool true) (by unfold execOp; simp only [h266.eval (k := 41) (v := .bool true) (by simp)]; rfl) fun a269 h268 => ?_
      refine wpk_val h268 (by rw [wanted_of (g := 6) (want := true) (b := true) rfl (h268.yields (prev := 42) rfl (by simp))]; rfl) rfl (by decide) (by intro x hx; simp only [List.mem_cons, List.not_mem_nil, or_false] at hx; rcases hx with rfl | rfl | rfl | rfl | rfl | rfl | rfl | rfl | rfl | rfl | rfl <;> simp) (.int .i64 (j : Int)) (by unfold execOp; simp only [h268.eval (k := 4) (v := .int .i64 (j : Int)) (by simp)]; rfl) fun a271 h270 => ?_
      refine wpk_val h270 (by rw [wanted_of (g := 6) (want := true) (b := true) rfl (h270.yields (prev := 42) rfl (by simp))]; rfl) rfl (by decide) (by intro x hx; simp only [List.mem_cons, List.not_mem_nil, or_false] at hx; rcases hx with rfl | rfl | rfl | rfl | rfl | rfl | rfl | rfl | rfl | rfl | rfl | rfl <;> simp) (.bool false) (by unfold execOp; simp only [h270.eval (k := 43) (v := .int .i64 (j : Int)) (by simp)]; exact run_v (ltIb _ _ _ _ _ d2)) fun a273 h272 => ?_
      refine wpk_val h272 (wanted_none rfl) rfl (by decide) (by intro x hx; simp only [List.mem_cons, List.not_mem_nil, or_false] at hx; rcases hx with rfl | rfl | rfl | rfl | rfl | rfl | rfl | rfl | rfl | rfl | rfl | rfl | rfl <;> simp) (.bool false) (run_pick rfl (h272.eval (k := 42) (v := .bool true) (by simp)) (by rw [if_pos rfl]; exact h272.eval (k := 44) (v := .bool false) (by simp))) fun a275 h274 => ?_
      have h276 := h274.sub (l' := [(45, .bool false), (4, .int .i64 (j : Int)), (3, .slice na j nc), (2, .pointer (some ⟨w1.heap.size, 0, none⟩)), (1, .pointer (some ⟨w.heap.size, 0, none⟩))]) (by intro x hx; simp only [List.mem_cons, List.not_mem_nil, or_false] at hx; rcases hx with rfl | rfl | rfl | rfl | rfl <;> simp)
      clear h274
      go_step
      go_step
      go_step
      refine wp_cond (t := false) (h276.eval (k := 45) (v := .bool false) (by simp)) ?_
      simp only [Bool.false_eq_true, if_false]
      have h277 := h276.sub (l' := [(4, .int .i64 (j : Int)), (3, .slice na j nc), (2, .pointer (some ⟨w1.heap.size, 0, none⟩)), (1, .pointer (some ⟨w.heap.size, 0, none⟩))]) (by intro x hx; simp only [List.mem_cons, List.not_mem_nil, or_false] at hx; rcases hx with rfl | rfl | rfl | rfl <;> simp)
      clear h276
      go_step
      go_step
      go_step
      go_step
      go_step
      go_step
      go_step
      refine wpk_val h277 (wanted_none rfl) rfl (by decide) (by intro x hx; simp only [List.mem_cons, List.not_mem_nil, or_false] at hx; rcases hx with rfl | rfl | rfl | rfl <;> simp) (.slice na j nc) (by unfold execOp; simp only [h277.eval (k := 3) (v := .slice na j nc) (by simp)]; rfl) fun a279 h278 => ?_
      refine wpk_val h278 (wanted_none rfl) rfl (by decide) (by intro x hx; simp only [List.mem_cons, List.not_mem_nil, or_false] at hx; rcases hx with rfl | rfl | rfl | rfl | rfl <;> simp) (.pointer (some ⟨w.heap.size, 20, none⟩)) (by unfold execOp; simp only [h278.eval (k := 1) (v := .pointer (some ⟨w.heap.size, 0, none⟩)) (by simp)]; exact run_v (fa_35_0_13 (w.heap.size) _)) fun a281 h280 => ?_
      refine wpk_val h280 (wanted_none rfl) rfl (by decide) (by intro x hx; simp only [List.mem_cons, List.not_mem_nil, or_false] at hx; rcases hx with rfl | rfl | rfl | rfl | rfl | rfl <;> simp) (.pointer (some ⟨w.heap.size, 23, none⟩)) (by unfold execOp; simp only [h280.eval (k := 64) (v := .pointer (some ⟨w.heap.size, 20, none⟩)) (by simp)]; exact run_v (fa_29_20_3 (w.heap.size) _)) fun a283 h282 => ?_
      refine wpk_skipv h282 (wanted_none rfl) rfl (w' := wL.setCell ⟨w.heap.size, 23, none⟩ (.slice na j nc)) (by unfold execOp; simp only [h282.eval (k := 65) (v := .pointer (some ⟨w.heap.size, 23, none⟩)) (by simp), h282.eval (k := 63) (v := .slice na j nc) (by simp)]; exact run_u (storeN (KPj.out.cell (i := 23) (by show 23 < 43; omega)) (KPj.out.frozen 23) _ _ _)) fun a285 h284 => ?_
      have KPz := hid (KPj.out.set 23 (.slice na j nc)); have BPz := hid (below_grownS BPj.out (sg_set (sg_refl wL _) 23 (.slice na j nc)) (Nat.le_refl _) BPj.out.size); have KRz := hid (KRj.out.grownS (sg_set (sg_refl wL (some w.heap.size)) 23 (.slice na j nc)) (fun e => nE e.symm)); have HOz := hid (own_setW HOj.out KPj.out (by decide) 23 (.slice na j nc))
      have h286 := h284.sub (l' := [(4, .int .i64 (j : Int)), (3, .slice na j nc), (2, .pointer (some ⟨w1.heap.size, 0, none⟩)), (1, .pointer (some ⟨w.heap.size, 0, none⟩))]) (by intro x hx; simp only [List.mem_cons, List.not_mem_nil, or_false] at hx; rcases hx with rfl | rfl | rfl | rfl <;> simp)
      clear h284
      go_step
      go_step
      go_step
      go_step
      go_step
      have KF : Hid (Blk (wL.setCell ⟨w.heap.size, 23, none⟩ (.slice na j nc)) w.heap.size 35 (pkC (fewP P) na (fewP P).N.length nc)) := hid (by have z := KPz.out; rw [show (fewP P).N.length = j by rw [hjn, HL.out]; rfl]; exact z)
      refine wpk_val h286 (wanted_none rfl) rfl (by decide) (by intro x hx; simp only [List.mem_cons, List.not_mem_nil, or_false] at hx; rcases hx with rfl | rfl | rfl | rfl <;> simp) (.agg (pkC (fewP P) na (fewP P).N.length nc).toArray) (by unfold execOp; simp only [h286.eval (k := 1) (v := .pointer (some ⟨w.heap.size, 0, none⟩)) (by simp)]; exact run_v (run_loadAt_mid _ _ _ _ (pkC (fewP P) na (fewP P).N.length nc) _ KF.out.range Try.underlying35 rfl (by rw [infoPk]; rfl))) fun a288 h287 => ?_
      refine wpk_storeR h287 rfl rfl 35 rfl w1.heap.size 0 (h287.eval (k := 2) (v := .pointer (some ⟨w1.heap.size, 0, none⟩)) (by simp)) (pkC (fewP P) na (fewP P).N.length nc) (h287.eval (k := 66) (v := .agg (pkC (fewP P) na (fewP P).N.length nc).toArray) (by simp)) (by rw [infoPk]; rfl) (pkC_one _ _ _ _) KRz.out (by show 0 + 43 ≤ 43; omega) fun a290 w9 h289 k9 g9 => ?_
      rw [splice_all (by rfl)] at k9
      have h291 := h289.sub (l' := [(4, .int .i64 (j : Int)), (3, .slice na j nc), (2, .pointer (some ⟨w1.heap.size, 0, none⟩)), (1, .pointer (some ⟨w.heap.size, 0, none⟩))]) (by intro x hx; simp only [List.mem_cons, List.not_mem_nil, or_false] at hx; rcases hx with rfl | rfl | rfl | rfl <;> simp)
      clear h289
      go_step
      go_step
      go_step
      go_step
      refine bodyPost_ret (results_cell1' rfl (h291.known (2, .pointer (some ⟨w1.heap.size, 0, none⟩)) (by simp)) k9 Try.underlying35 rfl (by rw [infoPk]; rfl)) h291.defs ?_
      refine ⟨na, nc, rfl, ?_, below_grownS BPz.out g9 B1.out.size BPz.out.size⟩
      have z := own_setK HOz.out KRz.out g9
      rw [hjn, List.take_length] at z
      rw [HL.out] at z; exact z
  · have dN : decide ((j : Int) < (P.N.length : Int)) = false := decide_eq_false (by omega)
    have hjn : j = L.length := by have := HLL.out; omega
    go_step
    go_step
    go_step
    go_step
    refine wpk_val hK (wanted_none rfl) rfl (by decide) (by intro x hx; simp only [List.mem_cons, List.not_mem_nil, or_false] at hx; rcases hx with rfl | rfl | rfl | rfl <;> simp) (.int .i64 (j : Int)) (by unfold execOp; simp only [hK.eval (k := 4) (v := .int .i64 (j : Int)) (by simp)]; rfl) fun a293 h292 => ?_
    refine wpk_val h292 (wanted_none rfl) rfl (by decide) (by intro x hx; simp only [List.mem_cons, List.not_mem_nil, or_false] at hx; rcases hx with rfl | rfl | rfl | rfl | rfl <;> simp) (.pointer (some ⟨w.heap.size, 20, none⟩)) (by unfold execOp; simp only [h292.eval (k := 1) (v := .pointer (some ⟨w.heap.size, 0, none⟩)) (by simp)]; exact run_v (fa_35_0_13 (w.heap.size) _)) fun a295 h294 => ?_
    refine wpk_val h294 (wanted_none rfl) rfl (by decide) (by intro x hx; simp only [List.mem_cons, List.not_mem_nil, or_false] at hx; rcases hx with rfl | rfl | rfl | rfl | rfl | rfl <;> simp) (.pointer (some ⟨w.heap.size, 23, none⟩)) (by unfold execOp; simp only [h294.eval (k := 37) (v := .pointer (some ⟨w.heap.size, 20, none⟩)) (by simp)]; exact run_v (fa_29_20_3 (w.heap.size) _)) fun a297 h296 => ?_
    refine wpk_val h296 (wanted_none rfl) rfl (by decide) (by intro x hx; simp only [List.mem_cons, List.not_mem_nil, or_false] at hx; rcases hx with rfl | rfl | rfl | rfl | rfl | rfl | rfl <;> simp) (.slice a P.N.length c) (by unfold execOp; simp only [h296.eval (k := 38) (v := .pointer (some ⟨w.heap.size, 23, none⟩)) (by simp)]; exact run_v (loadN (KPj.out.cell (i := 23) (by show 23 < 43; omega)))) fun a299 h298 => ?_
    refine wpk_val h298 (wanted_none rfl) rfl (by decide) (by intro x hx; simp only [List.mem_cons, List.not_mem_nil, or_false] at hx; rcases hx with rfl | rfl | rfl | rfl | rfl | rfl | rfl | rfl <;> simp) (.int .i64 (P.N.length : Int)) (run_lenS rfl (h298.eval (k := 39) (v := .slice a P.N.length c) (by simp)) _) fun a301 h300 => ?_
    refine wpk_val h300 (wanted_none rfl) rfl (by decide) (by intro x hx; simp only [List.mem_cons, List.not_mem_nil, or_false] at hx; rcases hx with rfl | rfl | rfl | rfl | rfl | rfl | rfl | rfl | rfl <;> simp) (.bool false) (by unfold execOp; simp only [h300.eval (k := 36) (v := .int .i64 (j : Int)) (by simp), h300.eval (k := 40) (v := .int .i64 (P.N.length : Int)) (by simp)]; exact run_v (ltIb _ _ _ _ _ dN)) fun a303 h302 => ?_
    refine wpk_val h302 (wanted_none rfl) rfl (by decide) (by intro x hx; simp only [List.mem_cons, List.not_mem_nil, or_false] at hx; rcases hx with rfl | rfl | rfl | rfl | rfl | rfl | rfl | rfl | rfl | rfl <;> simp) (.bool false) (by unfold execOp; simp only [h302.eval (k := 41) (v := .bool false) (by simp)]; rfl) fun a305 h304 => ?_
    refine wpk_skip h304 (by rw [wanted_of (g := 6) (want := true) (b := false) rfl (h304.yields (prev := 42) rfl (by simp))]; rfl) rfl (by decide) (by intro x hx; simp only [List.mem_cons, List.not_mem_nil, or_false] at hx; rcases hx with rfl | rfl | rfl | rfl | rfl | rfl | rfl | rfl | rfl | rfl | rfl <;> simp) fun a307 h306 => ?_
    refine wpk_skip h306 (by rw [wanted_of (g := 6) (want := true) (b := false) rfl (h306.yields (prev := 42) rfl (by simp))]; rfl) rfl (by decide) (by intro x hx; simp only [List.mem_cons, List.not_mem_nil, or_false] at hx; rcases hx with rfl | rfl | rfl | rfl | rfl | rfl | rfl | rfl | rfl | rfl | rfl | rfl <;> simp) fun a309 h308 => ?_
    refine wpk_val h308 (wanted_none rfl) rfl (by decide) (by intro x hx; simp only [List.mem_cons, List.not_mem_nil, or_false] at hx; rcases hx with rfl | rfl | rfl | rfl | rfl | rfl | rfl | rfl | rfl | rfl | rfl | rfl | rfl <;> simp) (.bool false) (run_pick rfl (h308.eval (k := 42) (v := .bool false) (by simp)) rfl) fun a311 h310 => ?_
    have h312 := h310.sub (l' := [(45, .bool false), (4, .int .i64 (j : Int)), (3, .slice na j nc), (2, .pointer (some ⟨w1.heap.size, 0, none⟩)), (1, .pointer (some ⟨w.heap.size, 0, none⟩))]) (by intro x hx; simp only [List.mem_cons, List.not_mem_nil, or_false] at hx; rcases hx with rfl | rfl | rfl | rfl | rfl <;> simp)
    clear h310
    go_step
    go_step
    go_step
    refine wp_cond (t := false) (h312.eval (k := 45) (v := .bool false) (by simp)) ?_
    simp only [Bool.false_eq_true, if_false]
    have h313 := h312.sub (l' := [(4, .int .i64 (j : Int)), (3, .slice na j nc), (2, .pointer (some ⟨w1.heap.size, 0, none⟩)), (1, .pointer (some ⟨w.heap.size, 0, none⟩))]) (by intro x hx; simp only [List.mem_cons, List.not_mem_nil, or_false] at hx; rcases hx with rfl | rfl | rfl | rfl <;> simp)
    clear h312
    go_step
    go_step
    go_step
    go_step
    go_step
    go_step
    go_step
    refine wpk_val h313 (wanted_none rfl) rfl (by decide) (by intro x hx; simp only [List.mem_cons, List.not_mem_nil, or_false] at hx; rcases hx with rfl | rfl | rfl | rfl <;> simp) (.slice na j nc) (by unfold execOp; simp only [h313.eval (k := 3) (v := .slice na j nc) (by simp)]; rfl) fun a315 h314 => ?_
    refine wpk_val h314 (wanted_none rfl) rfl (by decide) (by intro x hx; simp only [List.mem_cons, List.not_mem_nil, or_false] at hx; rcases hx with rfl | rfl | rfl | rfl | rfl <;> simp) (.pointer (some ⟨w.heap.size, 20, none⟩)) (by unfold execOp; simp only [h314.eval (k := 1) (v := .pointer (some ⟨w.heap.size, 0, none⟩)) (by simp)]; exact run_v (fa_35_0_13 (w.heap.size) _)) fun a317 h316 => ?_
    refine wpk_val h316 (wanted_none rfl) rfl (by decide) (by intro x hx; simp only [List.mem_cons, List.not_mem_nil, or_false] at hx; rcases hx with rfl | rfl | rfl | rfl | rfl | rfl <;> simp) (.pointer (some ⟨w.heap.size, 23, none⟩)) (by unfold execOp; simp only [h316.eval (k := 64) (v := .pointer (some ⟨w.heap.size, 20, none⟩)) (by simp)]; exact run_v (fa_29_20_3 (w.heap.size) _)) fun a319 h318 => ?_
    refine wpk_skipv h318 (wanted_none rfl) rfl (w' := wL.setCell ⟨w.heap.size, 23, none⟩ (.slice na j nc)) (by unfold execOp; simp only [h318.eval (k := 65) (v := .pointer (some ⟨w.heap.size, 23, none⟩)) (by simp), h318.eval (k := 63) (v := .slice na j nc) (by simp)]; exact run_u (storeN (KPj.out.cell (i := 23) (by show 23 < 43; omega)) (KPj.out.frozen 23) _ _ _)) fun a321 h320 => ?_
    have KPz := hid (KPj.out.set 23 (.slice na j nc)); have BPz := hid (below_grownS BPj.out (sg_set (sg_refl wL _) 23 (.slice na j nc)) (Nat.le_refl _) BPj.out.size); have KRz := hid (KRj.out.grownS (sg_set (sg_refl wL (some w.heap.size)) 23 (.slice na j nc)) (fun e => nE e.symm)); have HOz := hid (own_setW HOj.out KPj.out (by decide) 23 (.slice na j nc))
    have h322 := h320.sub (l' := [(4, .int .i64 (j : Int)), (3, .slice na j nc), (2, .pointer (some ⟨w1.heap.size, 0, none⟩)), (1, .pointer (some ⟨w.heap.size, 0, none⟩))]) (by intro x hx; simp only [List.mem_cons, List.not_mem_nil, or_false] at hx; rcases hx with rfl | rfl | rfl | rfl <;> simp)
    clear h320
    go_step
    go_step
    go_step
    go_step
    go_step
    have KF : Hid (Blk (wL.setCell ⟨w.heap.size, 23, none⟩ (.slice na j nc)) w.heap.size 35 (pkC (fewP P) na (fewP P).N.length nc)) := hid (by have z := KPz.out; rw [show (fewP P).N.length = j by rw [hjn, HL.out]; rfl]; exact z)
    refine wpk_val h322 (wanted_none rfl) rfl (by decide) (by intro x hx; simp only [List.mem_cons, List.not_mem_nil, or_false] at hx; rcases hx with rfl | rfl | rfl | rfl <;> simp) (.agg (pkC (fewP P) na (fewP P).N.length nc).toArray) (by unfold execOp; simp only [h322.eval (k := 1) (v := .pointer (some ⟨w.heap.size, 0, none⟩)) (by simp)]; exact run_v (run_loadAt_mid _ _ _ _ (pkC (fewP P) na (fewP P).N.length nc) _ KF.out.range Try.underlying35 rfl (by rw [infoPk]; rfl))) fun a324 h323 => ?_
    refine wpk_storeR h323 rfl rfl 35 rfl w1.heap.size 0 (h323.eval (k := 2) (v := .pointer (some ⟨w1.heap.size, 0, none⟩)) (by simp)) (pkC (fewP P) na (fewP P).N.length nc) (h323.eval (k := 66) (v := .agg (pkC (fewP P) na (fewP P).N.length nc).toArray) (by simp)) (by rw [infoPk]; rfl) (pkC_one _ _ _ _) KRz.out (by show 0 + 43 ≤ 43; omega) fun a326 w9 h325 k9 g9 => ?_
    rw [splice_all (by rfl)] at k9
    have h327 := h325.sub (l' := [(4, .int .i64 (j : Int)), (3, .slice na j nc), (2, .pointer (some ⟨w1.heap.size, 0, none⟩)), (1, .pointer (some ⟨w.heap.size, 0, none⟩))]) (by intro x hx; simp only [List.mem_cons, List.not_mem_nil, or_false] at hx; rcases hx with rfl | rfl | rfl | rfl <;> simp)
    clear h325
    go_step
    go_step
    go_step
    go_step
    refine bodyPost_ret (results_cell1' rfl (h327.known (2, .pointer (some ⟨w1.heap.size, 0, none⟩)) (by simp)) k9 Try.underlying35 rfl (by rw [infoPk]; rfl)) h327.defs ?_
    refine ⟨na, nc, rfl, ?_, below_grownS BPz.out g9 B1.out.size BPz.out.size⟩
    have z := own_setK HOz.out KRz.out g9
    rw [hjn, List.take_length] at z
    rw [HL.out] at z; exact z
end Go.Proofs.Ytanediaaidfcaaa
