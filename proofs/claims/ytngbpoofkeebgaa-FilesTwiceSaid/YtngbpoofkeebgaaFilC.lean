/- FilesChanges, FilesTwice. (genFil.py) -/
import Derived.Test.YtngbpoofkeebgaaFilB
import Derived.Lib.SmallJoins
import Derived.Laws.Rows
namespace Go.Proofs.Ytngbpoofkeebgaa
open Go.RowKit Go.ChangeShapes Go.WideShapes Go.Joins
set_option linter.unusedSimpArgs false
set_option linter.unusedVariables false
set_option maxRecDepth 100000
theorem array5 {α : Type} {cs : Array α} (h : cs.size = 5) : ∃ a b c d e, cs = #[a, b, c, d, e] := by
  obtain ⟨l⟩ := cs
  match l, h with
  | [a, b, c, d, e], _ => exact ⟨a, b, c, d, e, rfl⟩
theorem trod_at16 {α : Type} {o : Option α} {l : List α} {j : Nat} (h : o = l[j]?) (hj : j < l.length) : ∃ y, o = some y := ⟨_, h.trans (List.getElem?_eq_getElem hj)⟩

theorem open_record {H : Type} {enc : TypeId × Value → H} {W : World} {base base' : Nat} {spare : Nat → Bool} {held : Bool} {v : Value} {d : DataW H} {p : List MemPlace}
    (hv : Value.okWide Try.prog W .any base' 23 v) (h : DataW.Trod enc Try.prog W base spare held 23 v d p) :
    ∃ (c i : Int) (t : Bool) (o : Int) (s : ByteArray), v = recV c i t o s := by
  obtain ⟨cs, rfl, hsz⟩ := okWide_struct Try.underlying23 hv
  have k5 : Try.prog.cellsOf 23 = 5 := by kernel_rfl
  have k1 : Try.prog.cellsOf 3 = 1 := by kernel_rfl
  have k2 : Try.prog.cellsOf 4 = 1 := by kernel_rfl
  have k3 : Try.prog.cellsOf 9 = 1 := by kernel_rfl
  obtain ⟨c0, c1, c2, c3, c4, rfl⟩ := array5 (hsz.trans k5)
  obtain ⟨fuel, hf⟩ := h
  obtain ⟨xs, n, _, hx, hl, hlen, hf⟩ := DataW.trod_struct Try.underlying23 hf
  have hlen' : xs.length = 5 := hlen
  obtain ⟨y0, h0⟩ := trod_at16 (hf 0 _ rfl) (by omega)
  obtain ⟨y1, h1⟩ := trod_at16 (hf 1 _ rfl) (by omega)
  obtain ⟨y2, h2⟩ := trod_at16 (hf 2 _ rfl) (by omega)
  obtain ⟨y3, h3⟩ := trod_at16 (hf 3 _ rfl) (by omega)
  obtain ⟨y4, h4⟩ := trod_at16 (hf 4 _ rfl) (by omega)
  simp [Value.cells, k1, k2, k3] at h0 h1 h2 h3 h4
  obtain ⟨n0, e0, _, w0⟩ := DataW.trod_int Try.underlying3 h0
  obtain ⟨n1, e1, _, w1⟩ := DataW.trod_int Try.underlying3 h1
  obtain ⟨n2, e2, _⟩ := DataW.trod_bool Try.underlying4 h2
  obtain ⟨n3, e3, _, w3⟩ := DataW.trod_int Try.underlying3 h3
  obtain ⟨n4, e4, _⟩ := DataW.trod_string Try.underlying9 h4
  simp only [List.cons.injEq, and_true] at e0 e1 e2 e3 e4
  subst e0 e1 e2 e3 e4
  exact ⟨n0, n1, n2, n3, n4, rfl⟩

theorem results_rec {fn : Func} {c : Tmp} (h : fn.results = #[.cell c 23]) {tmps : Array Value} {w : World} {g : Nat} {L : List Value} (hc : tmps.getD c undef = .pointer (some ⟨g, 0, none⟩)) (hb : Blk w g 23 L) (hl : L.length = 5) :
    (results fn tmps).run Try.prog w = .ok (.agg L.toArray) w := by
  have hv := run_loadVar_row (P := Try.prog) w g 23 23 L.toArray (0, 0) _ hb Try.underlying23 rfl (by
    have : (Try.prog.info? 23).map (·.size) = some 5 := by kernel_rfl
    rw [this]; simp [hl])
  have hc' : tmps[c]?.getD undef = .pointer (some ⟨g, 0, none⟩) := by simpa using hc
  simp [results, h, hc', asAddr, hv]

theorem blk2 (w : World) (o : Obj) (L : List Value) : Blk ((w.alloc o).alloc (.cells L.toArray 23)) (w.heap.size + 1) 23 L := by
  have := heap_alloc_new (w.alloc o) (.cells L.toArray 23)
  rw [show (w.alloc o).heap.size = w.heap.size + 1 from by simp] at this
  exact this
theorem wpk_storeR {P : Program} {ops : Array Oper} {Q : Exit → Act → World → Prop} {rest : List Oper} {o : Oper} {a : Act} {w : World} {N : Nat} {l : List (Nat × Value)} (h : Kn N l a) (hw : o.guard = none) (hd : o.dst = none) {T : TypeId} {x y : Operand} (ho : o.op = .store T x y) (g off : Nat) (hx : a.eval x = .pointer (some ⟨g, off, none⟩)) (vs : List Value) (hy : a.eval y = .agg vs.toArray) (hn : (P.info? T).map (·.size) = some vs.length) (h1 : ∀ v ∈ vs, v.oneCell' = true) {e : TypeId} {L : List Value} (hb : Blk w g e L) (hL : off + vs.length ≤ L.length)
    (k : ∀ a' w', Kn N l a' → Blk w' g e (splice L off vs) → w.grownBy w' (some g) → wpList P ops Q rest a' w') : wpList P ops Q (o :: rest) a w := by
  refine wpl_storeM hw T x y ho g off hx vs hy hn h1 hb hL fun w' hb' hg => ?_
  rw [hd]
  exact k a w' h hb' hg
/-- what rounding up leaves -/
theorem splice_allF {α : Type} {L vs : List α} (h : L.length = vs.length) : splice L 0 vs = vs := splice_all h
theorem Code.wp_weak {P : Program} {c : Code} {Q Q' : Exit → Act → World → Prop} {a : Act} {w : World} (h : c.wp P Q a w) (k : ∀ e a w, Q e a w → Q' e a w) : c.wp P Q' a w := fun b kk cs => by
  obtain ⟨e, a', w', hq, har⟩ := h b kk cs
  exact ⟨e, a', w', k _ _ _ hq, har⟩
theorem wp_join {P : Program} {c y : Code} {Q : Exit → Act → World → Prop} {a : Act} {w : World} (J : Act → World → Prop) (h1 : c.wp P (Exit.then J Q) a w) (h2 : ∀ a' w', J a' w' → y.wp P Q a' w') : (Code.seq c y).wp P Q a w :=
  wp_seq (Code.wp_weak h1 fun e a w hq => by
    cases e with
    | normal => exact h2 _ _ hq
    | _ => exact hq)
set_option maxHeartbeats 1000000 in
theorem cut15_rec (c i : Int) (t : Bool) (o : Int) (s : ByteArray) (w : World) :
    Calls Try.prog 5 #[recV c i t o s] w fun en w' => (∃ s' : ByteArray, en = .returned (recV c i t o s') ∧ s'.size ≤ 80) ∧ Below w.heap.size w w' := by
  unfold recV
  by_cases h : 80 < s.size
  · go_enter Try.func5, Try.ntmps5
    go_wp2_with fail
    refine bodyPost_ret (results_rec rfl rfl (blk2 w _ _) rfl) rfl ⟨⟨_, rfl, ?_⟩, ((Below.refl _ w).alloc (Nat.le_refl _) _).alloc (by simp) _⟩
    simp [ByteArray.size_extract]
    try omega
  · go_enter Try.func5, Try.ntmps5
    go_wp2_with fail
    refine bodyPost_ret (results_rec rfl rfl (blk2 w _ _) rfl) rfl ⟨⟨_, rfl, ?_⟩, ((Below.refl _ w).alloc (Nat.le_refl _) _).alloc (by simp) _⟩
    omega
theorem cut15_any (r : RecT) (w : World) : Calls Try.prog 5 #[.agg (recL r).toArray] w fun e w' => (∃ r2 : RecT, e = .returned (.agg (recL r2).toArray) ∧ r2.d.length ≤ 1000000) ∧ Below w.heap.size w w' :=
  (cut15_rec r.c r.i r.t r.o (fB r.d) w).mono fun e w' q => by
    obtain ⟨⟨s, q1, q2⟩, q3⟩ := q
    obtain ⟨l, rfl⟩ := fB_of s
    rw [fB_size] at q2
    exact ⟨⟨⟨r.c, r.i, r.t, r.o, l⟩, q1, by show l.length ≤ _; omega⟩, q3⟩
def liveR1 : RecT := ⟨0, 1, false, 5, [120, 121]⟩
def liveR2 : RecT := ⟨0, 1, true, 1, []⟩
theorem live1e : chE [97, 98, 99] liveR1 = 0 := by decide +kernel
theorem live1b : chB [97, 98, 99] liveR1 = [97, 98, 99, 0, 0, 120, 121] := by decide +kernel
theorem live2e : chE [97, 98, 99] liveR2 = 0 := by decide +kernel
theorem live2b : chB [97, 98, 99] liveR2 = [97] := by decide +kernel
theorem buildLive1 (w : World) : (Instr.build 23 #[(1, .int .i64 1), (3, .int .i64 5), (4, .string (fB [120, 121]))]).run Try.prog w = .ok (.agg (recL liveR1).toArray) w := by kernel_rfl
theorem buildLive2 (w : World) : (Instr.build 23 #[(1, .int .i64 1), (3, .int .i64 1), (2, .bool true)]).run Try.prog w = .ok (.agg (recL liveR2).toArray) w := by kernel_rfl
theorem chL_twice (l : List UInt8) (t : Bool) (o : Nat) (d : List UInt8) : chL (chL l t o d) t o d = chL l t o d := by
  have hr := rzL_len l o
  unfold chL
  cases t
  · simp only [Bool.false_eq_true, if_false]
    by_cases hd : d = []
    · rw [if_pos hd, if_pos hd]
    · rw [if_neg hd, if_neg hd]
      have e1 : rzL (rzL l o ++ d ++ l.drop (o + d.length)) o = rzL l o := by
        rw [rzL_cut (by rw [List.length_append, List.length_append, hr]; omega), List.append_assoc, List.take_append_of_le_length (by omega), List.take_of_length_le (by omega)]
      have e2 : (rzL l o ++ d ++ l.drop (o + d.length)).drop (o + d.length) = l.drop (o + d.length) := by
        rw [List.drop_append_of_le_length (by rw [List.length_append, hr]; omega), List.drop_of_length_le (by rw [List.length_append, hr]; omega), List.nil_append]
      rw [e1, e2]
  · simp only [if_true]
    rw [rzL_cut (by omega), List.take_of_length_le (by omega)]
theorem twice15 {l : List UInt8} {r : RecT} (h : chE l r = 0) : chB (chB l r) r = chB l r ∧ chE (chB l r) r = 0 ∧ (chB l r).length ≤ 1000 := by
  have hB : chB l r = chL l r.t r.o.toNat r.d := if_pos h
  unfold chE at h
  by_cases hm : mayR r = true
  · rw [if_pos hm] at h
    by_cases hb : 256 < (chL l r.t r.o.toNat r.d).length
    · rw [if_pos hb] at h; exact absurd h (by decide)
    · have e : chE (chB l r) r = 0 := by unfold chE; rw [hB, chL_twice, if_pos hm, if_neg hb]
      refine ⟨?_, e, by rw [hB]; omega⟩
      rw [show chB (chB l r) r = chL (chB l r) r.t r.o.toNat r.d from if_pos e, hB, chL_twice]
  · rw [if_neg hm] at h; exact absurd h (by decide)
theorem callF_5 (args : Array Value) (w : World) : (callFunc 5 args).run Try.prog w = .ok (.enter 5 args) w := by
  have h := Try.func5
  go_simp
theorem callF_6 (args : Array Value) (w : World) : (callFunc 6 args).run Try.prog w = .ok (.enter 6 args) w := by
  have h := Try.func6
  go_simp
theorem callF_7 (args : Array Value) (w : World) : (callFunc 7 args).run Try.prog w = .ok (.enter 7 args) w := by
  have h := Try.func7
  go_simp
theorem callF_10 (args : Array Value) (w : World) : (callFunc 10 args).run Try.prog w = .ok (.enter 10 args) w := by
  have h := Try.func10
  go_simp

set_option maxHeartbeats 4000000 in
theorem lives15_any (w : World) : Calls Try.prog 10 #[] w fun e w' => e = .returned (.bool true) ∧ Below w.heap.size w w' := by
  go_enter Try.func10, Try.ntmps10
  go_step
  go_step
  go_step
  refine wpk_enter (N := 29) (l := []) ⟨rfl, (by intro x hx; cases hx), rfl⟩ fun a0 h0 => ?_
  refine wpk_val h0 (wanted_none rfl) rfl (by decide) (by intro x hx; cases hx) (.bool false) rfl fun a2 h1 => ?_
  go_step
  go_step
  go_step
  go_step
  go_step
  refine wpk_val h1 (wanted_none rfl) rfl (by decide) (fr rfl) (.agg (recL liveR1).toArray) (by unfold execOp; simp only [List.map_toArray, List.map_cons, List.map_nil]; exact run_v (buildLive1 _)) fun a4 h3 => ?_
  refine wpk_call h3 (wanted_none rfl) rfl (by decide) (fr rfl) (fun args => callF_6 args _) rfl #[.string (fB [97, 98, 99]), .agg (recL liveR1).toArray] (by simp only [List.map_toArray, List.map_cons, List.map_nil, h3.eval (k := 6) (v := .agg (recL liveR1).toArray) (by simp)]; rfl) (R := fun v' w' => v' = .tuple #[.string (fB (chB [97, 98, 99] liveR1)), .int .i64 (chE [97, 98, 99] liveR1)] ∧ Below w.heap.size w w') ((change_any [97, 98, 99] liveR1 w (by first | omega | decide) (by decide)).mono fun e w' q => ⟨_, q.1, rfl, q.2⟩) fun a6 v1 w1 r1 h5 => ?_
  obtain ⟨rfl, b1⟩ := r1
  rw [live1b] at h5
  rw [live1e] at h5
  have B1 := hid (kept_trans (Below.refl _ _) b1); clear b1
  refine wpk_val h5 (wanted_none rfl) rfl (by decide) (fr rfl) (.tuple #[.string (fB [97, 98, 99, 0, 0, 120, 121]), .int .i64 0]) (by unfold execOp; simp only [h5.eval (k := 7) (v := .tuple #[.string (fB [97, 98, 99, 0, 0, 120, 121]), .int .i64 0]) (by simp)]; rfl) fun a8 h7 => ?_
  refine wpk_val h7 (wanted_none rfl) rfl (by decide) (fr rfl) (.string (fB [97, 98, 99, 0, 0, 120, 121])) (by unfold execOp; simp only [h7.eval (k := 5) (v := .tuple #[.string (fB [97, 98, 99, 0, 0, 120, 121]), .int .i64 0]) (by simp)]; exact rfl) fun a10 h9 => ?_
  refine wpk_val h9 (wanted_none rfl) rfl (by decide) (fr rfl) (.int .i64 0) (by unfold execOp; simp only [h9.eval (k := 5) (v := .tuple #[.string (fB [97, 98, 99, 0, 0, 120, 121]), .int .i64 0]) (by simp)]; exact rfl) fun a12 h11 => ?_
  refine wpk_val h11 (wanted_none rfl) rfl (by decide) (fr rfl) (.string (fB [97, 98, 99, 0, 0, 120, 121])) (by unfold execOp; simp only [h11.eval (k := 8) (v := .string (fB [97, 98, 99, 0, 0, 120, 121])) (by simp)]; rfl) fun a14 h13 => ?_
  refine wpk_val h13 (wanted_none rfl) rfl (by decide) (fr rfl) (.int .i64 0) (by unfold execOp; simp only [h13.eval (k := 9) (v := .int .i64 0) (by simp)]; rfl) fun a16 h15 => ?_
  have h17 := h15.subs (l' := [(2, .int .i64 0), (1, .string (fB [97, 98, 99, 0, 0, 120, 121])), (0, .bool false)]) rfl
  clear h15
  go_step
  go_step
  go_step
  go_step
  go_step
  refine wpk_val h17 (wanted_none rfl) rfl (by decide) (fr rfl) (.agg (recL liveR2).toArray) (by unfold execOp; simp only [List.map_toArray, List.map_cons, List.map_nil]; exact run_v (buildLive2 _)) fun a19 h18 => ?_
  refine wpk_call h18 (wanted_none rfl) rfl (by decide) (fr rfl) (fun args => callF_6 args _) rfl #[.string (fB [97, 98, 99]), .agg (recL liveR2).toArray] (by simp only [List.map_toArray, List.map_cons, List.map_nil, h18.eval (k := 11) (v := .agg (recL liveR2).toArray) (by simp)]; rfl) (R := fun v' w' => v' = .tuple #[.string (fB (chB [97, 98, 99] liveR2)), .int .i64 (chE [97, 98, 99] liveR2)] ∧ Below w1.heap.size w1 w') ((change_any [97, 98, 99] liveR2 w1 (by first | omega | decide) (by decide)).mono fun e w' q => ⟨_, q.1, rfl, q.2⟩) fun a21 v2 w2 r2 h20 => ?_
  obtain ⟨rfl, b2⟩ := r2
  rw [live2b] at h20
  rw [live2e] at h20
  have B2 := hid (kept_trans B1.out b2); clear b2
  refine wpk_val h20 (wanted_none rfl) rfl (by decide) (fr rfl) (.tuple #[.string (fB [97]), .int .i64 0]) (by unfold execOp; simp only [h20.eval (k := 12) (v := .tuple #[.string (fB [97]), .int .i64 0]) (by simp)]; rfl) fun a23 h22 => ?_
  refine wpk_val h22 (wanted_none rfl) rfl (by decide) (fr rfl) (.string (fB [97])) (by unfold execOp; simp only [h22.eval (k := 10) (v := .tuple #[.string (fB [97]), .int .i64 0]) (by simp)]; exact rfl) fun a25 h24 => ?_
  refine wpk_val h24 (wanted_none rfl) rfl (by decide) (fr rfl) (.int .i64 0) (by unfold execOp; simp only [h24.eval (k := 10) (v := .tuple #[.string (fB [97]), .int .i64 0]) (by simp)]; exact rfl) fun a27 h26 => ?_
  refine wpk_val h26 (wanted_none rfl) rfl (by decide) (fr rfl) (.string (fB [97])) (by unfold execOp; simp only [h26.eval (k := 13) (v := .string (fB [97])) (by simp)]; rfl) fun a29 h28 => ?_
  refine wpk_val h28 (wanted_none rfl) rfl (by decide) (fr rfl) (.int .i64 0) (by unfold execOp; simp only [h28.eval (k := 14) (v := .int .i64 0) (by simp)]; rfl) fun a31 h30 => ?_
  have h32 := h30.subs (l' := [(4, .int .i64 0), (3, .string (fB [97])), (2, .int .i64 0), (1, .string (fB [97, 98, 99, 0, 0, 120, 121])), (0, .bool false)]) rfl
  clear h30
  go_step
  go_step
  go_step
  go_step
  go_step
  refine wpk_val h32 (wanted_none rfl) rfl (by decide) (fr rfl) (.string (fB [97, 98, 99, 0, 0, 120, 121])) (by unfold execOp; simp only [h32.eval (k := 1) (v := .string (fB [97, 98, 99, 0, 0, 120, 121])) (by simp)]; rfl) fun a34 h33 => ?_
  refine wpk_val h33 (wanted_none rfl) rfl (by decide) (fr rfl) (.bool true) (by unfold execOp; simp only [h33.eval (k := 15) (v := .string (fB [97, 98, 99, 0, 0, 120, 121])) (by simp)]; exact run_v (eqF _ _ _ _ _ (decide_eq_true (by first | rfl | assumption)))) fun a36 h35 => ?_
  refine wpk_val h35 (wanted_none rfl) rfl (by decide) (fr rfl) (.bool true) (by unfold execOp; simp only [h35.eval (k := 16) (v := .bool true) (by simp)]; rfl) fun a38 h37 => ?_
  refine wpk_val h37 (by rw [wanted_of (g := 2) (want := true) (b := true) rfl (h37.yields (prev := 17) rfl (by simp))]; rfl) rfl (by decide) (fr rfl) (.int .i64 0) (by unfold execOp; simp only [h37.eval (k := 2) (v := .int .i64 0) (by simp)]; rfl) fun a40 h39 => ?_
  refine wpk_val h39 (by rw [wanted_of (g := 2) (want := true) (b := true) rfl (h39.yields (prev := 17) rfl (by simp))]; rfl) rfl (by decide) (fr rfl) (.bool true) (by unfold execOp; simp only [h39.eval (k := 18) (v := .int .i64 0) (by simp)]; exact run_v (eqEP _ _ _ _ _ (beq_iff_eq.2 (by omega)))) fun a42 h41 => ?_
  refine wpk_val h41 (wanted_none rfl) rfl (by decide) (fr rfl) (.bool true) (run_pick rfl (h41.eval (k := 17) (v := .bool true) (by simp)) (by rw [if_pos rfl]; exact h41.eval (k := 19) (v := .bool true) (by simp))) fun a44 h43 => ?_
  refine wpk_val h43 (wanted_none rfl) rfl (by decide) (fr rfl) (.bool true) (by unfold execOp; simp only [h43.eval (k := 20) (v := .bool true) (by simp)]; rfl) fun a46 h45 => ?_
  refine wpk_val h45 (by rw [wanted_of (g := 6) (want := true) (b := true) rfl (h45.yields (prev := 21) rfl (by simp))]; rfl) rfl (by decide) (fr rfl) (.string (fB [97])) (by unfold execOp; simp only [h45.eval (k := 3) (v := .string (fB [97])) (by simp)]; rfl) fun a48 h47 => ?_
  refine wpk_val h47 (by rw [wanted_of (g := 6) (want := true) (b := true) rfl (h47.yields (prev := 21) rfl (by simp))]; rfl) rfl (by decide) (fr rfl) (.bool true) (by unfold execOp; simp only [h47.eval (k := 22) (v := .string (fB [97])) (by simp)]; exact run_v (eqF _ _ _ _ _ (decide_eq_true (by first | rfl | assumption)))) fun a50 h49 => ?_
  refine wpk_val h49 (wanted_none rfl) rfl (by decide) (fr rfl) (.bool true) (run_pick rfl (h49.eval (k := 21) (v := .bool true) (by simp)) (by rw [if_pos rfl]; exact h49.eval (k := 23) (v := .bool true) (by simp))) fun a52 h51 => ?_
  refine wpk_val h51 (wanted_none rfl) rfl (by decide) (fr rfl) (.bool true) (by unfold execOp; simp only [h51.eval (k := 24) (v := .bool true) (by simp)]; rfl) fun a54 h53 => ?_
  refine wpk_val h53 (by rw [wanted_of (g := 10) (want := true) (b := true) rfl (h53.yields (prev := 25) rfl (by simp))]; rfl) rfl (by decide) (fr rfl) (.int .i64 0) (by unfold execOp; simp only [h53.eval (k := 4) (v := .int .i64 0) (by simp)]; rfl) fun a56 h55 => ?_
  refine wpk_val h55 (by rw [wanted_of (g := 10) (want := true) (b := true) rfl (h55.yields (prev := 25) rfl (by simp))]; rfl) rfl (by decide) (fr rfl) (.bool true) (by unfold execOp; simp only [h55.eval (k := 26) (v := .int .i64 0) (by simp)]; exact run_v (eqEP _ _ _ _ _ (beq_iff_eq.2 (by omega)))) fun a58 h57 => ?_
  refine wpk_val h57 (wanted_none rfl) rfl (by decide) (fr rfl) (.bool true) (run_pick rfl (h57.eval (k := 25) (v := .bool true) (by simp)) (by rw [if_pos rfl]; exact h57.eval (k := 27) (v := .bool true) (by simp))) fun a60 h59 => ?_
  have h61 := h59.subs (l' := [(28, .bool true), (27, .bool true), (26, .int .i64 0), (25, .bool true), (24, .bool true), (23, .bool true), (22, .string (fB [97])), (21, .bool true), (20, .bool true), (19, .bool true), (18, .int .i64 0), (17, .bool true), (16, .bool true), (15, .string (fB [97, 98, 99, 0, 0, 120, 121])), (4, .int .i64 0), (3, .string (fB [97])), (2, .int .i64 0), (1, .string (fB [97, 98, 99, 0, 0, 120, 121]))]) rfl
  clear h59
  refine wpk_val h61 (wanted_none rfl) rfl (by decide) (fr rfl) (.bool true) (by unfold execOp; simp only [h61.eval (k := 28) (v := .bool true) (by simp)]; rfl) fun a63 h62 => ?_
  have h64 := h62.subs (l' := [(0, .bool true), (4, .int .i64 0), (3, .string (fB [97])), (2, .int .i64 0), (1, .string (fB [97, 98, 99, 0, 0, 120, 121]))]) rfl
  clear h62
  go_step
  go_step
  go_step
  go_step
  exact bodyPost_ret (results_tmp1 rfl (h64.known (0, .bool true) (by simp))) h64.defs ⟨rfl, B2.out⟩

set_option maxHeartbeats 4000000 in
theorem FilesChanges_w (w : World) (l : List UInt8) (r : RecT) : Calls Try.prog 3 #[.string (fB l), .agg (recL r).toArray] w fun e w' => e = .returned (.bool true) ∧ Below w.heap.size w w' := by
  go_enter Try.func3, Try.ntmps3
  go_step
  go_step
  go_step
  refine wpl_boxRec rfl rfl r rfl ?_
  rintro gb wb ⟨hgb, kb⟩ bb
  have HK := hid kb; have HB := hid bb; clear kb bb
  refine wpk_enter (N := 46) (l := [(0, .string (fB l)), (3, .pointer (some ⟨gb, 0, none⟩))]) ⟨rfl, (by intro x hx; simp only [List.mem_cons, List.not_mem_nil, or_false] at hx; rcases hx with rfl | rfl <;> rfl), rfl⟩ fun a2 h1 => ?_
  refine wpk_val h1 (wanted_none rfl) rfl (by decide) (fr rfl) (.bool false) rfl fun a4 h3 => ?_
  go_step
  go_step
  go_step
  have h5 := h3.subs (l' := [(0, .string (fB l)), (3, .pointer (some ⟨gb, 0, none⟩))]) rfl
  clear h3
  obtain ⟨l2, hl2⟩ : ∃ y, y = l.take 300 := ⟨_, rfl⟩
  have hl2n : l2.length ≤ 300 := by rw [hl2, List.length_take]; omega
  have hl2 : Hid (l2 = l.take 300) := hid hl2
  refine wp_join (J := fun a' w' => Kn 46 [(0, .string (fB l2)), (3, .pointer (some ⟨gb, 0, none⟩))] a' ∧ wb = w') ?_ ?_
  case refine_1 =>
    by_cases hcut : 300 < l.length
    · have hx : l2 = l.take 300 := by rw [hl2.out]
      go_step
      go_step
      go_step
      refine wpk_val h5 (wanted_none rfl) rfl (by decide) (fr rfl) (.string (fB l)) (by unfold execOp; simp only [h5.eval (k := 0) (v := .string (fB l)) (by simp)]; rfl) fun a7 h6 => ?_
      refine wpk_val h6 (wanted_none rfl) rfl (by decide) (fr rfl) (.int .i64 (l.length : Int)) (run_lenF rfl (h6.eval (k := 9) (v := .string (fB l)) (by simp)) (by rfl) _) fun a9 h8 => ?_
      refine wpk_val h8 (wanted_none rfl) rfl (by decide) (fr rfl) (.bool true) (by unfold execOp; simp only [h8.eval (k := 10) (v := .int .i64 (l.length : Int)) (by simp)]; exact run_v (gtIP _ _ _ _ _ (decide_eq_true (by omega)))) fun a11 h10 => ?_
      have h12 := h10.subs (l' := [(11, .bool true), (0, .string (fB l)), (3, .pointer (some ⟨gb, 0, none⟩))]) rfl
      clear h10
      go_step
      go_step
      go_step
      refine wp_cond (t := true) (h12.eval (k := 11) (v := .bool true) (by simp)) ?_
      simp only [if_true]
      have h13 := h12.subs (l' := [(0, .string (fB l)), (3, .pointer (some ⟨gb, 0, none⟩))]) rfl
      clear h12
      go_step
      refine wpk_val h13 (wanted_none rfl) rfl (by decide) (fr rfl) (.string (fB l)) (by unfold execOp; simp only [h13.eval (k := 0) (v := .string (fB l)) (by simp)]; rfl) fun a15 h14 => ?_
      refine wpk_val h14 (wanted_none rfl) rfl (by decide) (fr rfl) (.string (fB (l.take 300))) (by unfold execOp; simp only [Option.map_some, Option.map_none, h14.eval (k := 12) (v := .string (fB l)) (by simp)]; exact run_v (slHF _ _ _ (by omega) (by omega) _)) fun a17 h16 => ?_
      have h18 := h16.subs (l' := [(13, .string (fB (l.take 300))), (12, .string (fB l)), (3, .pointer (some ⟨gb, 0, none⟩))]) rfl
      clear h16
      refine wpk_val h18 (wanted_none rfl) rfl (by decide) (fr rfl) (.string (fB (l.take 300))) (by unfold execOp; simp only [h18.eval (k := 13) (v := .string (fB (l.take 300))) (by simp)]; rfl) fun a20 h19 => ?_
      have h21 := h19.subs (l' := [(0, .string (fB (l.take 300))), (3, .pointer (some ⟨gb, 0, none⟩))]) rfl
      clear h19
      go_step
      go_step
      rw [hx]
      exact ⟨h21.subs rfl, rfl⟩
    · have hx : l2 = l := by rw [hl2.out, List.take_of_length_le (by omega)]
      go_step
      go_step
      go_step
      refine wpk_val h5 (wanted_none rfl) rfl (by decide) (fr rfl) (.string (fB l)) (by unfold execOp; simp only [h5.eval (k := 0) (v := .string (fB l)) (by simp)]; rfl) fun a23 h22 => ?_
      refine wpk_val h22 (wanted_none rfl) rfl (by decide) (fr rfl) (.int .i64 (l.length : Int)) (run_lenF rfl (h22.eval (k := 9) (v := .string (fB l)) (by simp)) (by rfl) _) fun a25 h24 => ?_
      refine wpk_val h24 (wanted_none rfl) rfl (by decide) (fr rfl) (.bool false) (by unfold execOp; simp only [h24.eval (k := 10) (v := .int .i64 (l.length : Int)) (by simp)]; exact run_v (gtIP _ _ _ _ _ (decide_eq_false (by omega)))) fun a27 h26 => ?_
      have h28 := h26.subs (l' := [(11, .bool false), (0, .string (fB l)), (3, .pointer (some ⟨gb, 0, none⟩))]) rfl
      clear h26
      go_step
      go_step
      go_step
      refine wp_cond (t := false) (h28.eval (k := 11) (v := .bool false) (by simp)) ?_
      simp only [Bool.false_eq_true, if_false]
      have h29 := h28.subs (l' := [(0, .string (fB l)), (3, .pointer (some ⟨gb, 0, none⟩))]) rfl
      clear h28
      go_step
      go_step
      rw [hx]
      exact ⟨h29.subs rfl, rfl⟩
  rintro aj1 wj1 ⟨hJ1, rfl⟩
  go_step
  go_step
  refine wpk_val hJ1 (wanted_none rfl) rfl (by decide) (fr rfl) (.agg (recL r).toArray) (by unfold execOp; simp only [hJ1.eval (k := 3) (v := .pointer (some ⟨gb, 0, none⟩)) (by simp)]; exact run_v (run_loadAt_mid _ _ _ _ (recL r) _ (fun i u hu => by rw [Nat.zero_add]; exact blkF_at HK.out hu) Try.underlying23 rfl (by rw [infoRec]; rfl))) fun a31 h30 => ?_
  refine wpk_call h30 (wanted_none rfl) rfl (by decide) (fr rfl) (fun args => callF_5 args _) rfl #[.agg (recL r).toArray] (by simp only [List.map_toArray, List.map_cons, List.map_nil, h30.eval (k := 14) (v := .agg (recL r).toArray) (by simp)]) (R := fun v' w' => ∃ r2 : RecT, v' = .agg (recL r2).toArray ∧ r2.d.length ≤ 1000000 ∧ Below wb.heap.size wb w') ((cut15_any r wb).mono fun e w' q => by obtain ⟨⟨r2, q1, q2⟩, q3⟩ := q; exact ⟨_, q1, r2, rfl, q2, q3⟩) fun a33 v1 w1 r1 h32 => ?_
  obtain ⟨r2, rfl, hd2, b1⟩ := r1; have HK1 := hid (HK.out.mono b1); have HB1 := hid (kept_trans HB.out b1); clear b1
  refine wpk_storeR h32 rfl rfl rfl gb 0 (h32.eval (k := 3) (v := .pointer (some ⟨gb, 0, none⟩)) (by simp)) (recL r2) (h32.eval (k := 15) (v := .agg (recL r2).toArray) (by simp)) (by rw [infoRec]; rfl) (recL_one _) HK1.out (by show 0 + 5 ≤ 5; omega) fun a35 ws h34 kq gq => ?_
  rw [splice_allF (by rfl)] at kq
  have HKs := hid kq; have HBs := hid (below_grownS HB1.out gq (by rw [hgb]; exact Nat.le_refl _) HB1.out.size); clear kq gq
  have h36 := h34.subs (l' := [(0, .string (fB l2)), (3, .pointer (some ⟨gb, 0, none⟩))]) rfl
  clear h34
  go_step
  go_step
  go_step
  go_step
  go_step
  refine wpk_val h36 (wanted_none rfl) rfl (by decide) (fr rfl) (.string (fB l2)) (by unfold execOp; simp only [h36.eval (k := 0) (v := .string (fB l2)) (by simp)]; rfl) fun a38 h37 => ?_
  refine wpk_val h37 (wanted_none rfl) rfl (by decide) (fr rfl) (.agg (recL r2).toArray) (by unfold execOp; simp only [h37.eval (k := 3) (v := .pointer (some ⟨gb, 0, none⟩)) (by simp)]; exact run_v (run_loadAt_mid _ _ _ _ (recL r2) _ (fun i u hu => by rw [Nat.zero_add]; exact blkF_at HKs.out hu) Try.underlying23 rfl (by rw [infoRec]; rfl))) fun a40 h39 => ?_
  refine wpk_call h39 (wanted_none rfl) rfl (by decide) (fr rfl) (fun args => callF_6 args _) rfl #[.string (fB l2), .agg (recL r2).toArray] (by simp only [List.map_toArray, List.map_cons, List.map_nil, h39.eval (k := 17) (v := .string (fB l2)) (by simp), h39.eval (k := 18) (v := .agg (recL r2).toArray) (by simp)]) (R := fun v' w' => v' = .tuple #[.string (fB (chB l2 r2)), .int .i64 (chE l2 r2)] ∧ Below ws.heap.size ws w') ((change_any l2 r2 ws (by first | omega | decide) hd2).mono fun e w' q => ⟨_, q.1, rfl, q.2⟩) fun a42 v2 w2 r2 h41 => ?_
  obtain ⟨rfl, b2⟩ := r2
  have HK2 := hid (HKs.out.mono b2); have HB2 := hid (kept_trans (HBs.out) b2); clear b2
  refine wpk_val h41 (wanted_none rfl) rfl (by decide) (fr rfl) (.tuple #[.string (fB (chB l2 r2)), .int .i64 (chE l2 r2)]) (by unfold execOp; simp only [h41.eval (k := 19) (v := .tuple #[.string (fB (chB l2 r2)), .int .i64 (chE l2 r2)]) (by simp)]; rfl) fun a44 h43 => ?_
  refine wpk_val h43 (wanted_none rfl) rfl (by decide) (fr rfl) (.string (fB (chB l2 r2))) (by unfold execOp; simp only [h43.eval (k := 16) (v := .tuple #[.string (fB (chB l2 r2)), .int .i64 (chE l2 r2)]) (by simp)]; exact rfl) fun a46 h45 => ?_
  refine wpk_val h45 (wanted_none rfl) rfl (by decide) (fr rfl) (.int .i64 (chE l2 r2)) (by unfold execOp; simp only [h45.eval (k := 16) (v := .tuple #[.string (fB (chB l2 r2)), .int .i64 (chE l2 r2)]) (by simp)]; exact rfl) fun a48 h47 => ?_
  refine wpk_val h47 (wanted_none rfl) rfl (by decide) (fr rfl) (.string (fB (chB l2 r2))) (by unfold execOp; simp only [h47.eval (k := 20) (v := .string (fB (chB l2 r2))) (by simp)]; rfl) fun a50 h49 => ?_
  refine wpk_val h49 (wanted_none rfl) rfl (by decide) (fr rfl) (.int .i64 (chE l2 r2)) (by unfold execOp; simp only [h49.eval (k := 21) (v := .int .i64 (chE l2 r2)) (by simp)]; rfl) fun a52 h51 => ?_
  have h53 := h51.subs (l' := [(6, .int .i64 (chE l2 r2)), (5, .string (fB (chB l2 r2))), (0, .string (fB l2)), (3, .pointer (some ⟨gb, 0, none⟩))]) rfl
  clear h51
  go_step
  go_step
  go_step
  go_step
  go_step
  refine wpk_val h53 (wanted_none rfl) rfl (by decide) (fr rfl) (.string (fB l2)) (by unfold execOp; simp only [h53.eval (k := 0) (v := .string (fB l2)) (by simp)]; rfl) fun a55 h54 => ?_
  refine wpk_val h54 (wanted_none rfl) rfl (by decide) (fr rfl) (.agg (recL r2).toArray) (by unfold execOp; simp only [h54.eval (k := 3) (v := .pointer (some ⟨gb, 0, none⟩)) (by simp)]; exact run_v (run_loadAt_mid _ _ _ _ (recL r2) _ (fun i u hu => by rw [Nat.zero_add]; exact blkF_at HK2.out hu) Try.underlying23 rfl (by rw [infoRec]; rfl))) fun a57 h56 => ?_
  refine wpk_call h56 (wanted_none rfl) rfl (by decide) (fr rfl) (fun args => callF_7 args _) rfl #[.string (fB l2), .agg (recL r2).toArray] (by simp only [List.map_toArray, List.map_cons, List.map_nil, h56.eval (k := 23) (v := .string (fB l2)) (by simp), h56.eval (k := 24) (v := .agg (recL r2).toArray) (by simp)]) (R := fun v' w' => v' = .tuple #[.string (fB (chB l2 r2)), .int .i64 (chE l2 r2)] ∧ Below w2.heap.size w2 w') ((changeRef_any l2 r2 w2 (by first | omega | decide) hd2).mono fun e w' q => ⟨_, q.1, rfl, q.2⟩) fun a59 v3 w3 r3 h58 => ?_
  obtain ⟨rfl, b3⟩ := r3
  have HK3 := hid (HK2.out.mono b3); have HB3 := hid (kept_trans (HB2.out) b3); clear b3
  refine wpk_val h58 (wanted_none rfl) rfl (by decide) (fr rfl) (.tuple #[.string (fB (chB l2 r2)), .int .i64 (chE l2 r2)]) (by unfold execOp; simp only [h58.eval (k := 25) (v := .tuple #[.string (fB (chB l2 r2)), .int .i64 (chE l2 r2)]) (by simp)]; rfl) fun a61 h60 => ?_
  refine wpk_val h60 (wanted_none rfl) rfl (by decide) (fr rfl) (.string (fB (chB l2 r2))) (by unfold execOp; simp only [h60.eval (k := 22) (v := .tuple #[.string (fB (chB l2 r2)), .int .i64 (chE l2 r2)]) (by simp)]; exact rfl) fun a63 h62 => ?_
  refine wpk_val h62 (wanted_none rfl) rfl (by decide) (fr rfl) (.int .i64 (chE l2 r2)) (by unfold execOp; simp only [h62.eval (k := 22) (v := .tuple #[.string (fB (chB l2 r2)), .int .i64 (chE l2 r2)]) (by simp)]; exact rfl) fun a65 h64 => ?_
  refine wpk_val h64 (wanted_none rfl) rfl (by decide) (fr rfl) (.string (fB (chB l2 r2))) (by unfold execOp; simp only [h64.eval (k := 26) (v := .string (fB (chB l2 r2))) (by simp)]; rfl) fun a67 h66 => ?_
  refine wpk_val h66 (wanted_none rfl) rfl (by decide) (fr rfl) (.int .i64 (chE l2 r2)) (by unfold execOp; simp only [h66.eval (k := 27) (v := .int .i64 (chE l2 r2)) (by simp)]; rfl) fun a69 h68 => ?_
  have h70 := h68.subs (l' := [(8, .int .i64 (chE l2 r2)), (7, .string (fB (chB l2 r2))), (6, .int .i64 (chE l2 r2)), (5, .string (fB (chB l2 r2))), (0, .string (fB l2)), (3, .pointer (some ⟨gb, 0, none⟩))]) rfl
  clear h68
  go_step
  go_step
  go_step
  go_step
  have HKd := hid (HK3.out.mono (Below.refl _ _).drew); have HBd := hid (Below.drew (HB3.out))
  refine wp_region_held_drew (S := fun w' => Blk w' gb 23 (recL r2)) (by kernel_rfl) HKd.out (fun hS1 => ?_)
  refine wpk_take hS1 h70 0 rfl rfl (by decide) (fr rfl) (by kernel_rfl) (by kernel_rfl) (by kernel_rfl) (fun _ _ _ _ h => h) (.string (fB (chB l2 r2))) (Or.inl ⟨Eq.refl true, fun w1 hSw => (by show (execOp _ (⟨_, .move (.tmp 5), _, _, _, _⟩ : Oper)).run _ _ = _; exact (by unfold execOp; simp only [h70.eval (k := 5) (v := .string (fB (chB l2 r2))) (by simp)]; rfl))⟩) fun a72 h71 => ?_
  refine wpk_take hS1 h71 1 rfl rfl (by decide) (fr rfl) (by kernel_rfl) (by kernel_rfl) (by kernel_rfl) (fun _ _ _ _ h => h) (.string (fB (chB l2 r2))) (Or.inl ⟨Eq.refl true, fun w1 hSw => (by show (execOp _ (⟨_, .move (.tmp 7), _, _, _, _⟩ : Oper)).run _ _ = _; exact (by unfold execOp; simp only [h71.eval (k := 7) (v := .string (fB (chB l2 r2))) (by simp)]; rfl))⟩) fun a74 h73 => ?_
  refine wpk_take hS1 h73 2 rfl rfl (by decide) (fr rfl) (by kernel_rfl) (by kernel_rfl) (by kernel_rfl) (fun _ _ _ _ h => h) (.bool true) (Or.inl ⟨Eq.refl true, fun w1 hSw => (by show (execOp _ (⟨_, .binOp .eql 9 (.tmp 28) (.tmp 29) 9, _, _, _, _⟩ : Oper)).run _ _ = _; exact (by unfold execOp; simp only [h73.eval (k := 28) (v := .string (fB (chB l2 r2))) (by simp), h73.eval (k := 29) (v := .string (fB (chB l2 r2))) (by simp)]; exact run_v (eqF _ _ _ _ _ (decide_eq_true (by first | rfl | assumption)))))⟩) fun a76 h75 => ?_
  refine wpk_take hS1 h75 3 rfl rfl (by decide) (fr rfl) (by kernel_rfl) (by kernel_rfl) (by kernel_rfl) (fun _ _ _ _ h => h) (.bool true) (Or.inl ⟨Eq.refl true, fun w1 hSw => (by show (execOp _ (⟨_, .move (.tmp 30), _, _, _, _⟩ : Oper)).run _ _ = _; exact (by unfold execOp; simp only [h75.eval (k := 30) (v := .bool true) (by simp)]; rfl))⟩) fun a78 h77 => ?_
  refine wpk_take hS1 h77 4 rfl rfl (by decide) (fr rfl) (by kernel_rfl) (by kernel_rfl) (by kernel_rfl) (fun _ _ _ _ h => h) (.int .i64 (chE l2 r2)) (Or.inl ⟨(by rw [wanted_of (g := 3) (want := true) (b := true) rfl (h77.yields (prev := 31) rfl (by simp))]; rfl), fun w1 hSw => (by show (execOp _ (⟨_, .move (.tmp 6), _, _, _, _⟩ : Oper)).run _ _ = _; exact (by unfold execOp; simp only [h77.eval (k := 6) (v := .int .i64 (chE l2 r2)) (by simp)]; rfl))⟩) fun a80 h79 => ?_
  refine wpk_take hS1 h79 5 rfl rfl (by decide) (fr rfl) (by kernel_rfl) (by kernel_rfl) (by kernel_rfl) (fun _ _ _ _ h => h) (.int .i64 (chE l2 r2)) (Or.inl ⟨(by rw [wanted_of (g := 3) (want := true) (b := true) rfl (h79.yields (prev := 31) rfl (by simp))]; rfl), fun w1 hSw => (by show (execOp _ (⟨_, .move (.tmp 8), _, _, _, _⟩ : Oper)).run _ _ = _; exact (by unfold execOp; simp only [h79.eval (k := 8) (v := .int .i64 (chE l2 r2)) (by simp)]; rfl))⟩) fun a82 h81 => ?_
  refine wpk_take hS1 h81 6 rfl rfl (by decide) (fr rfl) (by kernel_rfl) (by kernel_rfl) (by kernel_rfl) (fun _ _ _ _ h => h) (.bool true) (Or.inl ⟨(by rw [wanted_of (g := 3) (want := true) (b := true) rfl (h81.yields (prev := 31) rfl (by simp))]; rfl), fun w1 hSw => (by show (execOp _ (⟨_, .binOp .eql 25 (.tmp 32) (.tmp 33) 25, _, _, _, _⟩ : Oper)).run _ _ = _; exact (by unfold execOp; simp only [h81.eval (k := 32) (v := .int .i64 (chE l2 r2)) (by simp), h81.eval (k := 33) (v := .int .i64 (chE l2 r2)) (by simp)]; exact run_v (eqEP _ _ _ _ _ (beq_iff_eq.2 (by omega)))))⟩) fun a84 h83 => ?_
  refine wpk_take hS1 h83 7 rfl rfl (by decide) (fr rfl) (by kernel_rfl) (by kernel_rfl) (by kernel_rfl) (fun _ _ _ _ h => h) (.bool true) (Or.inl ⟨Eq.refl true, fun w1 hSw => (by show (execOp _ (⟨_, .pick (.tmp 31) (.tmp 34) (.const (.bool false)), _, _, _, _⟩ : Oper)).run _ _ = _; exact (run_pick rfl (h83.eval (k := 31) (v := .bool true) (by simp)) (by rw [if_pos rfl]; exact h83.eval (k := 34) (v := .bool true) (by simp))))⟩) fun a86 h85 => ?_
  refine wpk_take hS1 h85 8 rfl rfl (by decide) (fr rfl) (by kernel_rfl) (by kernel_rfl) (by kernel_rfl) (fun _ _ _ _ h => h) (.bool true) (Or.inl ⟨Eq.refl true, fun w1 hSw => (by show (execOp _ (⟨_, .move (.tmp 35), _, _, _, _⟩ : Oper)).run _ _ = _; exact (by unfold execOp; simp only [h85.eval (k := 35) (v := .bool true) (by simp)]; rfl))⟩) fun a88 h87 => ?_
  refine wpk_take hS1 h87 9 rfl rfl (by decide) (fr rfl) (by kernel_rfl) (by kernel_rfl) (by kernel_rfl) (fun _ _ _ _ h => h) (.agg (recL r2).toArray) (Or.inl ⟨(by rw [wanted_of (g := 8) (want := true) (b := true) rfl (h87.yields (prev := 36) rfl (by simp))]; rfl), fun w1 hSw => (by show (execOp _ (⟨_, .load 23 (.tmp 3), _, _, _, _⟩ : Oper)).run _ _ = _; exact (by unfold execOp; simp only [h87.eval (k := 3) (v := .pointer (some ⟨gb, 0, none⟩)) (by simp)]; exact run_v (run_loadAt_mid _ _ _ _ (recL r2) _ (fun i u hu => by rw [Nat.zero_add]; exact blkF_at hSw hu) Try.underlying23 rfl (by rw [infoRec]; rfl))))⟩) fun a90 h89 => ?_
  refine wpk_take hS1 h89 11 rfl rfl (by decide) (fr rfl) (by kernel_rfl) (by kernel_rfl) (by kernel_rfl) (fun _ _ _ _ h => h) (.agg (recL r2).toArray) (Or.inl ⟨(by rw [wanted_of (g := 8) (want := true) (b := true) rfl (h89.yields (prev := 36) rfl (by simp))]; rfl), fun w1 hSw => (by show (execOp _ (⟨_, .load 23 (.tmp 3), _, _, _, _⟩ : Oper)).run _ _ = _; exact (by unfold execOp; simp only [h89.eval (k := 3) (v := .pointer (some ⟨gb, 0, none⟩)) (by simp)]; exact run_v (run_loadAt_mid _ _ _ _ (recL r2) _ (fun i u hu => by rw [Nat.zero_add]; exact blkF_at hSw hu) Try.underlying23 rfl (by rw [infoRec]; rfl))))⟩) fun a92 h91 => ?_
  refine wpk_onlyW 10 rfl (by rw [wanted_of (g := 8) (want := true) (b := true) rfl (h91.yields (prev := 36) rfl (by simp))]; rfl) (by kernel_rfl) fun KK hK => op_call h91 rfl (by decide) (fr rfl) (fun args => callF_8 args _) rfl #[.agg (recL r2).toArray] (by simp only [List.map_toArray, List.map_cons, List.map_nil, h91.eval (k := 37) (v := .agg (recL r2).toArray) (by simp)]) (R := fun v' w' => v' = .bool (mayR r2) ∧ Below w3.drew.heap.size w3.drew w') ((mayR_f r2 _).mono fun e w' q => ⟨_, q.1, rfl, q.2⟩) fun a94 v5 w5 r5 h93 => hK _ _ (hS1.mono r5.2) fun hS2 => ?_
  clear hK KK
  obtain ⟨rfl, b5⟩ := r5; have HB5 := hid (kept_trans (HBd.out) b5); clear b5
  refine wpk_onlyW 12 rfl (by rw [wanted_of (g := 8) (want := true) (b := true) rfl (h93.yields (prev := 36) rfl (by simp))]; rfl) (by kernel_rfl) fun KK hK => op_call h93 rfl (by decide) (fr rfl) (fun args => callF_9 args _) rfl #[.agg (recL r2).toArray] (by simp only [List.map_toArray, List.map_cons, List.map_nil, h93.eval (k := 39) (v := .agg (recL r2).toArray) (by simp)]) (R := fun v' w' => v' = .bool (mayR r2) ∧ Below w5.heap.size w5 w') ((mayR_r r2 _).mono fun e w' q => ⟨_, q.1, rfl, q.2⟩) fun a96 v6 w6 r6 h95 => hK _ _ (hS2.mono r6.2) fun hS3 => ?_
  clear hK KK
  obtain ⟨rfl, b6⟩ := r6; have HB6 := hid (kept_trans (HB5.out) b6); clear b6
  refine wpk_take hS3 h95 13 rfl rfl (by decide) (fr rfl) (by kernel_rfl) (by kernel_rfl) (by kernel_rfl) (fun _ _ _ _ h => h) (.bool true) (Or.inl ⟨(by rw [wanted_of (g := 8) (want := true) (b := true) rfl (h95.yields (prev := 36) rfl (by simp))]; rfl), fun w1 hSw => (by show (execOp _ (⟨_, .binOp .eql 4 (.tmp 38) (.tmp 40) 4, _, _, _, _⟩ : Oper)).run _ _ = _; exact (by unfold execOp; simp only [h95.eval (k := 38) (v := .bool (mayR r2)) (by simp), h95.eval (k := 40) (v := .bool (mayR r2)) (by simp)]; exact run_v (eqBF _ _ _ _)))⟩) fun a98 h97 => ?_
  refine wpk_take hS3 h97 14 rfl rfl (by decide) (fr rfl) (by kernel_rfl) (by kernel_rfl) (by kernel_rfl) (fun _ _ _ _ h => h) (.bool true) (Or.inl ⟨Eq.refl true, fun w1 hSw => (by show (execOp _ (⟨_, .pick (.tmp 36) (.tmp 41) (.const (.bool false)), _, _, _, _⟩ : Oper)).run _ _ = _; exact (run_pick rfl (h97.eval (k := 36) (v := .bool true) (by simp)) (by rw [if_pos rfl]; exact h97.eval (k := 41) (v := .bool true) (by simp))))⟩) fun a100 h99 => ?_
  refine wpk_take hS3 h99 15 rfl rfl (by decide) (fr rfl) (by kernel_rfl) (by kernel_rfl) (by kernel_rfl) (fun _ _ _ _ h => h) (.bool true) (Or.inl ⟨Eq.refl true, fun w1 hSw => (by show (execOp _ (⟨_, .move (.tmp 42), _, _, _, _⟩ : Oper)).run _ _ = _; exact (by unfold execOp; simp only [h99.eval (k := 42) (v := .bool true) (by simp)]; rfl))⟩) fun a102 h101 => ?_
  refine wpk_onlyW 16 rfl (by rw [wanted_of (g := 15) (want := true) (b := true) rfl (h101.yields (prev := 43) rfl (by simp))]; rfl) (by kernel_rfl) fun KK hK => op_call h101 rfl (by decide) (fr rfl) (fun args => callF_10 args _) rfl #[] (by simp) (R := fun v' w' => v' = .bool true ∧ Below w6.heap.size w6 w') ((lives15_any _).mono fun e w' q => ⟨_, q.1, rfl, q.2⟩) fun a104 v7 w7 r7 h103 => hK _ _ (hS3.mono r7.2) fun hS4 => ?_
  clear hK KK
  obtain ⟨rfl, b7⟩ := r7; have HB7 := hid (kept_trans (HB6.out) b7); clear b7
  refine wpk_take hS4 h103 17 rfl rfl (by decide) (fr rfl) (by kernel_rfl) (by kernel_rfl) (by kernel_rfl) (fun _ _ _ _ h => h) (.bool true) (Or.inl ⟨Eq.refl true, fun w1 hSw => (by show (execOp _ (⟨_, .pick (.tmp 43) (.tmp 44) (.const (.bool false)), _, _, _, _⟩ : Oper)).run _ _ = _; exact (run_pick rfl (h103.eval (k := 43) (v := .bool true) (by simp)) (by rw [if_pos rfl]; exact h103.eval (k := 44) (v := .bool true) (by simp))))⟩) fun a106 h105 => ?_
  refine wpk_take hS4 h105 18 rfl rfl (by decide) (fr rfl) (by kernel_rfl) (by kernel_rfl) (by kernel_rfl) (fun _ _ _ _ h => h) (.bool true) (Or.inl ⟨Eq.refl true, fun w1 hSw => (by show (execOp _ (⟨_, .assign (.tmp 45), _, _, _, _⟩ : Oper)).run _ _ = _; exact (by unfold execOp; simp only [h105.eval (k := 45) (v := .bool true) (by simp)]; rfl))⟩) fun a108 h107 => ?_
  refine wpAnyH_done (by kernel_rfl) ?_ _
  have h109 := h107.subs (l' := [(4, .bool true), (8, .int .i64 (chE l2 r2)), (7, .string (fB (chB l2 r2))), (6, .int .i64 (chE l2 r2)), (5, .string (fB (chB l2 r2))), (0, .string (fB l2)), (3, .pointer (some ⟨gb, 0, none⟩))]) rfl
  clear h107
  go_step
  go_step
  go_step
  exact bodyPost_ret (results_tmp1 rfl (h109.known (4, .bool true) (by simp))) h109.defs ⟨rfl, HB7.out⟩

set_option maxHeartbeats 4000000 in
theorem FilesTwice_w (w : World) (l : List UInt8) (r : RecT) : Calls Try.prog 4 #[.string (fB l), .agg (recL r).toArray] w fun e w' => e = .returned (.bool true) ∧ Below w.heap.size w w' := by
  go_enter Try.func4, Try.ntmps4
  go_step
  go_step
  go_step
  refine wpl_boxRec rfl rfl r rfl ?_
  rintro gb wb ⟨hgb, kb⟩ bb
  have HK := hid kb; have HB := hid bb; clear kb bb
  refine wpk_enter (N := 45) (l := [(0, .string (fB l)), (3, .pointer (some ⟨gb, 0, none⟩))]) ⟨rfl, (by intro x hx; simp only [List.mem_cons, List.not_mem_nil, or_false] at hx; rcases hx with rfl | rfl <;> rfl), rfl⟩ fun a2 h1 => ?_
  refine wpk_val h1 (wanted_none rfl) rfl (by decide) (fr rfl) (.bool false) rfl fun a4 h3 => ?_
  go_step
  go_step
  go_step
  have h5 := h3.subs (l' := [(0, .string (fB l)), (3, .pointer (some ⟨gb, 0, none⟩))]) rfl
  clear h3
  obtain ⟨l2, hl2⟩ : ∃ y, y = l.take 256 := ⟨_, rfl⟩
  have hl2n : l2.length ≤ 256 := by rw [hl2, List.length_take]; omega
  have hl2 : Hid (l2 = l.take 256) := hid hl2
  refine wp_join (J := fun a' w' => Kn 45 [(0, .string (fB l2)), (3, .pointer (some ⟨gb, 0, none⟩))] a' ∧ wb = w') ?_ ?_
  case refine_1 =>
    by_cases hcut : 256 < l.length
    · have hx : l2 = l.take 256 := by rw [hl2.out]
      go_step
      go_step
      go_step
      refine wpk_val h5 (wanted_none rfl) rfl (by decide) (fr rfl) (.string (fB l)) (by unfold execOp; simp only [h5.eval (k := 0) (v := .string (fB l)) (by simp)]; rfl) fun a7 h6 => ?_
      refine wpk_val h6 (wanted_none rfl) rfl (by decide) (fr rfl) (.int .i64 (l.length : Int)) (run_lenF rfl (h6.eval (k := 9) (v := .string (fB l)) (by simp)) (by rfl) _) fun a9 h8 => ?_
      refine wpk_val h8 (wanted_none rfl) rfl (by decide) (fr rfl) (.bool true) (by unfold execOp; simp only [h8.eval (k := 10) (v := .int .i64 (l.length : Int)) (by simp)]; exact run_v (gtIP _ _ _ _ _ (decide_eq_true (by omega)))) fun a11 h10 => ?_
      have h12 := h10.subs (l' := [(11, .bool true), (0, .string (fB l)), (3, .pointer (some ⟨gb, 0, none⟩))]) rfl
      clear h10
      go_step
      go_step
      go_step
      refine wp_cond (t := true) (h12.eval (k := 11) (v := .bool true) (by simp)) ?_
      simp only [if_true]
      have h13 := h12.subs (l' := [(0, .string (fB l)), (3, .pointer (some ⟨gb, 0, none⟩))]) rfl
      clear h12
      go_step
      refine wpk_val h13 (wanted_none rfl) rfl (by decide) (fr rfl) (.string (fB l)) (by unfold execOp; simp only [h13.eval (k := 0) (v := .string (fB l)) (by simp)]; rfl) fun a15 h14 => ?_
      refine wpk_val h14 (wanted_none rfl) rfl (by decide) (fr rfl) (.string (fB (l.take 256))) (by unfold execOp; simp only [Option.map_some, Option.map_none, h14.eval (k := 12) (v := .string (fB l)) (by simp)]; exact run_v (slHF _ _ _ (by omega) (by omega) _)) fun a17 h16 => ?_
      have h18 := h16.subs (l' := [(13, .string (fB (l.take 256))), (12, .string (fB l)), (3, .pointer (some ⟨gb, 0, none⟩))]) rfl
      clear h16
      refine wpk_val h18 (wanted_none rfl) rfl (by decide) (fr rfl) (.string (fB (l.take 256))) (by unfold execOp; simp only [h18.eval (k := 13) (v := .string (fB (l.take 256))) (by simp)]; rfl) fun a20 h19 => ?_
      have h21 := h19.subs (l' := [(0, .string (fB (l.take 256))), (3, .pointer (some ⟨gb, 0, none⟩))]) rfl
      clear h19
      go_step
      go_step
      rw [hx]
      exact ⟨h21.subs rfl, rfl⟩
    · have hx : l2 = l := by rw [hl2.out, List.take_of_length_le (by omega)]
      go_step
      go_step
      go_step
      refine wpk_val h5 (wanted_none rfl) rfl (by decide) (fr rfl) (.string (fB l)) (by unfold execOp; simp only [h5.eval (k := 0) (v := .string (fB l)) (by simp)]; rfl) fun a23 h22 => ?_
      refine wpk_val h22 (wanted_none rfl) rfl (by decide) (fr rfl) (.int .i64 (l.length : Int)) (run_lenF rfl (h22.eval (k := 9) (v := .string (fB l)) (by simp)) (by rfl) _) fun a25 h24 => ?_
      refine wpk_val h24 (wanted_none rfl) rfl (by decide) (fr rfl) (.bool false) (by unfold execOp; simp only [h24.eval (k := 10) (v := .int .i64 (l.length : Int)) (by simp)]; exact run_v (gtIP _ _ _ _ _ (decide_eq_false (by omega)))) fun a27 h26 => ?_
      have h28 := h26.subs (l' := [(11, .bool false), (0, .string (fB l)), (3, .pointer (some ⟨gb, 0, none⟩))]) rfl
      clear h26
      go_step
      go_step
      go_step
      refine wp_cond (t := false) (h28.eval (k := 11) (v := .bool false) (by simp)) ?_
      simp only [Bool.false_eq_true, if_false]
      have h29 := h28.subs (l' := [(0, .string (fB l)), (3, .pointer (some ⟨gb, 0, none⟩))]) rfl
      clear h28
      go_step
      go_step
      rw [hx]
      exact ⟨h29.subs rfl, rfl⟩
  rintro aj1 wj1 ⟨hJ1, rfl⟩
  go_step
  go_step
  refine wpk_val hJ1 (wanted_none rfl) rfl (by decide) (fr rfl) (.agg (recL r).toArray) (by unfold execOp; simp only [hJ1.eval (k := 3) (v := .pointer (some ⟨gb, 0, none⟩)) (by simp)]; exact run_v (run_loadAt_mid _ _ _ _ (recL r) _ (fun i u hu => by rw [Nat.zero_add]; exact blkF_at HK.out hu) Try.underlying23 rfl (by rw [infoRec]; rfl))) fun a31 h30 => ?_
  refine wpk_call h30 (wanted_none rfl) rfl (by decide) (fr rfl) (fun args => callF_5 args _) rfl #[.agg (recL r).toArray] (by simp only [List.map_toArray, List.map_cons, List.map_nil, h30.eval (k := 14) (v := .agg (recL r).toArray) (by simp)]) (R := fun v' w' => ∃ r2 : RecT, v' = .agg (recL r2).toArray ∧ r2.d.length ≤ 1000000 ∧ Below wb.heap.size wb w') ((cut15_any r wb).mono fun e w' q => by obtain ⟨⟨r2, q1, q2⟩, q3⟩ := q; exact ⟨_, q1, r2, rfl, q2, q3⟩) fun a33 v1 w1 r1 h32 => ?_
  obtain ⟨r2, rfl, hd2, b1⟩ := r1; have HK1 := hid (HK.out.mono b1); have HB1 := hid (kept_trans HB.out b1); clear b1
  refine wpk_storeR h32 rfl rfl rfl gb 0 (h32.eval (k := 3) (v := .pointer (some ⟨gb, 0, none⟩)) (by simp)) (recL r2) (h32.eval (k := 15) (v := .agg (recL r2).toArray) (by simp)) (by rw [infoRec]; rfl) (recL_one _) HK1.out (by show 0 + 5 ≤ 5; omega) fun a35 ws h34 kq gq => ?_
  rw [splice_allF (by rfl)] at kq
  have HKs := hid kq; have HBs := hid (below_grownS HB1.out gq (by rw [hgb]; exact Nat.le_refl _) HB1.out.size); clear kq gq
  have h36 := h34.subs (l' := [(0, .string (fB l2)), (3, .pointer (some ⟨gb, 0, none⟩))]) rfl
  clear h34
  go_step
  go_step
  go_step
  go_step
  go_step
  refine wpk_val h36 (wanted_none rfl) rfl (by decide) (fr rfl) (.string (fB l2)) (by unfold execOp; simp only [h36.eval (k := 0) (v := .string (fB l2)) (by simp)]; rfl) fun a38 h37 => ?_
  refine wpk_val h37 (wanted_none rfl) rfl (by decide) (fr rfl) (.agg (recL r2).toArray) (by unfold execOp; simp only [h37.eval (k := 3) (v := .pointer (some ⟨gb, 0, none⟩)) (by simp)]; exact run_v (run_loadAt_mid _ _ _ _ (recL r2) _ (fun i u hu => by rw [Nat.zero_add]; exact blkF_at HKs.out hu) Try.underlying23 rfl (by rw [infoRec]; rfl))) fun a40 h39 => ?_
  refine wpk_call h39 (wanted_none rfl) rfl (by decide) (fr rfl) (fun args => callF_6 args _) rfl #[.string (fB l2), .agg (recL r2).toArray] (by simp only [List.map_toArray, List.map_cons, List.map_nil, h39.eval (k := 17) (v := .string (fB l2)) (by simp), h39.eval (k := 18) (v := .agg (recL r2).toArray) (by simp)]) (R := fun v' w' => v' = .tuple #[.string (fB (chB l2 r2)), .int .i64 (chE l2 r2)] ∧ Below ws.heap.size ws w') ((change_any l2 r2 ws (by first | omega | decide) hd2).mono fun e w' q => ⟨_, q.1, rfl, q.2⟩) fun a42 v2 w2 r2 h41 => ?_
  obtain ⟨rfl, b2⟩ := r2
  have HK2 := hid (HKs.out.mono b2); have HB2 := hid (kept_trans (HBs.out) b2); clear b2
  refine wpk_val h41 (wanted_none rfl) rfl (by decide) (fr rfl) (.tuple #[.string (fB (chB l2 r2)), .int .i64 (chE l2 r2)]) (by unfold execOp; simp only [h41.eval (k := 19) (v := .tuple #[.string (fB (chB l2 r2)), .int .i64 (chE l2 r2)]) (by simp)]; rfl) fun a44 h43 => ?_
  refine wpk_val h43 (wanted_none rfl) rfl (by decide) (fr rfl) (.string (fB (chB l2 r2))) (by unfold execOp; simp only [h43.eval (k := 16) (v := .tuple #[.string (fB (chB l2 r2)), .int .i64 (chE l2 r2)]) (by simp)]; exact rfl) fun a46 h45 => ?_
  refine wpk_val h45 (wanted_none rfl) rfl (by decide) (fr rfl) (.int .i64 (chE l2 r2)) (by unfold execOp; simp only [h45.eval (k := 16) (v := .tuple #[.string (fB (chB l2 r2)), .int .i64 (chE l2 r2)]) (by simp)]; exact rfl) fun a48 h47 => ?_
  refine wpk_val h47 (wanted_none rfl) rfl (by decide) (fr rfl) (.string (fB (chB l2 r2))) (by unfold execOp; simp only [h47.eval (k := 20) (v := .string (fB (chB l2 r2))) (by simp)]; rfl) fun a50 h49 => ?_
  refine wpk_val h49 (wanted_none rfl) rfl (by decide) (fr rfl) (.int .i64 (chE l2 r2)) (by unfold execOp; simp only [h49.eval (k := 21) (v := .int .i64 (chE l2 r2)) (by simp)]; rfl) fun a52 h51 => ?_
  have h53 := h51.subs (l' := [(6, .int .i64 (chE l2 r2)), (5, .string (fB (chB l2 r2))), (0, .string (fB l2)), (3, .pointer (some ⟨gb, 0, none⟩))]) rfl
  clear h51
  go_step
  go_step
  go_step
  have h54 := h53.subs (l' := [(5, .string (fB (chB l2 r2))), (6, .int .i64 (chE l2 r2)), (3, .pointer (some ⟨gb, 0, none⟩))]) rfl
  clear h53
  by_cases hz : chE l2 r2 = 0
  case neg =>
    have hb0 : chB l2 r2 = [] := if_neg hz
    go_step
    go_step
    go_step
    refine wpk_val h54 (wanted_none rfl) rfl (by decide) (fr rfl) (.int .i64 (chE l2 r2)) (by unfold execOp; simp only [h54.eval (k := 6) (v := .int .i64 (chE l2 r2)) (by simp)]; rfl) fun a56 h55 => ?_
    refine wpk_val h55 (wanted_none rfl) rfl (by decide) (fr rfl) (.bool true) (by unfold execOp; simp only [h55.eval (k := 22) (v := .int .i64 (chE l2 r2)) (by simp)]; exact run_v (neEP _ _ _ _ _ (bne_iff_ne.2 (by omega)))) fun a58 h57 => ?_
    have h59 := h57.subs (l' := [(23, .bool true), (5, .string (fB (chB l2 r2))), (6, .int .i64 (chE l2 r2)), (3, .pointer (some ⟨gb, 0, none⟩))]) rfl
    clear h57
    go_step
    go_step
    go_step
    refine wp_cond (t := true) (h59.eval (k := 23) (v := .bool true) (by simp)) ?_
    simp only [if_true]
    have h60 := h59.subs (l' := [(5, .string (fB (chB l2 r2))), (6, .int .i64 (chE l2 r2)), (3, .pointer (some ⟨gb, 0, none⟩))]) rfl
    clear h59
    go_step
    go_step
    refine wpk_val h60 (wanted_none rfl) rfl (by decide) (fr rfl) (.string (fB (chB l2 r2))) (by unfold execOp; simp only [h60.eval (k := 5) (v := .string (fB (chB l2 r2))) (by simp)]; rfl) fun a62 h61 => ?_
    refine wpk_val h61 (wanted_none rfl) rfl (by decide) (fr rfl) (.bool true) (by unfold execOp; simp only [h61.eval (k := 24) (v := .string (fB (chB l2 r2))) (by simp)]; exact run_v (eqF _ _ _ _ _ (decide_eq_true (by first | rfl | assumption)))) fun a64 h63 => ?_
    refine wpk_val h63 (wanted_none rfl) rfl (by decide) (fr rfl) (.bool true) (by unfold execOp; simp only [h63.eval (k := 25) (v := .bool true) (by simp)]; rfl) fun a66 h65 => ?_
    refine wpk_call h65 (by rw [wanted_of (g := 2) (want := true) (b := true) rfl (h65.yields (prev := 26) rfl (by simp))]; rfl) rfl (by decide) (fr rfl) (fun args => callF_10 args _) rfl #[] (by simp) (R := fun v' w' => v' = .bool true ∧ Below w2.heap.size w2 w') ((lives15_any _).mono fun e w' q => ⟨_, q.1, rfl, q.2⟩) fun a68 v9 w9 r9 h67 => ?_
    obtain ⟨rfl, b9⟩ := r9; have HB9 := hid (kept_trans (HB2.out) b9); clear b9
    refine wpk_val h67 (wanted_none rfl) rfl (by decide) (fr rfl) (.bool true) (run_pick rfl (h67.eval (k := 26) (v := .bool true) (by simp)) (by rw [if_pos rfl]; exact h67.eval (k := 27) (v := .bool true) (by simp))) fun a70 h69 => ?_
    refine wpk_val h69 (wanted_none rfl) rfl (by decide) (fr rfl) (.bool true) (by unfold execOp; simp only [h69.eval (k := 28) (v := .bool true) (by simp)]; rfl) fun a72 h71 => ?_
    have h73 := h71.subs (l' := [(4, .bool true), (5, .string (fB (chB l2 r2))), (6, .int .i64 (chE l2 r2)), (3, .pointer (some ⟨gb, 0, none⟩))]) rfl
    clear h71
    go_step
    go_step
    go_step
    go_step
    simp only [Exit.then, Exit.inBlock]
    exact bodyPost_ret (results_tmp1 rfl (h73.known (4, .bool true) (by simp))) h73.defs ⟨rfl, HB9.out⟩
  go_step
  go_step
  go_step
  refine wpk_val h54 (wanted_none rfl) rfl (by decide) (fr rfl) (.int .i64 (chE l2 r2)) (by unfold execOp; simp only [h54.eval (k := 6) (v := .int .i64 (chE l2 r2)) (by simp)]; rfl) fun a75 h74 => ?_
  refine wpk_val h74 (wanted_none rfl) rfl (by decide) (fr rfl) (.bool false) (by unfold execOp; simp only [h74.eval (k := 22) (v := .int .i64 (chE l2 r2)) (by simp)]; exact run_v (neEP _ _ _ _ _ (bne_eq_false_iff_eq.2 (by omega)))) fun a77 h76 => ?_
  have h78 := h76.subs (l' := [(23, .bool false), (5, .string (fB (chB l2 r2))), (6, .int .i64 (chE l2 r2)), (3, .pointer (some ⟨gb, 0, none⟩))]) rfl
  clear h76
  go_step
  go_step
  go_step
  refine wp_cond (t := false) (h78.eval (k := 23) (v := .bool false) (by simp)) ?_
  simp only [Bool.false_eq_true, if_false]
  have h79 := h78.subs (l' := [(5, .string (fB (chB l2 r2))), (6, .int .i64 (chE l2 r2)), (3, .pointer (some ⟨gb, 0, none⟩))]) rfl
  clear h78
  go_step
  go_step
  go_step
  have hB : chB l2 r2 = chL l2 r2.t r2.o.toNat r2.d := if_pos hz
  obtain ⟨ht1, ht2, ht3⟩ := twice15 hz
  go_step
  go_step
  refine wpk_val h79 (wanted_none rfl) rfl (by decide) (fr rfl) (.string (fB (chB l2 r2))) (by unfold execOp; simp only [h79.eval (k := 5) (v := .string (fB (chB l2 r2))) (by simp)]; rfl) fun a81 h80 => ?_
  refine wpk_val h80 (wanted_none rfl) rfl (by decide) (fr rfl) (.agg (recL r2).toArray) (by unfold execOp; simp only [h80.eval (k := 3) (v := .pointer (some ⟨gb, 0, none⟩)) (by simp)]; exact run_v (run_loadAt_mid _ _ _ _ (recL r2) _ (fun i u hu => by rw [Nat.zero_add]; exact blkF_at HK2.out hu) Try.underlying23 rfl (by rw [infoRec]; rfl))) fun a83 h82 => ?_
  refine wpk_call h82 (wanted_none rfl) rfl (by decide) (fr rfl) (fun args => callF_6 args _) rfl #[.string (fB (chB l2 r2)), .agg (recL r2).toArray] (by simp only [List.map_toArray, List.map_cons, List.map_nil, h82.eval (k := 30) (v := .string (fB (chB l2 r2))) (by simp), h82.eval (k := 31) (v := .agg (recL r2).toArray) (by simp)]) (R := fun v' w' => v' = .tuple #[.string (fB (chB (chB l2 r2) r2)), .int .i64 (chE (chB l2 r2) r2)] ∧ Below w2.heap.size w2 w') ((change_any (chB l2 r2) r2 w2 (by first | omega | decide) hd2).mono fun e w' q => ⟨_, q.1, rfl, q.2⟩) fun a85 v3 w3 r3 h84 => ?_
  obtain ⟨rfl, b3⟩ := r3
  rw [ht1] at h84
  rw [ht2] at h84
  have HK3 := hid (HK2.out.mono b3); have HB3 := hid (kept_trans (HB2.out) b3); clear b3
  refine wpk_val h84 (wanted_none rfl) rfl (by decide) (fr rfl) (.tuple #[.string (fB (chB l2 r2)), .int .i64 0]) (by unfold execOp; simp only [h84.eval (k := 32) (v := .tuple #[.string (fB (chB l2 r2)), .int .i64 0]) (by simp)]; rfl) fun a87 h86 => ?_
  refine wpk_val h86 (wanted_none rfl) rfl (by decide) (fr rfl) (.string (fB (chB l2 r2))) (by unfold execOp; simp only [h86.eval (k := 29) (v := .tuple #[.string (fB (chB l2 r2)), .int .i64 0]) (by simp)]; exact rfl) fun a89 h88 => ?_
  refine wpk_val h88 (wanted_none rfl) rfl (by decide) (fr rfl) (.int .i64 0) (by unfold execOp; simp only [h88.eval (k := 29) (v := .tuple #[.string (fB (chB l2 r2)), .int .i64 0]) (by simp)]; exact rfl) fun a91 h90 => ?_
  refine wpk_val h90 (wanted_none rfl) rfl (by decide) (fr rfl) (.string (fB (chB l2 r2))) (by unfold execOp; simp only [h90.eval (k := 33) (v := .string (fB (chB l2 r2))) (by simp)]; rfl) fun a93 h92 => ?_
  refine wpk_val h92 (wanted_none rfl) rfl (by decide) (fr rfl) (.int .i64 0) (by unfold execOp; simp only [h92.eval (k := 34) (v := .int .i64 0) (by simp)]; rfl) fun a95 h94 => ?_
  have h96 := h94.subs (l' := [(8, .int .i64 0), (7, .string (fB (chB l2 r2))), (5, .string (fB (chB l2 r2))), (6, .int .i64 (chE l2 r2)), (3, .pointer (some ⟨gb, 0, none⟩))]) rfl
  clear h94
  go_step
  go_step
  go_step
  go_step
  go_step
  refine wpk_val h96 (wanted_none rfl) rfl (by decide) (fr rfl) (.string (fB (chB l2 r2))) (by unfold execOp; simp only [h96.eval (k := 7) (v := .string (fB (chB l2 r2))) (by simp)]; rfl) fun a98 h97 => ?_
  refine wpk_val h97 (wanted_none rfl) rfl (by decide) (fr rfl) (.string (fB (chB l2 r2))) (by unfold execOp; simp only [h97.eval (k := 5) (v := .string (fB (chB l2 r2))) (by simp)]; rfl) fun a100 h99 => ?_
  refine wpk_val h99 (wanted_none rfl) rfl (by decide) (fr rfl) (.bool true) (by unfold execOp; simp only [h99.eval (k := 35) (v := .string (fB (chB l2 r2))) (by simp), h99.eval (k := 36) (v := .string (fB (chB l2 r2))) (by simp)]; exact run_v (eqF _ _ _ _ _ (decide_eq_true (by first | rfl | assumption)))) fun a102 h101 => ?_
  refine wpk_val h101 (wanted_none rfl) rfl (by decide) (fr rfl) (.bool true) (by unfold execOp; simp only [h101.eval (k := 37) (v := .bool true) (by simp)]; rfl) fun a104 h103 => ?_
  refine wpk_val h103 (by rw [wanted_of (g := 3) (want := true) (b := true) rfl (h103.yields (prev := 38) rfl (by simp))]; rfl) rfl (by decide) (fr rfl) (.int .i64 0) (by unfold execOp; simp only [h103.eval (k := 8) (v := .int .i64 0) (by simp)]; rfl) fun a106 h105 => ?_
  refine wpk_val h105 (by rw [wanted_of (g := 3) (want := true) (b := true) rfl (h105.yields (prev := 38) rfl (by simp))]; rfl) rfl (by decide) (fr rfl) (.bool true) (by unfold execOp; simp only [h105.eval (k := 39) (v := .int .i64 0) (by simp)]; exact run_v (eqEP _ _ _ _ _ (beq_iff_eq.2 (by omega)))) fun a108 h107 => ?_
  refine wpk_val h107 (wanted_none rfl) rfl (by decide) (fr rfl) (.bool true) (run_pick rfl (h107.eval (k := 38) (v := .bool true) (by simp)) (by rw [if_pos rfl]; exact h107.eval (k := 40) (v := .bool true) (by simp))) fun a110 h109 => ?_
  refine wpk_val h109 (wanted_none rfl) rfl (by decide) (fr rfl) (.bool true) (by unfold execOp; simp only [h109.eval (k := 41) (v := .bool true) (by simp)]; rfl) fun a112 h111 => ?_
  refine wpk_call h111 (by rw [wanted_of (g := 7) (want := true) (b := true) rfl (h111.yields (prev := 42) rfl (by simp))]; rfl) rfl (by decide) (fr rfl) (fun args => callF_10 args _) rfl #[] (by simp) (R := fun v' w' => v' = .bool true ∧ Below w3.heap.size w3 w') ((lives15_any _).mono fun e w' q => ⟨_, q.1, rfl, q.2⟩) fun a114 v9 w9 r9 h113 => ?_
  obtain ⟨rfl, b9⟩ := r9; have HB9 := hid (kept_trans (HB3.out) b9); clear b9
  refine wpk_val h113 (wanted_none rfl) rfl (by decide) (fr rfl) (.bool true) (run_pick rfl (h113.eval (k := 42) (v := .bool true) (by simp)) (by rw [if_pos rfl]; exact h113.eval (k := 43) (v := .bool true) (by simp))) fun a116 h115 => ?_
  refine wpk_val h115 (wanted_none rfl) rfl (by decide) (fr rfl) (.bool true) (by unfold execOp; simp only [h115.eval (k := 44) (v := .bool true) (by simp)]; rfl) fun a118 h117 => ?_
  have h119 := h117.subs (l' := [(4, .bool true), (8, .int .i64 0), (7, .string (fB (chB l2 r2))), (5, .string (fB (chB l2 r2))), (6, .int .i64 (chE l2 r2)), (3, .pointer (some ⟨gb, 0, none⟩))]) rfl
  clear h117
  go_step
  go_step
  go_step
  go_step
  exact bodyPost_ret (results_tmp1 rfl (h119.known (4, .bool true) (by simp))) h119.defs ⟨rfl, HB9.out⟩

theorem FilesChanges_walk (w : World) (s : ByteArray) (hs : s.size ≤ maxLen) (c i : Int) (t : Bool) (o : Int) (d : ByteArray) : Calls Try.prog 3 #[.string s, recV c i t o d] w fun e w' => e = .returned (.bool true) ∧ Below w.heap.size w w' := by
  obtain ⟨l, rfl⟩ := fB_of s
  obtain ⟨dl, rfl⟩ := fB_of d
  exact FilesChanges_w w l ⟨c, i, t, o, dl⟩
theorem FilesTwice_walk (w : World) (s : ByteArray) (hs : s.size ≤ maxLen) (c i : Int) (t : Bool) (o : Int) (d : ByteArray) : Calls Try.prog 4 #[.string s, recV c i t o d] w fun e w' => e = .returned (.bool true) ∧ Below w.heap.size w w' := by
  obtain ⟨l, rfl⟩ := fB_of s
  obtain ⟨dl, rfl⟩ := fB_of d
  exact FilesTwice_w w l ⟨c, i, t, o, dl⟩
end Go.Proofs.Ytngbpoofkeebgaa
