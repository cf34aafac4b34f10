/- The document's transaction: Store, Commit, Load. (genTxnR.py) -/
import Derived.Test.YtcackliabemecaaGreatDoorTxnMb
import Derived.Test.YtcackliabemecaaGreatDoorPlgMh
import Derived.Test.YtcackliabemecaaGreatDoorPlgMg
namespace Go.Proofs.YtcackliabemecaaGreatDoor
open Go.RowKit
set_option linter.unusedSimpArgs false
set_option linter.unusedVariables false
set_option maxRecDepth 100000

theorem logRP_turns {X : Nat → Prop} {w w' : World} {lr gr v d a at_ size : Nat} {M : MemM} (h : LogRP w lr gr v d a at_ size M) (t : Turns X w w') (hl : ¬ X lr) (hg : ¬ X gr) (hv : ¬ X v) (hd : ¬ X d) (ha : ¬ X a) : LogRP w' lr gr v d a at_ size M := ⟨t.blk h.l hl, h.m.turns t hg hv hd ha⟩
theorem loadLRZ {w : World} {g off : Nat} {q : Option Addr} (h : w.cell? ⟨g, off, none⟩ = some (.pointer q)) : (Instr.loadAt 52 (.pointer (some ⟨g, off, none⟩))).run Tryz.prog w = .ok (.pointer q) w := by
  have u3 := Tryz.underlying52
  have a3 := Tryz.isAgg52
  have z3 := Tryz.sizeOf52
  go_simp
theorem geIP (x y : Operand) (v u : Int) (w : World) {b : Bool} (h : decide (u ≤ v) = b) : (do eqGuard .geq 3 x y (.int .i64 v) (.int .i64 u); binOp .geq 3 (.int .i64 v) (.int .i64 u) : Sem Value).run Tryz.prog w = .ok (.bool b) w := geTP x y v u w h
theorem addWZ (x y : Operand) (i j s : Int) (hs : s = IntKind.i64.wrap (i + j)) (w : World) : (do eqGuard .add 3 x y (.int .i64 i) (.int .i64 j); binOp .add 3 (.int .i64 i) (.int .i64 j) : Sem Value).run Tryz.prog w = .ok (.int .i64 s) w := by
  have u3 := Tryz.underlying3
  have a3 := Tryz.isAgg3
  have z3 := Tryz.sizeOf3
  subst hs
  go_simp
theorem subWZ (x y : Operand) (i j s : Int) (hs : s = IntKind.i64.wrap (i - j)) (w : World) : (do eqGuard .sub 3 x y (.int .i64 i) (.int .i64 j); binOp .sub 3 (.int .i64 i) (.int .i64 j) : Sem Value).run Tryz.prog w = .ok (.int .i64 s) w := by
  have u3 := Tryz.underlying3
  have a3 := Tryz.isAgg3
  have z3 := Tryz.sizeOf3
  subst hs
  go_simp
theorem faPZ_0 (g off : Nat) (w : World) : (Instr.fieldAt 47 (.pointer (some ⟨g, off, none⟩)) 0).run Tryz.prog w = .ok (.pointer (some ⟨g, off, none⟩)) w := rfl
theorem faPZ_1 (g off : Nat) (w : World) : (Instr.fieldAt 47 (.pointer (some ⟨g, off, none⟩)) 1).run Tryz.prog w = .ok (.pointer (some ⟨g, off + 1, none⟩)) w := rfl
theorem ixSZ (s : List UInt8) (k : Nat) (h : k < s.length) (w : World) : (Instr.index 9 (strB s) (.int .i64 (k : Int))).run Tryz.prog w = .ok (byteV s[k]) w := by
  have hz := bsB_size s
  unfold strB
  rw [run_index_string w 9 (bsB s) .i64 (k : Int) Tryz.underlying9]
  rw [dif_pos ⟨by omega, by omega⟩]
  rfl
theorem ixBZ {ba : Option Addr} {bg n : Nat} (hba : ba = some ⟨bg, 0, none⟩) (bc xN : Nat) (x : Int) (hx : x = (xN : Int)) (h : xN < n) (w : World) : (Instr.indexAt 26 (.slice ba n bc) (.int .i64 x)).run Tryz.prog w = .ok (.pointer (some ⟨bg, xN, none⟩)) w := by
  subst hba
  subst hx
  have u3 := Tryz.underlying26
  have u9 := Tryz.underlying5
  have z3 := Tryz.sizeOf5
  have d0 : (xN : Int) < (n : Int) := by omega
  have d1 : 0 ≤ (xN : Int) := by omega
  go_simp
theorem storeUZ {w : World} {g off : Nat} (h : ∃ u, w.cell? ⟨g, off, none⟩ = some u) (hz : w.frozen? ⟨g, off, none⟩ = false) (b : UInt8) : (Instr.storeAt 5 (.pointer (some ⟨g, off, none⟩)) (byteV b)).run Tryz.prog w = .ok () (w.setCell ⟨g, off, none⟩ (byteV b)) := by
  obtain ⟨u, h⟩ := h
  have u3 := Tryz.underlying5
  have a3 := Tryz.isAgg5
  have z3 := Tryz.sizeOf5
  obtain ⟨m, hv⟩ : ∃ m : Int, byteV b = .int .u8 m := ⟨_, rfl⟩
  rw [hv]
  clear hv
  go_simp
theorem own_setBZ {w : World} {B g c : Nat} {zs : List UInt8} (h : OwnB w B (some ⟨g, 0, none⟩) c zs) (j : Nat) (hj : j < zs.length) (v : UInt8) :
    (∃ u, w.cell? ⟨g, j, none⟩ = some u) ∧ w.frozen? ⟨g, j, none⟩ = false ∧ B ≤ g ∧ OwnB (w.setCell ⟨g, j, none⟩ (byteV v)) B (some ⟨g, 0, none⟩) c (zs.set j v) := by
  obtain ⟨C, hb, hl, hB, ht, hnc, hc⟩ := Own.blk h
  refine ⟨hb.someCell (by omega), hb.frozen j, hB, ?_⟩
  have z := Own.of_blk (B := B) (n := zs.length) (c := c) (sz := 1) (hb.set j (byteV v)) hB hnc hc (by rw [List.length_set, hl])
  rw [List.take_set, ht] at z
  unfold OwnB
  rw [List.length_set, List.map_set]
  exact z
theorem ovl_snocZ {at_ : Int} {b0 : List UInt8} {P : List PtM} {i : Nat} (h : i < P.length) : ovl at_ b0 (P.take (i + 1)) = ovlB at_ (ovl at_ b0 (P.take i)) P[i] := by
  unfold ovl
  rw [List.take_add_one, List.getElem?_eq_getElem h, Option.toList_some, List.foldl_append]
  rfl
/-- what the document's Store says and leaves -/
def StoreR2 (w : World) (dt gr lr B : Nat) (ra0 : Option Addr) (M : MemM) (P : List PtM) (at_ : Int) (xs : List UInt8) (e : Ending) (w' : World) : Prop :=
  e = .returned (.int .i64 (errT M P at_ xs.length)) ∧ ∃ ta tc, Blk w' dt 56 (txC gr lr ta (putT M P at_ xs).length tc) ∧ OwnPt w' B ta tc (putT M P at_ xs) ∧ Turns (fun k => k = dt ∨ some k = obA ra0) w w' ∧ WhereA w ra0 ta
theorem callZ_36 (args : Array Value) (w : World) : (callFunc 36 args).run Tryz.prog w = .ok (.enter 36 args) w := by
  have h := Tryz.func36
  go_simp
theorem callZ_37 (args : Array Value) (w : World) : (callFunc 37 args).run Tryz.prog w = .ok (.enter 37 args) w := by
  have h := Tryz.func37
  go_simp
theorem callZ_38 (args : Array Value) (w : World) : (callFunc 38 args).run Tryz.prog w = .ok (.enter 38 args) w := by
  have h := Tryz.func38
  go_simp
theorem callZ_45 (args : Array Value) (w : World) : (callFunc 45 args).run Tryz.prog w = .ok (.enter 45 args) w := by
  have h := Tryz.func45
  go_simp
theorem faZ_56_0_0 (g : Nat) (w : World) : (Instr.fieldAt 56 (.pointer (some ⟨g, 0, none⟩)) 0).run Tryz.prog w = .ok (.pointer (some ⟨g, 0, none⟩)) w := rfl
theorem faZ_56_0_1 (g : Nat) (w : World) : (Instr.fieldAt 56 (.pointer (some ⟨g, 0, none⟩)) 1).run Tryz.prog w = .ok (.pointer (some ⟨g, 1, none⟩)) w := rfl
theorem faZ_56_0_2 (g : Nat) (w : World) : (Instr.fieldAt 56 (.pointer (some ⟨g, 0, none⟩)) 2).run Tryz.prog w = .ok (.pointer (some ⟨g, 2, none⟩)) w := rfl
set_option maxHeartbeats 4000000 in
theorem storeR9_out {w : World} {dt gr lr v d a0 rc B : Nat} {ra : Option Addr} {M : MemM} {P : List PtM} (hm : MemR w gr v d a0 M) (hb : Blk w dt 56 (txC gr lr ra P.length rc)) (ho : OwnPt w B ra rc P) (hB : B ≤ w.heap.size) (hdt : dt < B) (hM : M.V.length ≤ 1048576) {a : Option Addr} {c : Nat} {xs : List UInt8} (h0 : RowB w a c xs) {at_ : Int} (hat : i64B at_) (hP : P.length ≤ 64) (hx : xs.length ≤ 4611686018427387904) (hin : inM M at_ (xs.length : Int) = false) : Calls Tryz.prog 21 #[.pointer (some ⟨dt, 0, none⟩), .int .i64 at_, .slice a xs.length c] w fun e w' => e = .returned (.int .i64 1) ∧ w = w' := by
  have HM := hid hm; have HB := hid hb; have HO := hid ho
  unfold i64B at hat
  clear hm hb ho
  go_enter Tryz.func21, Tryz.ntmps21
  iterate 3 go_step
  refine wpk_enter (N := 44) (l := [(0, .pointer (some ⟨dt, 0, none⟩)), (1, .int .i64 at_), (2, .slice a xs.length c)]) ⟨rfl, (by intro x hx; simp only [List.mem_cons, List.not_mem_nil, or_false] at hx; rcases hx with rfl | rfl | rfl <;> rfl), rfl⟩ fun a2 h1 => ?_
  refine wv h1 rfl rfl rfl rfl (.int .i64 0) rfl fun a4 h3 => ?_
  iterate 5 go_step
  refine wmk h3 rfl rfl rfl rfl 0 rfl (fun _ => rfl) fun a6 h5 => ?_
  refine wv h5 rfl rfl rfl rfl (.pointer (some ⟨dt, 0, none⟩)) (by unfold execOp; simp only [h5.ev 8 rfl]; exact rfl) fun a8 h7 => ?_
  refine wv h7 rfl rfl rfl rfl (.pointer (some ⟨dt, 0, none⟩)) (by unfold execOp; simp only [h7.ev 9 rfl]; exact run_v (faZ_56_0_0 (dt) _)) fun a10 h9 => ?_
  refine wv h9 rfl rfl rfl rfl (.pointer (some ⟨gr, 0, none⟩)) (by unfold execOp; simp only [h9.ev 10 rfl]; exact run_v (loadMR (HB.out.cell (i := 0) (by show 0 < 3; omega)))) fun a12 h11 => ?_
  refine wmk h11 rfl rfl rfl rfl 1 rfl (fun _ => rfl) fun a14 h13 => ?_
  refine wmk h13 rfl rfl rfl rfl 2 rfl (fun _ => rfl) fun a16 h15 => ?_
  refine wv h15 rfl rfl rfl rfl (.int .i64 (xs.length : Int)) (run_lenBP rfl (h15.ev 13 rfl) _) fun a18 h17 => ?_
  refine wpk_call h17 (wanted_none rfl) rfl (by decide) (fr rfl) (fun args => callZ_36 args _) rfl #[.pointer (some ⟨gr, 0, none⟩), .int .i64 at_, .int .i64 (xs.length : Int)] (by simp only [List.map_toArray, List.map_cons, List.map_nil, h17.ev 11 rfl, h17.ev 12 rfl, h17.ev 14 rfl]) (R := fun v' w' => v' = .bool (inM M at_ (xs.length : Int)) ∧ w = w') ((withinR_any HM.out at_ (xs.length : Int) hat (by omega)).mono fun e w' q => ⟨_, q.1, rfl, q.2⟩) fun a20 v1 w1 r1 h19 => ?_
  obtain ⟨rfl, rfl⟩ := r1; rw [hin] at h19
  refine wmk h19 rfl rfl rfl rfl 15 rfl (fun _ => rfl) fun a22 h21 => ?_
  have h23 := h21.subs (l' := [(7, _), (6, _), (0, _), (1, _), (2, _)]) rfl
  clear h21
  iterate 6 go_step
  refine wmk h23 rfl rfl rfl rfl 7 rfl (fun _ => rfl) fun a25 h24 => ?_
  refine wv h24 rfl rfl rfl rfl (.bool true) (run_not rfl (h24.ev 16 rfl)) fun a27 h26 => ?_
  refine wmk h26 rfl rfl rfl rfl 17 rfl (fun _ => rfl) fun a29 h28 => ?_
  refine wpk_skip h28 (by rw [wanted_of (g := 2) (want := false) (b := true) rfl (h28.yields (prev := 18) rfl (by simp))]; rfl) rfl (by decide) (fr rfl) fun a31 h30 => ?_
  refine wpk_skip h30 (by rw [wanted_of (g := 2) (want := false) (b := true) rfl (h30.yields (prev := 18) rfl (by simp))]; rfl) rfl (by decide) (fr rfl) fun a33 h32 => ?_
  refine wpk_skip h32 (by rw [wanted_of (g := 2) (want := false) (b := true) rfl (h32.yields (prev := 18) rfl (by simp))]; rfl) rfl (by decide) (fr rfl) fun a35 h34 => ?_
  refine wv h34 rfl rfl rfl rfl (.bool true) (run_pick rfl (h34.ev 18 rfl) rfl) fun a37 h36 => ?_
  refine wmk h36 rfl rfl rfl rfl 22 rfl (fun _ => rfl) fun a39 h38 => ?_
  refine wpk_skip h38 (by rw [wanted_of (g := 7) (want := false) (b := true) rfl (h38.yields (prev := 23) rfl (by simp))]; rfl) rfl (by decide) (fr rfl) fun a41 h40 => ?_
  refine wpk_skip h40 (by rw [wanted_of (g := 7) (want := false) (b := true) rfl (h40.yields (prev := 23) rfl (by simp))]; rfl) rfl (by decide) (fr rfl) fun a43 h42 => ?_
  refine wpk_skip h42 (by rw [wanted_of (g := 7) (want := false) (b := true) rfl (h42.yields (prev := 23) rfl (by simp))]; rfl) rfl (by decide) (fr rfl) fun a45 h44 => ?_
  refine wpk_skip h44 (by rw [wanted_of (g := 7) (want := false) (b := true) rfl (h44.yields (prev := 23) rfl (by simp))]; rfl) rfl (by decide) (fr rfl) fun a47 h46 => ?_
  refine wpk_skip h46 (by rw [wanted_of (g := 7) (want := false) (b := true) rfl (h46.yields (prev := 23) rfl (by simp))]; rfl) rfl (by decide) (fr rfl) fun a49 h48 => ?_
  refine wpk_skip h48 (by rw [wanted_of (g := 7) (want := false) (b := true) rfl (h48.yields (prev := 23) rfl (by simp))]; rfl) rfl (by decide) (fr rfl) fun a51 h50 => ?_
  refine wv h50 rfl rfl rfl rfl (.bool true) (run_pick rfl (h50.ev 23 rfl) rfl) fun a53 h52 => ?_
  have h54 := h52.subs (l' := [(30, _), (7, _), (6, _), (0, _), (1, _), (2, _)]) rfl
  clear h52
  iterate 3 go_step
  refine wp_cond (t := true) (h54.ev 30 rfl) ?_
  simp only [if_true]
  have h55 := h54.subs (l' := [(7, _), (6, _), (0, _), (1, _), (2, _)]) rfl
  clear h54
  iterate 2 go_step
  have h56 := h55.subs (l' := [(7, _), (0, _), (1, _), (2, _)]) rfl
  clear h55
  refine wv h56 rfl rfl rfl rfl (.int .i64 1) rfl fun a58 h57 => ?_
  iterate 4 go_step
  simp only [Exit.then, Exit.inBlock]
  exact bodyPost_ret (results_tmp1 rfl (h57.known (6, .int .i64 1) (by simp))) h57.defs ⟨rfl, rfl⟩
set_option maxHeartbeats 4000000 in
theorem storeR9_big {w : World} {dt gr lr v d a0 rc B : Nat} {ra : Option Addr} {M : MemM} {P : List PtM} (hm : MemR w gr v d a0 M) (hb : Blk w dt 56 (txC gr lr ra P.length rc)) (ho : OwnPt w B ra rc P) (hB : B ≤ w.heap.size) (hdt : dt < B) (hM : M.V.length ≤ 1048576) {a : Option Addr} {c : Nat} {xs : List UInt8} (h0 : RowB w a c xs) {at_ : Int} (hat : i64B at_) (hP : P.length ≤ 64) (hx : xs.length ≤ 4611686018427387904) (hin : inM M at_ (xs.length : Int) = true) (h1 : 256 < xs.length) : Calls Tryz.prog 21 #[.pointer (some ⟨dt, 0, none⟩), .int .i64 at_, .slice a xs.length c] w fun e w' => e = .returned (.int .i64 1) ∧ w = w' := by
  have HM := hid hm; have HB := hid hb; have HO := hid ho
  unfold i64B at hat
  clear hm hb ho
  go_enter Tryz.func21, Tryz.ntmps21
  iterate 3 go_step
  refine wpk_enter (N := 44) (l := [(0, .pointer (some ⟨dt, 0, none⟩)), (1, .int .i64 at_), (2, .slice a xs.length c)]) ⟨rfl, (by intro x hx; simp only [List.mem_cons, List.not_mem_nil, or_false] at hx; rcases hx with rfl | rfl | rfl <;> rfl), rfl⟩ fun a2 h1 => ?_
  refine wv h1 rfl rfl rfl rfl (.int .i64 0) rfl fun a4 h3 => ?_
  iterate 5 go_step
  refine wmk h3 rfl rfl rfl rfl 0 rfl (fun _ => rfl) fun a6 h5 => ?_
  refine wv h5 rfl rfl rfl rfl (.pointer (some ⟨dt, 0, none⟩)) (by unfold execOp; simp only [h5.ev 8 rfl]; exact rfl) fun a8 h7 => ?_
  refine wv h7 rfl rfl rfl rfl (.pointer (some ⟨dt, 0, none⟩)) (by unfold execOp; simp only [h7.ev 9 rfl]; exact run_v (faZ_56_0_0 (dt) _)) fun a10 h9 => ?_
  refine wv h9 rfl rfl rfl rfl (.pointer (some ⟨gr, 0, none⟩)) (by unfold execOp; simp only [h9.ev 10 rfl]; exact run_v (loadMR (HB.out.cell (i := 0) (by show 0 < 3; omega)))) fun a12 h11 => ?_
  refine wmk h11 rfl rfl rfl rfl 1 rfl (fun _ => rfl) fun a14 h13 => ?_
  refine wmk h13 rfl rfl rfl rfl 2 rfl (fun _ => rfl) fun a16 h15 => ?_
  refine wv h15 rfl rfl rfl rfl (.int .i64 (xs.length : Int)) (run_lenBP rfl (h15.ev 13 rfl) _) fun a18 h17 => ?_
  refine wpk_call h17 (wanted_none rfl) rfl (by decide) (fr rfl) (fun args => callZ_36 args _) rfl #[.pointer (some ⟨gr, 0, none⟩), .int .i64 at_, .int .i64 (xs.length : Int)] (by simp only [List.map_toArray, List.map_cons, List.map_nil, h17.ev 11 rfl, h17.ev 12 rfl, h17.ev 14 rfl]) (R := fun v' w' => v' = .bool (inM M at_ (xs.length : Int)) ∧ w = w') ((withinR_any HM.out at_ (xs.length : Int) hat (by omega)).mono fun e w' q => ⟨_, q.1, rfl, q.2⟩) fun a20 v1 w1 r1 h19 => ?_
  obtain ⟨rfl, rfl⟩ := r1; rw [hin] at h19
  refine wmk h19 rfl rfl rfl rfl 15 rfl (fun _ => rfl) fun a22 h21 => ?_
  have h23 := h21.subs (l' := [(7, _), (6, _), (0, _), (1, _), (2, _)]) rfl
  clear h21
  iterate 6 go_step
  refine wmk h23 rfl rfl rfl rfl 7 rfl (fun _ => rfl) fun a25 h24 => ?_
  refine wv h24 rfl rfl rfl rfl (.bool false) (run_not rfl (h24.ev 16 rfl)) fun a27 h26 => ?_
  refine wmk h26 rfl rfl rfl rfl 17 rfl (fun _ => rfl) fun a29 h28 => ?_
  refine wpk_val h28 (by rw [wanted_of (g := 2) (want := false) (b := false) rfl (h28.yields (prev := 18) rfl (by simp))]; rfl) rfl (by decide) (fr rfl) (.slice a xs.length c) (by unfold execOp; simp only [h28.ev 2 rfl]; rfl) fun a31 h30 => ?_
  refine wpk_val h30 (by rw [wanted_of (g := 2) (want := false) (b := false) rfl (h30.yields (prev := 18) rfl (by simp))]; rfl) rfl (by decide) (fr rfl) (.int .i64 (xs.length : Int)) (run_lenBP rfl (h30.ev 19 rfl) _) fun a33 h32 => ?_
  refine wpk_val h32 (by rw [wanted_of (g := 2) (want := false) (b := false) rfl (h32.yields (prev := 18) rfl (by simp))]; rfl) rfl (by decide) (fr rfl) (.bool true) (by unfold execOp; simp only [h32.ev 20 rfl]; exact run_v (gtIP _ _ _ _ _ (decide_eq_true (by omega)))) fun a35 h34 => ?_
  refine wv h34 rfl rfl rfl rfl (.bool true) (run_pick rfl (h34.ev 18 rfl) (by rw [if_neg (by simp)]; exact h34.ev 21 rfl)) fun a37 h36 => ?_
  refine wmk h36 rfl rfl rfl rfl 22 rfl (fun _ => rfl) fun a39 h38 => ?_
  refine wpk_skip h38 (by rw [wanted_of (g := 7) (want := false) (b := true) rfl (h38.yields (prev := 23) rfl (by simp))]; rfl) rfl (by decide) (fr rfl) fun a41 h40 => ?_
  refine wpk_skip h40 (by rw [wanted_of (g := 7) (want := false) (b := true) rfl (h40.yields (prev := 23) rfl (by simp))]; rfl) rfl (by decide) (fr rfl) fun a43 h42 => ?_
  refine wpk_skip h42 (by rw [wanted_of (g := 7) (want := false) (b := true) rfl (h42.yields (prev := 23) rfl (by simp))]; rfl) rfl (by decide) (fr rfl) fun a45 h44 => ?_
  refine wpk_skip h44 (by rw [wanted_of (g := 7) (want := false) (b := true) rfl (h44.yields (prev := 23) rfl (by simp))]; rfl) rfl (by decide) (fr rfl) fun a47 h46 => ?_
  refine wpk_skip h46 (by rw [wanted_of (g := 7) (want := false) (b := true) rfl (h46.yields (prev := 23) rfl (by simp))]; rfl) rfl (by decide) (fr rfl) fun a49 h48 => ?_
  refine wpk_skip h48 (by rw [wanted_of (g := 7) (want := false) (b := true) rfl (h48.yields (prev := 23) rfl (by simp))]; rfl) rfl (by decide) (fr rfl) fun a51 h50 => ?_
  refine wv h50 rfl rfl rfl rfl (.bool true) (run_pick rfl (h50.ev 23 rfl) rfl) fun a53 h52 => ?_
  have h54 := h52.subs (l' := [(30, _), (7, _), (6, _), (0, _), (1, _), (2, _)]) rfl
  clear h52
  iterate 3 go_step
  refine wp_cond (t := true) (h54.ev 30 rfl) ?_
  simp only [if_true]
  have h55 := h54.subs (l' := [(7, _), (6, _), (0, _), (1, _), (2, _)]) rfl
  clear h54
  iterate 2 go_step
  have h56 := h55.subs (l' := [(7, _), (0, _), (1, _), (2, _)]) rfl
  clear h55
  refine wv h56 rfl rfl rfl rfl (.int .i64 1) rfl fun a58 h57 => ?_
  iterate 4 go_step
  simp only [Exit.then, Exit.inBlock]
  exact bodyPost_ret (results_tmp1 rfl (h57.known (6, .int .i64 1) (by simp))) h57.defs ⟨rfl, rfl⟩
set_option maxHeartbeats 4000000 in
theorem storeR9_full {w : World} {dt gr lr v d a0 rc B : Nat} {ra : Option Addr} {M : MemM} {P : List PtM} (hm : MemR w gr v d a0 M) (hb : Blk w dt 56 (txC gr lr ra P.length rc)) (ho : OwnPt w B ra rc P) (hB : B ≤ w.heap.size) (hdt : dt < B) (hM : M.V.length ≤ 1048576) {a : Option Addr} {c : Nat} {xs : List UInt8} (h0 : RowB w a c xs) {at_ : Int} (hat : i64B at_) (hP : P.length ≤ 64) (hx : xs.length ≤ 4611686018427387904) (hin : inM M at_ (xs.length : Int) = true) (h1 : ¬ 256 < xs.length) (h2 : P.length = 64) : Calls Tryz.prog 21 #[.pointer (some ⟨dt, 0, none⟩), .int .i64 at_, .slice a xs.length c] w fun e w' => e = .returned (.int .i64 1) ∧ w = w' := by
  have HM := hid hm; have HB := hid hb; have HO := hid ho
  unfold i64B at hat
  clear hm hb ho
  go_enter Tryz.func21, Tryz.ntmps21
  iterate 3 go_step
  refine wpk_enter (N := 44) (l := [(0, .pointer (some ⟨dt, 0, none⟩)), (1, .int .i64 at_), (2, .slice a xs.length c)]) ⟨rfl, (by intro x hx; simp only [List.mem_cons, List.not_mem_nil, or_false] at hx; rcases hx with rfl | rfl | rfl <;> rfl), rfl⟩ fun a2 h1 => ?_
  refine wv h1 rfl rfl rfl rfl (.int .i64 0) rfl fun a4 h3 => ?_
  iterate 5 go_step
  refine wmk h3 rfl rfl rfl rfl 0 rfl (fun _ => rfl) fun a6 h5 => ?_
  refine wv h5 rfl rfl rfl rfl (.pointer (some ⟨dt, 0, none⟩)) (by unfold execOp; simp only [h5.ev 8 rfl]; exact rfl) fun a8 h7 => ?_
  refine wv h7 rfl rfl rfl rfl (.pointer (some ⟨dt, 0, none⟩)) (by unfold execOp; simp only [h7.ev 9 rfl]; exact run_v (faZ_56_0_0 (dt) _)) fun a10 h9 => ?_
  refine wv h9 rfl rfl rfl rfl (.pointer (some ⟨gr, 0, none⟩)) (by unfold execOp; simp only [h9.ev 10 rfl]; exact run_v (loadMR (HB.out.cell (i := 0) (by show 0 < 3; omega)))) fun a12 h11 => ?_
  refine wmk h11 rfl rfl rfl rfl 1 rfl (fun _ => rfl) fun a14 h13 => ?_
  refine wmk h13 rfl rfl rfl rfl 2 rfl (fun _ => rfl) fun a16 h15 => ?_
  refine wv h15 rfl rfl rfl rfl (.int .i64 (xs.length : Int)) (run_lenBP rfl (h15.ev 13 rfl) _) fun a18 h17 => ?_
  refine wpk_call h17 (wanted_none rfl) rfl (by decide) (fr rfl) (fun args => callZ_36 args _) rfl #[.pointer (some ⟨gr, 0, none⟩), .int .i64 at_, .int .i64 (xs.length : Int)] (by simp only [List.map_toArray, List.map_cons, List.map_nil, h17.ev 11 rfl, h17.ev 12 rfl, h17.ev 14 rfl]) (R := fun v' w' => v' = .bool (inM M at_ (xs.length : Int)) ∧ w = w') ((withinR_any HM.out at_ (xs.length : Int) hat (by omega)).mono fun e w' q => ⟨_, q.1, rfl, q.2⟩) fun a20 v1 w1 r1 h19 => ?_
  obtain ⟨rfl, rfl⟩ := r1; rw [hin] at h19
  refine wmk h19 rfl rfl rfl rfl 15 rfl (fun _ => rfl) fun a22 h21 => ?_
  have h23 := h21.subs (l' := [(7, _), (6, _), (0, _), (1, _), (2, _)]) rfl
  clear h21
  iterate 6 go_step
  refine wmk h23 rfl rfl rfl rfl 7 rfl (fun _ => rfl) fun a25 h24 => ?_
  refine wv h24 rfl rfl rfl rfl (.bool false) (run_not rfl (h24.ev 16 rfl)) fun a27 h26 => ?_
  refine wmk h26 rfl rfl rfl rfl 17 rfl (fun _ => rfl) fun a29 h28 => ?_
  refine wpk_val h28 (by rw [wanted_of (g := 2) (want := false) (b := false) rfl (h28.yields (prev := 18) rfl (by simp))]; rfl) rfl (by decide) (fr rfl) (.slice a xs.length c) (by unfold execOp; simp only [h28.ev 2 rfl]; rfl) fun a31 h30 => ?_
  refine wpk_val h30 (by rw [wanted_of (g := 2) (want := false) (b := false) rfl (h30.yields (prev := 18) rfl (by simp))]; rfl) rfl (by decide) (fr rfl) (.int .i64 (xs.length : Int)) (run_lenBP rfl (h30.ev 19 rfl) _) fun a33 h32 => ?_
  refine wpk_val h32 (by rw [wanted_of (g := 2) (want := false) (b := false) rfl (h32.yields (prev := 18) rfl (by simp))]; rfl) rfl (by decide) (fr rfl) (.bool false) (by unfold execOp; simp only [h32.ev 20 rfl]; exact run_v (gtIP _ _ _ _ _ (decide_eq_false (by omega)))) fun a35 h34 => ?_
  refine wv h34 rfl rfl rfl rfl (.bool false) (run_pick rfl (h34.ev 18 rfl) (by rw [if_neg (by simp)]; exact h34.ev 21 rfl)) fun a37 h36 => ?_
  refine wmk h36 rfl rfl rfl rfl 22 rfl (fun _ => rfl) fun a39 h38 => ?_
  refine wpk_val h38 (by rw [wanted_of (g := 7) (want := false) (b := false) rfl (h38.yields (prev := 23) rfl (by simp))]; rfl) rfl (by decide) (fr rfl) (.pointer (some ⟨dt, 0, none⟩)) (by unfold execOp; simp only [h38.ev 0 rfl]; rfl) fun a41 h40 => ?_
  refine wpk_val h40 (by rw [wanted_of (g := 7) (want := false) (b := false) rfl (h40.yields (prev := 23) rfl (by simp))]; rfl) rfl (by decide) (fr rfl) (.pointer (some ⟨dt, 0, none⟩)) (by unfold execOp; simp only [h40.ev 24 rfl]; exact rfl) fun a43 h42 => ?_
  refine wpk_val h42 (by rw [wanted_of (g := 7) (want := false) (b := false) rfl (h42.yields (prev := 23) rfl (by simp))]; rfl) rfl (by decide) (fr rfl) (.pointer (some ⟨dt, 2, none⟩)) (by unfold execOp; simp only [h42.ev 25 rfl]; exact run_v (faZ_56_0_2 (dt) _)) fun a45 h44 => ?_
  refine wpk_val h44 (by rw [wanted_of (g := 7) (want := false) (b := false) rfl (h44.yields (prev := 23) rfl (by simp))]; rfl) rfl (by decide) (fr rfl) (.slice ra P.length rc) (by unfold execOp; simp only [h44.ev 26 rfl]; exact run_v (loadPtsP (HB.out.cell (i := 2) (by show 2 < 3; omega)))) fun a47 h46 => ?_
  refine wpk_val h46 (by rw [wanted_of (g := 7) (want := false) (b := false) rfl (h46.yields (prev := 23) rfl (by simp))]; rfl) rfl (by decide) (fr rfl) (.int .i64 (P.length : Int)) (run_lenP rfl (h46.ev 27 rfl) _) fun a49 h48 => ?_
  refine wpk_val h48 (by rw [wanted_of (g := 7) (want := false) (b := false) rfl (h48.yields (prev := 23) rfl (by simp))]; rfl) rfl (by decide) (fr rfl) (.bool true) (by unfold execOp; simp only [h48.ev 28 rfl]; exact run_v (eqIP _ _ _ _ _ (beq_iff_eq.2 (by omega)))) fun a51 h50 => ?_
  refine wv h50 rfl rfl rfl rfl (.bool true) (run_pick rfl (h50.ev 23 rfl) (by rw [if_neg (by simp)]; exact h50.ev 29 rfl)) fun a53 h52 => ?_
  have h54 := h52.subs (l' := [(30, _), (7, _), (6, _), (0, _), (1, _), (2, _)]) rfl
  clear h52
  iterate 3 go_step
  refine wp_cond (t := true) (h54.ev 30 rfl) ?_
  simp only [if_true]
  have h55 := h54.subs (l' := [(7, _), (6, _), (0, _), (1, _), (2, _)]) rfl
  clear h54
  iterate 2 go_step
  have h56 := h55.subs (l' := [(7, _), (0, _), (1, _), (2, _)]) rfl
  clear h55
  refine wv h56 rfl rfl rfl rfl (.int .i64 1) rfl fun a58 h57 => ?_
  iterate 4 go_step
  simp only [Exit.then, Exit.inBlock]
  exact bodyPost_ret (results_tmp1 rfl (h57.known (6, .int .i64 1) (by simp))) h57.defs ⟨rfl, rfl⟩
set_option maxHeartbeats 8000000 in
theorem storeR9_ok {w : World} {dt gr lr v d a0 rc B : Nat} {ra : Option Addr} {M : MemM} {P : List PtM} (hm : MemR w gr v d a0 M) (hb : Blk w dt 56 (txC gr lr ra P.length rc)) (ho : OwnPt w B ra rc P) (hB : B ≤ w.heap.size) (hdt : dt < B) (hM : M.V.length ≤ 1048576) {a : Option Addr} {c : Nat} {xs : List UInt8} (h0 : RowB w a c xs) {at_ : Int} (hat : i64B at_) (hP : P.length ≤ 64) (hx : xs.length ≤ 4611686018427387904) (hin : inM M at_ (xs.length : Int) = true) (h1 : ¬ 256 < xs.length) (h2 : ¬ P.length = 64) : Calls Tryz.prog 21 #[.pointer (some ⟨dt, 0, none⟩), .int .i64 at_, .slice a xs.length c] w fun e w' => e = .returned (.int .i64 0) ∧ ∃ ta2 tc2, Blk w' dt 56 (txC gr lr ta2 (P ++ [(⟨at_, xs⟩ : PtM)]).length tc2) ∧ OwnPt w' B ta2 tc2 (P ++ [(⟨at_, xs⟩ : PtM)]) ∧ Turns (fun k => k = dt ∨ some k = obA ra) w w' ∧ WhereA w ra ta2 := by
  have HM := hid hm; have HB := hid hb; have HO := hid ho
  unfold i64B at hat
  clear hm hb ho
  go_enter Tryz.func21, Tryz.ntmps21
  iterate 3 go_step
  refine wpk_enter (N := 44) (l := [(0, .pointer (some ⟨dt, 0, none⟩)), (1, .int .i64 at_), (2, .slice a xs.length c)]) ⟨rfl, (by intro x hx; simp only [List.mem_cons, List.not_mem_nil, or_false] at hx; rcases hx with rfl | rfl | rfl <;> rfl), rfl⟩ fun a2 h1 => ?_
  refine wv h1 rfl rfl rfl rfl (.int .i64 0) rfl fun a4 h3 => ?_
  iterate 5 go_step
  refine wmk h3 rfl rfl rfl rfl 0 rfl (fun _ => rfl) fun a6 h5 => ?_
  refine wv h5 rfl rfl rfl rfl (.pointer (some ⟨dt, 0, none⟩)) (by unfold execOp; simp only [h5.ev 8 rfl]; exact rfl) fun a8 h7 => ?_
  refine wv h7 rfl rfl rfl rfl (.pointer (some ⟨dt, 0, none⟩)) (by unfold execOp; simp only [h7.ev 9 rfl]; exact run_v (faZ_56_0_0 (dt) _)) fun a10 h9 => ?_
  refine wv h9 rfl rfl rfl rfl (.pointer (some ⟨gr, 0, none⟩)) (by unfold execOp; simp only [h9.ev 10 rfl]; exact run_v (loadMR (HB.out.cell (i := 0) (by show 0 < 3; omega)))) fun a12 h11 => ?_
  refine wmk h11 rfl rfl rfl rfl 1 rfl (fun _ => rfl) fun a14 h13 => ?_
  refine wmk h13 rfl rfl rfl rfl 2 rfl (fun _ => rfl) fun a16 h15 => ?_
  refine wv h15 rfl rfl rfl rfl (.int .i64 (xs.length : Int)) (run_lenBP rfl (h15.ev 13 rfl) _) fun a18 h17 => ?_
  refine wpk_call h17 (wanted_none rfl) rfl (by decide) (fr rfl) (fun args => callZ_36 args _) rfl #[.pointer (some ⟨gr, 0, none⟩), .int .i64 at_, .int .i64 (xs.length : Int)] (by simp only [List.map_toArray, List.map_cons, List.map_nil, h17.ev 11 rfl, h17.ev 12 rfl, h17.ev 14 rfl]) (R := fun v' w' => v' = .bool (inM M at_ (xs.length : Int)) ∧ w = w') ((withinR_any HM.out at_ (xs.length : Int) hat (by omega)).mono fun e w' q => ⟨_, q.1, rfl, q.2⟩) fun a20 v1 w1 r1 h19 => ?_
  obtain ⟨rfl, rfl⟩ := r1; rw [hin] at h19
  refine wmk h19 rfl rfl rfl rfl 15 rfl (fun _ => rfl) fun a22 h21 => ?_
  have h23 := h21.subs (l' := [(7, _), (6, _), (0, _), (1, _), (2, _)]) rfl
  clear h21
  iterate 6 go_step
  refine wmk h23 rfl rfl rfl rfl 7 rfl (fun _ => rfl) fun a25 h24 => ?_
  refine wv h24 rfl rfl rfl rfl (.bool false) (run_not rfl (h24.ev 16 rfl)) fun a27 h26 => ?_
  refine wmk h26 rfl rfl rfl rfl 17 rfl (fun _ => rfl) fun a29 h28 => ?_
  refine wpk_val h28 (by rw [wanted_of (g := 2) (want := false) (b := false) rfl (h28.yields (prev := 18) rfl (by simp))]; rfl) rfl (by decide) (fr rfl) (.slice a xs.length c) (by unfold execOp; simp only [h28.ev 2 rfl]; rfl) fun a31 h30 => ?_
  refine wpk_val h30 (by rw [wanted_of (g := 2) (want := false) (b := false) rfl (h30.yields (prev := 18) rfl (by simp))]; rfl) rfl (by decide) (fr rfl) (.int .i64 (xs.length : Int)) (run_lenBP rfl (h30.ev 19 rfl) _) fun a33 h32 => ?_
  refine wpk_val h32 (by rw [wanted_of (g := 2) (want := false) (b := false) rfl (h32.yields (prev := 18) rfl (by simp))]; rfl) rfl (by decide) (fr rfl) (.bool false) (by unfold execOp; simp only [h32.ev 20 rfl]; exact run_v (gtIP _ _ _ _ _ (decide_eq_false (by omega)))) fun a35 h34 => ?_
  refine wv h34 rfl rfl rfl rfl (.bool false) (run_pick rfl (h34.ev 18 rfl) (by rw [if_neg (by simp)]; exact h34.ev 21 rfl)) fun a37 h36 => ?_
  refine wmk h36 rfl rfl rfl rfl 22 rfl (fun _ => rfl) fun a39 h38 => ?_
  refine wpk_val h38 (by rw [wanted_of (g := 7) (want := false) (b := false) rfl (h38.yields (prev := 23) rfl (by simp))]; rfl) rfl (by decide) (fr rfl) (.pointer (some ⟨dt, 0, none⟩)) (by unfold execOp; simp only [h38.ev 0 rfl]; rfl) fun a41 h40 => ?_
  refine wpk_val h40 (by rw [wanted_of (g := 7) (want := false) (b := false) rfl (h40.yields (prev := 23) rfl (by simp))]; rfl) rfl (by decide) (fr rfl) (.pointer (some ⟨dt, 0, none⟩)) (by unfold execOp; simp only [h40.ev 24 rfl]; exact rfl) fun a43 h42 => ?_
  refine wpk_val h42 (by rw [wanted_of (g := 7) (want := false) (b := false) rfl (h42.yields (prev := 23) rfl (by simp))]; rfl) rfl (by decide) (fr rfl) (.pointer (some ⟨dt, 2, none⟩)) (by unfold execOp; simp only [h42.ev 25 rfl]; exact run_v (faZ_56_0_2 (dt) _)) fun a45 h44 => ?_
  refine wpk_val h44 (by rw [wanted_of (g := 7) (want := false) (b := false) rfl (h44.yields (prev := 23) rfl (by simp))]; rfl) rfl (by decide) (fr rfl) (.slice ra P.length rc) (by unfold execOp; simp only [h44.ev 26 rfl]; exact run_v (loadPtsP (HB.out.cell (i := 2) (by show 2 < 3; omega)))) fun a47 h46 => ?_
  refine wpk_val h46 (by rw [wanted_of (g := 7) (want := false) (b := false) rfl (h46.yields (prev := 23) rfl (by simp))]; rfl) rfl (by decide) (fr rfl) (.int .i64 (P.length : Int)) (run_lenP rfl (h46.ev 27 rfl) _) fun a49 h48 => ?_
  refine wpk_val h48 (by rw [wanted_of (g := 7) (want := false) (b := false) rfl (h48.yields (prev := 23) rfl (by simp))]; rfl) rfl (by decide) (fr rfl) (.bool false) (by unfold execOp; simp only [h48.ev 28 rfl]; exact run_v (eqIP _ _ _ _ _ (beq_eq_false_iff_ne.2 (by omega)))) fun a51 h50 => ?_
  refine wv h50 rfl rfl rfl rfl (.bool false) (run_pick rfl (h50.ev 23 rfl) (by rw [if_neg (by simp)]; exact h50.ev 29 rfl)) fun a53 h52 => ?_
  have h54 := h52.subs (l' := [(30, _), (7, _), (6, _), (0, _), (1, _), (2, _)]) rfl
  clear h52
  iterate 3 go_step
  refine wp_cond (t := false) (h54.ev 30 rfl) ?_
  simp only [Bool.false_eq_true, if_false]
  have h55 := h54.subs (l' := [(7, _), (6, _), (0, _), (1, _), (2, _)]) rfl
  clear h54
  iterate 4 go_step
  have HBd := hid (HB.out.mono (Below.refl _ _).drew); have HOd : Hid (OwnPt w.drew B ra rc P) := hid (Own.mono HO.out (Below.refl _ _).drew); have hst := run_str (h0.mono (Below.refl _ _).drew)
  refine wp_region_held_drew (S := fun _ => True) (by kernel_rfl) trivial (fun hS1 => ?_)
  refine tkm hS1 h55 0 0 rfl rfl rfl rfl (by kernel_rfl) (fun _ _ _ _ h => h) rfl (fun _ => rfl) rfl fun a57 h56 => ?_
  refine tkm hS1 h56 1 0 rfl rfl rfl rfl (by kernel_rfl) (fun _ _ _ _ h => h) rfl (fun _ => rfl) rfl fun a59 h58 => ?_
  refine tkn hS1 h58 2 32 rfl rfl rfl rfl (by kernel_rfl) (fun _ _ _ _ h => h) rfl rfl rfl fun a61 h60 => ?_
  refine tkf hS1 h60 3 33 rfl rfl rfl rfl (by kernel_rfl) (fun _ _ _ _ h => h) rfl rfl rfl (fun w => faZ_56_0_2 _ w) fun a63 h62 => ?_
  refine tkm hS1 h62 5 1 rfl rfl rfl rfl (by kernel_rfl) (fun _ _ _ _ h => h) rfl (fun _ => rfl) rfl fun a65 h64 => ?_
  refine tkm hS1 h64 6 2 rfl rfl rfl rfl (by kernel_rfl) (fun _ _ _ _ h => h) rfl (fun _ => rfl) rfl fun a67 h66 => ?_
  refine wpk_two 4 7 rfl rfl rfl rfl (by kernel_rfl) (fun KK hK => op_val (w' := w.drew) h66 rfl (by decide) (fr rfl) (.slice ra P.length rc) (by show (execOp _ (⟨_, .load 44 (.tmp 34), _, _, _, _⟩ : Oper)).run _ _ = _; exact (by unfold execOp; simp only [h66.ev 34 rfl]; exact run_v (loadPtsP (HBd.out.cell (i := 2) (by show 2 < 3; omega))))) fun ax hx => hK _ _ trivial fun hS2 => ?_) (fun KK hK => op_val (w' := w.drew) h66 rfl (by decide) (fr rfl) (strB xs) (by show (execOp _ (⟨_, .convert 26 9 (.tmp 37), _, _, _, _⟩ : Oper)).run _ _ = _; exact (by unfold execOp; simp only [h66.ev 37 rfl]; exact run_v hst)) fun ax hx => hK _ _ trivial fun hS2 => ?_)
  · clear hK KK
    refine wpk_only 7 rfl rfl (by kernel_rfl) fun KK hK => op_val (w' := w.drew) hx rfl (by decide) (fr rfl) (strB xs) (by show (execOp _ (⟨_, .convert 26 9 (.tmp 37), _, _, _, _⟩ : Oper)).run _ _ = _; exact (by unfold execOp; simp only [hx.ev 37 rfl]; exact run_v hst)) fun a69 h68 => hK _ _ (trivial) fun hS2b => ?_
    clear hK KK
    refine wpk_take hS1 h68 8 rfl rfl (by decide) (fr rfl) (by kernel_rfl) (by kernel_rfl) (by kernel_rfl) (fun _ _ _ _ h => h) (ptV ⟨at_, xs⟩) (Or.inl ⟨Eq.refl true, fun w1 hSw => (by show (execOp _ (⟨_, .build 47 #[(0, (.tmp 36)), (1, (.tmp 38))], _, _, _, _⟩ : Oper)).run _ _ = _; exact (by unfold execOp; simp only [List.map_toArray, List.map_cons, List.map_nil, h68.ev 36 rfl, h68.ev 38 rfl]; exact run_v (buildPt _ _ _)))⟩) fun a71 h70 => ?_
    obtain ⟨ws, hws⟩ : ∃ x, x = w.drew.alloc (.cells (ptC ⟨at_, xs⟩).toArray 47) := ⟨_, rfl⟩
    have bs : Below w.drew.heap.size w.drew ws := by rw [hws]; exact albO _ _
    have rs : RowPt ws (some ⟨w.drew.heap.size, 0, none⟩) 1 [⟨at_, xs⟩] := by rw [hws]; exact rowPt1 _ _
    refine wpk_only 9 rfl rfl (by kernel_rfl) fun KK hK => op_val (w' := ws) h70 rfl (by decide) (fr rfl) (.slice (some ⟨w.drew.heap.size, 0, none⟩) ([⟨at_, xs⟩] : List PtM).length 1) (by show (execOp _ (⟨_, .buildSlice 44 1 #[(0, (.tmp 39))], _, _, _, _⟩ : Oper)).run _ _ = _; exact (by unfold execOp; simp only [List.map_toArray, List.map_cons, List.map_nil, h70.ev 39 rfl]; rw [hws]; exact run_v (buildPts _ _))) fun a73 h72 => hK _ _ (trivial) fun hS3 => ?_
    clear hK KK
    have HBs := hid (HBd.out.mono bs); have HOs : Hid (OwnPt ws B ra rc P) := hid (Own.mono HOd.out bs); have HRs := hid rs; have HTs : Hid (Turns (fun k => k = dt ∨ some k = obA ra) w ws) := hid ((Turns.refl _ w).drew.trans (Turns.of_below bs)); have hsz : B ≤ ws.heap.size := Nat.le_trans hB bs.size; have hszw : w.heap.size ≤ ws.heap.size := bs.size; clear hws rs bs
    refine wpk_only 10 rfl rfl (by kernel_rfl) fun KK hK => op_append2 h72 rfl (by decide) (fr rfl) (.tmp 35) (.tmp 40) rfl EPt B (h72.ev 35 rfl) (h72.ev 40 rfl) HOs.out HRs.out (pts_one _) (by show (P.length + 1) * 24 ≤ _; omega) (by show P.length + 1 ≤ _; omega) hsz fun a75 ta2 tc2 w3 o3 g3 b3 x3 h74 => hK _ _ trivial fun hS4 => ?_
    clear hK KK
    have HO3 : Hid (OwnPt w3 B ta2 tc2 (P ++ [(⟨at_, xs⟩ : PtM)])) := hid (by unfold OwnPt; rw [List.length_append, List.flatMap_append]; exact o3)
    have HB3 : Hid (Blk w3 dt 56 (txC gr lr ra P.length rc)) := hid ((b3.block dt hdt).trans HBs.out)
    have HT3 : Hid (Turns (fun k => k = dt ∨ some k = obA ra) w w3) := hid (HTs.out.trans ⟨g3.os, g3.tape, g3.output, g3.size, fun k hk hx => g3.block k hk (by rw [obA_slice]; exact fun e => hx (.inr e))⟩)
    have HX3 := hid (where_le x3 hszw)
    clear o3 g3 b3 x3
    refine tkn hS1 h74 11 31 rfl rfl rfl rfl (by kernel_rfl) (fun _ _ _ _ h => h) rfl rfl rfl fun a77 h76 => ?_
    refine tkf hS1 h76 12 42 rfl rfl rfl rfl (by kernel_rfl) (fun _ _ _ _ h => h) rfl rfl rfl (fun w => faZ_56_0_2 _ w) fun a79 h78 => ?_
    obtain ⟨w4, hw4⟩ : ∃ x, x = w3.setCell ⟨dt, 2, none⟩ (.slice ta2 (P.length + ([⟨at_, xs⟩] : List PtM).length) tc2) := ⟨_, rfl⟩
    refine wpk_only 13 rfl rfl (by kernel_rfl) fun KK hK => op_skip h78 rfl (w' := w4) (by show (execOp _ (⟨_, .store 44 (.tmp 43) (.tmp 41), _, _, _, _⟩ : Oper)).run _ _ = _; exact (by rw [hw4]; unfold execOp; simp only [h78.ev 43 rfl, h78.ev 41 rfl]; exact run_uP (storeTP (HB3.out.cell (i := 2) (by show 2 < 3; omega)) (HB3.out.frozen 2) _ _ _))) fun a81 h80 => hK _ _ trivial fun _ => ?_
    clear hK KK
    have HB4 : Hid (Blk w4 dt 56 (txC gr lr ta2 (P ++ [(⟨at_, xs⟩ : PtM)]).length tc2)) := hid (by rw [hw4, List.length_append]; exact HB3.out.set 2 _)
    have t4 : Turns (fun k => k = dt) w3 w4 := by rw [hw4]; exact (Turns.refl (fun k => k = dt) w3).setCell (p := ⟨dt, 2, none⟩) rfl _
    have HO4 : Hid (OwnPt w4 B ta2 tc2 (P ++ [(⟨at_, xs⟩ : PtM)])) := hid (t4.own HO3.out (fun k e => by omega)); have HT4 : Hid (Turns (fun k => k = dt ∨ some k = obA ra) w w4) := hid (HT3.out.trans (t4.mono (fun k e => .inl e))); clear t4 hw4
    refine wpAnyH_done (by kernel_rfl) ?_ _
    have h82 := h80.subs (l' := [(7, _), (6, _), (0, _), (1, _), (2, _)]) rfl
    clear h80
    iterate 4 go_step
    have h83 := h82.subs (l' := [(7, _), (0, _), (1, _), (2, _)]) rfl
    clear h82
    refine wv h83 rfl rfl rfl rfl (.int .i64 0) rfl fun a85 h84 => ?_
    iterate 4 go_step
    exact bodyPost_ret (results_tmp1 rfl (h84.known (6, .int .i64 0) (by simp))) h84.defs ⟨rfl, ta2, tc2, HB4.out, HO4.out, HT4.out, HX3.out⟩
  · clear hK KK
    refine wpk_take hS1 hx 8 rfl rfl (by decide) (fr rfl) (by kernel_rfl) (by kernel_rfl) (by kernel_rfl) (fun _ _ _ _ h => h) (ptV ⟨at_, xs⟩) (Or.inl ⟨Eq.refl true, fun w1 hSw => (by show (execOp _ (⟨_, .build 47 #[(0, (.tmp 36)), (1, (.tmp 38))], _, _, _, _⟩ : Oper)).run _ _ = _; exact (by unfold execOp; simp only [List.map_toArray, List.map_cons, List.map_nil, hx.ev 36 rfl, hx.ev 38 rfl]; exact run_v (buildPt _ _ _)))⟩) fun a87 h86 => ?_
    obtain ⟨ws, hws⟩ : ∃ x, x = w.drew.alloc (.cells (ptC ⟨at_, xs⟩).toArray 47) := ⟨_, rfl⟩
    have bs : Below w.drew.heap.size w.drew ws := by rw [hws]; exact albO _ _
    have rs : RowPt ws (some ⟨w.drew.heap.size, 0, none⟩) 1 [⟨at_, xs⟩] := by rw [hws]; exact rowPt1 _ _
    refine wpk_two 4 9 rfl rfl rfl rfl (by kernel_rfl) (fun KK hK => op_val (w' := w.drew) h86 rfl (by decide) (fr rfl) (.slice ra P.length rc) (by show (execOp _ (⟨_, .load 44 (.tmp 34), _, _, _, _⟩ : Oper)).run _ _ = _; exact (by unfold execOp; simp only [h86.ev 34 rfl]; exact run_v (loadPtsP (HBd.out.cell (i := 2) (by show 2 < 3; omega))))) fun ax hx => hK _ _ trivial fun hS2 => ?_) (fun KK hK => op_val (w' := ws) h86 rfl (by decide) (fr rfl) (.slice (some ⟨w.drew.heap.size, 0, none⟩) ([⟨at_, xs⟩] : List PtM).length 1) (by show (execOp _ (⟨_, .buildSlice 44 1 #[(0, (.tmp 39))], _, _, _, _⟩ : Oper)).run _ _ = _; exact (by unfold execOp; simp only [List.map_toArray, List.map_cons, List.map_nil, h86.ev 39 rfl]; rw [hws]; exact run_v (buildPts _ _))) fun ax hx => hK _ _ trivial fun hS2 => ?_)
    · clear hK KK
      refine wpk_only 9 rfl rfl (by kernel_rfl) fun KK hK => op_val (w' := ws) hx rfl (by decide) (fr rfl) (.slice (some ⟨w.drew.heap.size, 0, none⟩) ([⟨at_, xs⟩] : List PtM).length 1) (by show (execOp _ (⟨_, .buildSlice 44 1 #[(0, (.tmp 39))], _, _, _, _⟩ : Oper)).run _ _ = _; exact (by unfold execOp; simp only [List.map_toArray, List.map_cons, List.map_nil, hx.ev 39 rfl]; rw [hws]; exact run_v (buildPts _ _))) fun a89 h88 => hK _ _ (trivial) fun hS3 => ?_
      clear hK KK
      have HBs := hid (HBd.out.mono bs); have HOs : Hid (OwnPt ws B ra rc P) := hid (Own.mono HOd.out bs); have HRs := hid rs; have HTs : Hid (Turns (fun k => k = dt ∨ some k = obA ra) w ws) := hid ((Turns.refl _ w).drew.trans (Turns.of_below bs)); have hsz : B ≤ ws.heap.size := Nat.le_trans hB bs.size; have hszw : w.heap.size ≤ ws.heap.size := bs.size; clear hws rs bs
      refine wpk_only 10 rfl rfl (by kernel_rfl) fun KK hK => op_append2 h88 rfl (by decide) (fr rfl) (.tmp 35) (.tmp 40) rfl EPt B (h88.ev 35 rfl) (h88.ev 40 rfl) HOs.out HRs.out (pts_one _) (by show (P.length + 1) * 24 ≤ _; omega) (by show P.length + 1 ≤ _; omega) hsz fun a91 ta2 tc2 w3 o3 g3 b3 x3 h90 => hK _ _ trivial fun hS4 => ?_
      clear hK KK
      have HO3 : Hid (OwnPt w3 B ta2 tc2 (P ++ [(⟨at_, xs⟩ : PtM)])) := hid (by unfold OwnPt; rw [List.length_append, List.flatMap_append]; exact o3)
      have HB3 : Hid (Blk w3 dt 56 (txC gr lr ra P.length rc)) := hid ((b3.block dt hdt).trans HBs.out)
      have HT3 : Hid (Turns (fun k => k = dt ∨ some k = obA ra) w w3) := hid (HTs.out.trans ⟨g3.os, g3.tape, g3.output, g3.size, fun k hk hx => g3.block k hk (by rw [obA_slice]; exact fun e => hx (.inr e))⟩)
      have HX3 := hid (where_le x3 hszw)
      clear o3 g3 b3 x3
      refine tkn hS1 h90 11 31 rfl rfl rfl rfl (by kernel_rfl) (fun _ _ _ _ h => h) rfl rfl rfl fun a93 h92 => ?_
      refine tkf hS1 h92 12 42 rfl rfl rfl rfl (by kernel_rfl) (fun _ _ _ _ h => h) rfl rfl rfl (fun w => faZ_56_0_2 _ w) fun a95 h94 => ?_
      obtain ⟨w4, hw4⟩ : ∃ x, x = w3.setCell ⟨dt, 2, none⟩ (.slice ta2 (P.length + ([⟨at_, xs⟩] : List PtM).length) tc2) := ⟨_, rfl⟩
      refine wpk_only 13 rfl rfl (by kernel_rfl) fun KK hK => op_skip h94 rfl (w' := w4) (by show (execOp _ (⟨_, .store 44 (.tmp 43) (.tmp 41), _, _, _, _⟩ : Oper)).run _ _ = _; exact (by rw [hw4]; unfold execOp; simp only [h94.ev 43 rfl, h94.ev 41 rfl]; exact run_uP (storeTP (HB3.out.cell (i := 2) (by show 2 < 3; omega)) (HB3.out.frozen 2) _ _ _))) fun a97 h96 => hK _ _ trivial fun _ => ?_
      clear hK KK
      have HB4 : Hid (Blk w4 dt 56 (txC gr lr ta2 (P ++ [(⟨at_, xs⟩ : PtM)]).length tc2)) := hid (by rw [hw4, List.length_append]; exact HB3.out.set 2 _)
      have t4 : Turns (fun k => k = dt) w3 w4 := by rw [hw4]; exact (Turns.refl (fun k => k = dt) w3).setCell (p := ⟨dt, 2, none⟩) rfl _
      have HO4 : Hid (OwnPt w4 B ta2 tc2 (P ++ [(⟨at_, xs⟩ : PtM)])) := hid (t4.own HO3.out (fun k e => by omega)); have HT4 : Hid (Turns (fun k => k = dt ∨ some k = obA ra) w w4) := hid (HT3.out.trans (t4.mono (fun k e => .inl e))); clear t4 hw4
      refine wpAnyH_done (by kernel_rfl) ?_ _
      have h98 := h96.subs (l' := [(7, _), (6, _), (0, _), (1, _), (2, _)]) rfl
      clear h96
      iterate 4 go_step
      have h99 := h98.subs (l' := [(7, _), (0, _), (1, _), (2, _)]) rfl
      clear h98
      refine wv h99 rfl rfl rfl rfl (.int .i64 0) rfl fun a101 h100 => ?_
      iterate 4 go_step
      exact bodyPost_ret (results_tmp1 rfl (h100.known (6, .int .i64 0) (by simp))) h100.defs ⟨rfl, ta2, tc2, HB4.out, HO4.out, HT4.out, HX3.out⟩
    · clear hK KK
      have HBs := hid (HBd.out.mono bs); have HOs : Hid (OwnPt ws B ra rc P) := hid (Own.mono HOd.out bs); have HRs := hid rs; have HTs : Hid (Turns (fun k => k = dt ∨ some k = obA ra) w ws) := hid ((Turns.refl _ w).drew.trans (Turns.of_below bs)); have hsz : B ≤ ws.heap.size := Nat.le_trans hB bs.size; have hszw : w.heap.size ≤ ws.heap.size := bs.size; clear hws rs bs
      refine wpk_only 4 rfl rfl (by kernel_rfl) fun KK hK => op_val (w' := ws) hx rfl (by decide) (fr rfl) (.slice ra P.length rc) (by show (execOp _ (⟨_, .load 44 (.tmp 34), _, _, _, _⟩ : Oper)).run _ _ = _; exact (by unfold execOp; simp only [hx.ev 34 rfl]; exact run_v (loadPtsP (HBs.out.cell (i := 2) (by show 2 < 3; omega))))) fun a103 h102 => hK _ _ (trivial) fun hS3 => ?_
      clear hK KK
      refine wpk_only 10 rfl rfl (by kernel_rfl) fun KK hK => op_append2 h102 rfl (by decide) (fr rfl) (.tmp 35) (.tmp 40) rfl EPt B (h102.ev 35 rfl) (h102.ev 40 rfl) HOs.out HRs.out (pts_one _) (by show (P.length + 1) * 24 ≤ _; omega) (by show P.length + 1 ≤ _; omega) hsz fun a105 ta2 tc2 w3 o3 g3 b3 x3 h104 => hK _ _ trivial fun hS4 => ?_
      clear hK KK
      have HO3 : Hid (OwnPt w3 B ta2 tc2 (P ++ [(⟨at_, xs⟩ : PtM)])) := hid (by unfold OwnPt; rw [List.length_append, List.flatMap_append]; exact o3)
      have HB3 : Hid (Blk w3 dt 56 (txC gr lr ra P.length rc)) := hid ((b3.block dt hdt).trans HBs.out)
      have HT3 : Hid (Turns (fun k => k = dt ∨ some k = obA ra) w w3) := hid (HTs.out.trans ⟨g3.os, g3.tape, g3.output, g3.size, fun k hk hx => g3.block k hk (by rw [obA_slice]; exact fun e => hx (.inr e))⟩)
      have HX3 := hid (where_le x3 hszw)
      clear o3 g3 b3 x3
      refine tkn hS1 h104 11 31 rfl rfl rfl rfl (by kernel_rfl) (fun _ _ _ _ h => h) rfl rfl rfl fun a107 h106 => ?_
      refine tkf hS1 h106 12 42 rfl rfl rfl rfl (by kernel_rfl) (fun _ _ _ _ h => h) rfl rfl rfl (fun w => faZ_56_0_2 _ w) fun a109 h108 => ?_
      obtain ⟨w4, hw4⟩ : ∃ x, x = w3.setCell ⟨dt, 2, none⟩ (.slice ta2 (P.length + ([⟨at_, xs⟩] : List PtM).length) tc2) := ⟨_, rfl⟩
      refine wpk_only 13 rfl rfl (by kernel_rfl) fun KK hK => op_skip h108 rfl (w' := w4) (by show (execOp _ (⟨_, .store 44 (.tmp 43) (.tmp 41), _, _, _, _⟩ : Oper)).run _ _ = _; exact (by rw [hw4]; unfold execOp; simp only [h108.ev 43 rfl, h108.ev 41 rfl]; exact run_uP (storeTP (HB3.out.cell (i := 2) (by show 2 < 3; omega)) (HB3.out.frozen 2) _ _ _))) fun a111 h110 => hK _ _ trivial fun _ => ?_
      clear hK KK
      have HB4 : Hid (Blk w4 dt 56 (txC gr lr ta2 (P ++ [(⟨at_, xs⟩ : PtM)]).length tc2)) := hid (by rw [hw4, List.length_append]; exact HB3.out.set 2 _)
      have t4 : Turns (fun k => k = dt) w3 w4 := by rw [hw4]; exact (Turns.refl (fun k => k = dt) w3).setCell (p := ⟨dt, 2, none⟩) rfl _
      have HO4 : Hid (OwnPt w4 B ta2 tc2 (P ++ [(⟨at_, xs⟩ : PtM)])) := hid (t4.own HO3.out (fun k e => by omega)); have HT4 : Hid (Turns (fun k => k = dt ∨ some k = obA ra) w w4) := hid (HT3.out.trans (t4.mono (fun k e => .inl e))); clear t4 hw4
      refine wpAnyH_done (by kernel_rfl) ?_ _
      have h112 := h110.subs (l' := [(7, _), (6, _), (0, _), (1, _), (2, _)]) rfl
      clear h110
      iterate 4 go_step
      have h113 := h112.subs (l' := [(7, _), (0, _), (1, _), (2, _)]) rfl
      clear h112
      refine wv h113 rfl rfl rfl rfl (.int .i64 0) rfl fun a115 h114 => ?_
      iterate 4 go_step
      exact bodyPost_ret (results_tmp1 rfl (h114.known (6, .int .i64 0) (by simp))) h114.defs ⟨rfl, ta2, tc2, HB4.out, HO4.out, HT4.out, HX3.out⟩
theorem storeR9_any {w : World} {dt gr lr v d a0 rc B : Nat} {ra : Option Addr} {M : MemM} {P : List PtM} (hm : MemR w gr v d a0 M) (hb : Blk w dt 56 (txC gr lr ra P.length rc)) (ho : OwnPt w B ra rc P) (hB : B ≤ w.heap.size) (hdt : dt < B) (hM : M.V.length ≤ 1048576) {a : Option Addr} {c : Nat} {xs : List UInt8} (h0 : RowB w a c xs) {at_ : Int} (hat : i64B at_) (hP : P.length ≤ 64) (hx : xs.length ≤ 4611686018427387904) : Calls Tryz.prog 21 #[.pointer (some ⟨dt, 0, none⟩), .int .i64 at_, .slice a xs.length c] w (StoreR2 w dt gr lr B ra M P at_ xs) := by
  have bad : okT M P at_ xs.length = false → StoreR2 w dt gr lr B ra M P at_ xs (.returned (.int .i64 1)) w := fun h => by
    unfold StoreR2 errT putT
    rw [h]
    exact ⟨rfl, ra, rc, hb, ho, Turns.refl _ w, .inl rfl⟩
  have no : (Calls Tryz.prog 21 #[.pointer (some ⟨dt, 0, none⟩), .int .i64 at_, .slice a xs.length c] w fun e w' => e = .returned (.int .i64 1) ∧ w = w') → okT M P at_ xs.length = false → Calls Tryz.prog 21 #[.pointer (some ⟨dt, 0, none⟩), .int .i64 at_, .slice a xs.length c] w (StoreR2 w dt gr lr B ra M P at_ xs) := fun h k => h.mono fun e w' q => by obtain ⟨rfl, rfl⟩ := q; exact bad k
  by_cases hin : inM M at_ (xs.length : Int) = true
  case neg =>
    refine no (storeR9_out hm hb ho hB hdt hM h0 hat hP hx (by simpa using hin)) ?_
    rw [inM_iff] at hin
    unfold okT; exact decide_eq_false (by omega)
  by_cases h1 : 256 < xs.length
  · refine no (storeR9_big hm hb ho hB hdt hM h0 hat hP hx hin h1) ?_
    unfold okT; exact decide_eq_false (by omega)
  by_cases h2 : P.length = 64
  · refine no (storeR9_full hm hb ho hB hdt hM h0 hat hP hx hin h1 h2) ?_
    unfold okT; exact decide_eq_false (by omega)
  refine (storeR9_ok hm hb ho hB hdt hM h0 hat hP hx hin h1 h2).mono fun e w' q => ?_
  have ok : okT M P at_ xs.length = true := by
    rw [inM_iff] at hin
    unfold okT; exact decide_eq_true (by omega)
  unfold StoreR2 errT putT
  rw [if_pos ok, if_pos ok]
  exact q
set_option maxHeartbeats 4000000 in
theorem comR9_nil {w : World} {dt gr lr rc : Nat} {ra : Option Addr} {P : List PtM} (hb : Blk w dt 56 (txC gr lr ra P.length rc)) (h0 : P = []) : Calls Tryz.prog 22 #[.pointer (some ⟨dt, 0, none⟩)] w fun e w' => e = .returned (.int .i64 0) ∧ Blk w' dt 56 (txC gr lr ra P.length rc) ∧ w = w' := by
  have HB := hid hb
  have n1 := hid (show ((P.length : Int) == (0 : Int)) = true by rw [h0]; rfl)
  clear hb
  go_enter Tryz.func22, Tryz.ntmps22
  iterate 3 go_step
  refine wpk_enter (N := 30) (l := [(0, .pointer (some ⟨dt, 0, none⟩))]) ⟨rfl, (by intro x hx; simp only [List.mem_cons, List.not_mem_nil, or_false] at hx; rcases hx with rfl <;> rfl), rfl⟩ fun a2 h1 => ?_
  refine wv h1 rfl rfl rfl rfl (.int .i64 0) rfl fun a4 h3 => ?_
  iterate 6 go_step
  refine wmk h3 rfl rfl rfl rfl 0 rfl (fun _ => rfl) fun a6 h5 => ?_
  refine wv h5 rfl rfl rfl rfl (.pointer (some ⟨dt, 0, none⟩)) (by unfold execOp; simp only [h5.ev 4 rfl]; exact rfl) fun a8 h7 => ?_
  refine wv h7 rfl rfl rfl rfl (.pointer (some ⟨dt, 2, none⟩)) (by unfold execOp; simp only [h7.ev 5 rfl]; exact run_v (faZ_56_0_2 (dt) _)) fun a10 h9 => ?_
  refine wv h9 rfl rfl rfl rfl (.slice ra P.length rc) (by unfold execOp; simp only [h9.ev 6 rfl]; exact run_v (loadPtsP (HB.out.cell (i := 2) (by show 2 < 3; omega)))) fun a12 h11 => ?_
  refine wv h11 rfl rfl rfl rfl (.int .i64 (P.length : Int)) (run_lenP rfl (h11.ev 7 rfl) _) fun a14 h13 => ?_
  refine wv h13 rfl rfl rfl rfl (.bool true) (by unfold execOp; simp only [h13.ev 8 rfl]; exact run_v (eqIP _ _ _ _ _ n1.out)) fun a16 h15 => ?_
  have h17 := h15.subs (l' := [(9, _), (2, _), (0, _)]) rfl
  clear h15
  iterate 3 go_step
  refine wp_cond (t := true) (h17.ev 9 rfl) ?_
  simp only [if_true]
  have h18 := h17.subs (l' := [(2, _), (0, _)]) rfl
  clear h17
  iterate 2 go_step
  have h19 := h18.subs (l' := [(0, _)]) rfl
  clear h18
  refine wv h19 rfl rfl rfl rfl (.int .i64 0) rfl fun a21 h20 => ?_
  iterate 4 go_step
  simp only [Exit.then, Exit.inBlock]
  exact bodyPost_ret (results_tmp1 rfl (h20.known (2, .int .i64 0) (by simp))) h20.defs ⟨rfl, HB.out, rfl⟩
set_option maxHeartbeats 4000000 in
theorem comR9_err {w : World} {dt gr lr v d a rc B : Nat} {ra : Option Addr} {M : MemM} {P : List PtM} (hl : LogRP w lr gr v d a 512 512 M) (hok : LogOk 512 512 M) (hb : Blk w dt 56 (txC gr lr ra P.length rc)) (hr : RowPt w ra rc P) (k1 : dt ≠ lr) (k2 : dt ≠ gr) (k3 : dt ≠ v) (k4 : dt ≠ d) (k5 : dt ≠ a) (hn : P.length ≤ 64) (okp : okPts P) (h0 : P ≠ []) (hE : appE M 512 512 P ≠ 0) : Calls Tryz.prog 22 #[.pointer (some ⟨dt, 0, none⟩)] w fun e w' => e = .returned (.int .i64 (appE M 512 512 P)) ∧ LogRP w' lr gr v d a 512 512 (appM M 512 512 P) ∧ Blk w' dt 56 (txC gr lr ra P.length rc) ∧ Turns (XM v d a) w w' := by
  have n1 := hid (show ((P.length : Int) == (0 : Int)) = false by have z := List.length_pos_iff.2 h0; simpa using (show P.length ≠ 0 by omega))
  have n2 := hid (show (appE M 512 512 P != 0) = true by simpa using hE)
  have ht : ¬ XM v d a dt := by rintro (e | e | e) <;> omega
  have HB := hid hb; have HL := hid hl; have HR := hid hr
  clear hb hl hr
  go_enter Tryz.func22, Tryz.ntmps22
  iterate 3 go_step
  refine wpk_enter (N := 30) (l := [(0, .pointer (some ⟨dt, 0, none⟩))]) ⟨rfl, (by intro x hx; simp only [List.mem_cons, List.not_mem_nil, or_false] at hx; rcases hx with rfl <;> rfl), rfl⟩ fun a2 h1 => ?_
  refine wv h1 rfl rfl rfl rfl (.int .i64 0) rfl fun a4 h3 => ?_
  iterate 6 go_step
  refine wmk h3 rfl rfl rfl rfl 0 rfl (fun _ => rfl) fun a6 h5 => ?_
  refine wv h5 rfl rfl rfl rfl (.pointer (some ⟨dt, 0, none⟩)) (by unfold execOp; simp only [h5.ev 4 rfl]; exact rfl) fun a8 h7 => ?_
  refine wv h7 rfl rfl rfl rfl (.pointer (some ⟨dt, 2, none⟩)) (by unfold execOp; simp only [h7.ev 5 rfl]; exact run_v (faZ_56_0_2 (dt) _)) fun a10 h9 => ?_
  refine wv h9 rfl rfl rfl rfl (.slice ra P.length rc) (by unfold execOp; simp only [h9.ev 6 rfl]; exact run_v (loadPtsP (HB.out.cell (i := 2) (by show 2 < 3; omega)))) fun a12 h11 => ?_
  refine wv h11 rfl rfl rfl rfl (.int .i64 (P.length : Int)) (run_lenP rfl (h11.ev 7 rfl) _) fun a14 h13 => ?_
  refine wv h13 rfl rfl rfl rfl (.bool false) (by unfold execOp; simp only [h13.ev 8 rfl]; exact run_v (eqIP _ _ _ _ _ n1.out)) fun a16 h15 => ?_
  have h17 := h15.subs (l' := [(9, _), (2, _), (0, _)]) rfl
  clear h15
  iterate 3 go_step
  refine wp_cond (t := false) (h17.ev 9 rfl) ?_
  simp only [Bool.false_eq_true, if_false]
  have h18 := h17.subs (l' := [(2, _), (0, _)]) rfl
  clear h17
  iterate 4 go_step
  have HBd := hid (HB.out.mono (Below.refl _ _).drew); have HLd := hid (HL.out.mono (Below.refl _ _).drew); have HRd := hid (HR.out.mono (Below.refl _ _).drew)
  refine wp_region_held_drew (S := fun w' => Blk w' dt 56 (txC gr lr ra P.length rc)) (by kernel_rfl) HBd.out (fun hS1 => ?_)
  refine tkm hS1 h18 0 0 rfl rfl rfl rfl (by kernel_rfl) (fun _ _ _ _ h => h) rfl (fun _ => rfl) rfl fun a20 h19 => ?_
  refine tkn hS1 h19 1 10 rfl rfl rfl rfl (by kernel_rfl) (fun _ _ _ _ h => h) rfl rfl rfl fun a22 h21 => ?_
  refine tkf hS1 h21 2 11 rfl rfl rfl rfl (by kernel_rfl) (fun _ _ _ _ h => h) rfl rfl rfl (fun w => faZ_56_0_1 _ w) fun a24 h23 => ?_
  refine tkl hS1 h23 3 12 rfl rfl rfl rfl (by kernel_rfl) (fun _ _ _ _ h => h) rfl rfl rfl (fun _ hSw => (loadLRZ (hSw.cell (i := 1) (by show 1 < 3; omega)))) fun a26 h25 => ?_
  refine tkm hS1 h25 4 0 rfl rfl rfl rfl (by kernel_rfl) (fun _ _ _ _ h => h) rfl (fun _ => rfl) rfl fun a28 h27 => ?_
  refine tkn hS1 h27 5 14 rfl rfl rfl rfl (by kernel_rfl) (fun _ _ _ _ h => h) rfl rfl rfl fun a30 h29 => ?_
  refine tkf hS1 h29 6 15 rfl rfl rfl rfl (by kernel_rfl) (fun _ _ _ _ h => h) rfl rfl rfl (fun w => faZ_56_0_2 _ w) fun a32 h31 => ?_
  refine tkl hS1 h31 7 16 rfl rfl rfl rfl (by kernel_rfl) (fun _ _ _ _ h => h) rfl rfl rfl (fun _ hSw => (loadPtsP (hSw.cell (i := 2) (by show 2 < 3; omega)))) fun a34 h33 => ?_
  refine wpk_only 8 rfl rfl (by kernel_rfl) fun KK hK => op_call h33 rfl (by decide) (fr rfl) (fun args => callZ_37 args _) rfl #[.pointer (some ⟨lr, 0, none⟩), .slice ra P.length rc] (by simp only [List.map_toArray, List.map_cons, List.map_nil, h33.ev 13 rfl, h33.ev 17 rfl]) (R := fun v' w' => v' = .int .i64 (appE M 512 512 P) ∧ LogRP w' lr gr v d a 512 512 (appM M 512 512 P) ∧ Turns (XM v d a) w.drew w') (appendR_any HLd.out hok HRd.out okp (by omega)) fun a36 v2 w2 r2 h35 => hK _ _ (r2.2.2.blk HBd.out ht) fun hS2 => ?_
  clear hK KK
  obtain ⟨rfl, l2, t2⟩ := r2
  have HL2 := hid l2; have HB2 : Hid (Blk w2 dt 56 (txC gr lr ra P.length rc)) := hid (t2.blk HBd.out ht); have HT2 : Hid (Turns (XM v d a) w w2) := hid ((Turns.refl _ w).drew.trans t2); clear l2 t2
  refine tkm hS2 h35 9 18 rfl rfl rfl rfl (by kernel_rfl) (fun _ _ _ _ h => h) rfl (fun _ => rfl) rfl fun a38 h37 => ?_
  refine wpAnyH_done (by kernel_rfl) ?_ _
  have h39 := h37.subs (l' := [(3, _), (2, _), (0, _)]) rfl
  clear h37
  iterate 5 go_step
  refine wmk h39 rfl rfl rfl rfl 3 rfl (fun _ => rfl) fun a41 h40 => ?_
  refine wv h40 rfl rfl rfl rfl (.bool true) (by unfold execOp; simp only [h40.ev 19 rfl]; exact run_v (neEP _ _ _ _ _ n2.out)) fun a43 h42 => ?_
  have h44 := h42.subs (l' := [(20, _), (3, _), (2, _), (0, _)]) rfl
  clear h42
  iterate 3 go_step
  refine wp_cond (t := true) (h44.ev 20 rfl) ?_
  simp only [if_true]
  have h45 := h44.subs (l' := [(3, _), (2, _), (0, _)]) rfl
  clear h44
  iterate 2 go_step
  refine wmk h45 rfl rfl rfl rfl 3 rfl (fun _ => rfl) fun a47 h46 => ?_
  have h48 := h46.subs (l' := [(21, _), (3, _), (0, _)]) rfl
  clear h46
  refine wmk h48 rfl rfl rfl rfl 21 rfl (fun _ => rfl) fun a50 h49 => ?_
  have h51 := h49.subs (l' := [(2, _), (3, _), (0, _)]) rfl
  clear h49
  iterate 4 go_step
  simp only [Exit.then, Exit.inBlock]
  exact bodyPost_ret (results_tmp1 rfl (h51.known (2, .int .i64 (appE M 512 512 P)) (by simp))) h51.defs ⟨rfl, HL2.out, HB2.out, HT2.out⟩
set_option maxHeartbeats 4000000 in
theorem comR9_ok {w : World} {dt gr lr v d a rc B : Nat} {ra : Option Addr} {M : MemM} {P : List PtM} (hl : LogRP w lr gr v d a 512 512 M) (hok : LogOk 512 512 M) (hb : Blk w dt 56 (txC gr lr ra P.length rc)) (hr : RowPt w ra rc P) (k1 : dt ≠ lr) (k2 : dt ≠ gr) (k3 : dt ≠ v) (k4 : dt ≠ d) (k5 : dt ≠ a) (hn : P.length ≤ 64) (okp : okPts P) (h0 : P ≠ []) (hE : appE M 512 512 P = 0) : Calls Tryz.prog 22 #[.pointer (some ⟨dt, 0, none⟩)] w fun e w' => e = .returned (.int .i64 0) ∧ LogRP w' lr gr v d a 512 512 (redoM (appM M 512 512 P) 512 512) ∧ Blk w' dt 56 (txC gr lr none 0 0) ∧ Turns (fun k => XM v d a k ∨ k = dt) w w' := by
  have n1 := hid (show ((P.length : Int) == (0 : Int)) = false by have z := List.length_pos_iff.2 h0; simpa using (show P.length ≠ 0 by omega))
  have n2 := hid (show (appE M 512 512 P != 0) = false by rw [hE]; rfl)
  have ht : ¬ XM v d a dt := by rintro (e | e | e) <;> omega
  have HB := hid hb; have HL := hid hl; have HR := hid hr
  clear hb hl hr
  go_enter Tryz.func22, Tryz.ntmps22
  iterate 3 go_step
  refine wpk_enter (N := 30) (l := [(0, .pointer (some ⟨dt, 0, none⟩))]) ⟨rfl, (by intro x hx; simp only [List.mem_cons, List.not_mem_nil, or_false] at hx; rcases hx with rfl <;> rfl), rfl⟩ fun a2 h1 => ?_
  refine wv h1 rfl rfl rfl rfl (.int .i64 0) rfl fun a4 h3 => ?_
  iterate 6 go_step
  refine wmk h3 rfl rfl rfl rfl 0 rfl (fun _ => rfl) fun a6 h5 => ?_
  refine wv h5 rfl rfl rfl rfl (.pointer (some ⟨dt, 0, none⟩)) (by unfold execOp; simp only [h5.ev 4 rfl]; exact rfl) fun a8 h7 => ?_
  refine wv h7 rfl rfl rfl rfl (.pointer (some ⟨dt, 2, none⟩)) (by unfold execOp; simp only [h7.ev 5 rfl]; exact run_v (faZ_56_0_2 (dt) _)) fun a10 h9 => ?_
  refine wv h9 rfl rfl rfl rfl (.slice ra P.length rc) (by unfold execOp; simp only [h9.ev 6 rfl]; exact run_v (loadPtsP (HB.out.cell (i := 2) (by show 2 < 3; omega)))) fun a12 h11 => ?_
  refine wv h11 rfl rfl rfl rfl (.int .i64 (P.length : Int)) (run_lenP rfl (h11.ev 7 rfl) _) fun a14 h13 => ?_
  refine wv h13 rfl rfl rfl rfl (.bool false) (by unfold execOp; simp only [h13.ev 8 rfl]; exact run_v (eqIP _ _ _ _ _ n1.out)) fun a16 h15 => ?_
  have h17 := h15.subs (l' := [(9, _), (2, _), (0, _)]) rfl
  clear h15
  iterate 3 go_step
  refine wp_cond (t := false) (h17.ev 9 rfl) ?_
  simp only [Bool.false_eq_true, if_false]
  have h18 := h17.subs (l' := [(2, _), (0, _)]) rfl
  clear h17
  iterate 4 go_step
  have HBd := hid (HB.out.mono (Below.refl _ _).drew); have HLd := hid (HL.out.mono (Below.refl _ _).drew); have HRd := hid (HR.out.mono (Below.refl _ _).drew)
  refine wp_region_held_drew (S := fun w' => Blk w' dt 56 (txC gr lr ra P.length rc)) (by kernel_rfl) HBd.out (fun hS1 => ?_)
  refine tkm hS1 h18 0 0 rfl rfl rfl rfl (by kernel_rfl) (fun _ _ _ _ h => h) rfl (fun _ => rfl) rfl fun a20 h19 => ?_
  refine tkn hS1 h19 1 10 rfl rfl rfl rfl (by kernel_rfl) (fun _ _ _ _ h => h) rfl rfl rfl fun a22 h21 => ?_
  refine tkf hS1 h21 2 11 rfl rfl rfl rfl (by kernel_rfl) (fun _ _ _ _ h => h) rfl rfl rfl (fun w => faZ_56_0_1 _ w) fun a24 h23 => ?_
  refine tkl hS1 h23 3 12 rfl rfl rfl rfl (by kernel_rfl) (fun _ _ _ _ h => h) rfl rfl rfl (fun _ hSw => (loadLRZ (hSw.cell (i := 1) (by show 1 < 3; omega)))) fun a26 h25 => ?_
  refine tkm hS1 h25 4 0 rfl rfl rfl rfl (by kernel_rfl) (fun _ _ _ _ h => h) rfl (fun _ => rfl) rfl fun a28 h27 => ?_
  refine tkn hS1 h27 5 14 rfl rfl rfl rfl (by kernel_rfl) (fun _ _ _ _ h => h) rfl rfl rfl fun a30 h29 => ?_
  refine tkf hS1 h29 6 15 rfl rfl rfl rfl (by kernel_rfl) (fun _ _ _ _ h => h) rfl rfl rfl (fun w => faZ_56_0_2 _ w) fun a32 h31 => ?_
  refine tkl hS1 h31 7 16 rfl rfl rfl rfl (by kernel_rfl) (fun _ _ _ _ h => h) rfl rfl rfl (fun _ hSw => (loadPtsP (hSw.cell (i := 2) (by show 2 < 3; omega)))) fun a34 h33 => ?_
  refine wpk_only 8 rfl rfl (by kernel_rfl) fun KK hK => op_call h33 rfl (by decide) (fr rfl) (fun args => callZ_37 args _) rfl #[.pointer (some ⟨lr, 0, none⟩), .slice ra P.length rc] (by simp only [List.map_toArray, List.map_cons, List.map_nil, h33.ev 13 rfl, h33.ev 17 rfl]) (R := fun v' w' => v' = .int .i64 (appE M 512 512 P) ∧ LogRP w' lr gr v d a 512 512 (appM M 512 512 P) ∧ Turns (XM v d a) w.drew w') (appendR_any HLd.out hok HRd.out okp (by omega)) fun a36 v2 w2 r2 h35 => hK _ _ (r2.2.2.blk HBd.out ht) fun hS2 => ?_
  clear hK KK
  obtain ⟨rfl, l2, t2⟩ := r2
  have HL2 := hid l2; have HB2 : Hid (Blk w2 dt 56 (txC gr lr ra P.length rc)) := hid (t2.blk HBd.out ht); have HT2 : Hid (Turns (XM v d a) w w2) := hid ((Turns.refl _ w).drew.trans t2); clear l2 t2
  refine tkm hS2 h35 9 18 rfl rfl rfl rfl (by kernel_rfl) (fun _ _ _ _ h => h) rfl (fun _ => rfl) rfl fun a38 h37 => ?_
  refine wpAnyH_done (by kernel_rfl) ?_ _
  have h39 := h37.subs (l' := [(3, _), (2, _), (0, _)]) rfl
  clear h37
  iterate 5 go_step
  refine wmk h39 rfl rfl rfl rfl 3 rfl (fun _ => rfl) fun a41 h40 => ?_
  refine wv h40 rfl rfl rfl rfl (.bool false) (by unfold execOp; simp only [h40.ev 19 rfl]; exact run_v (neEP _ _ _ _ _ n2.out)) fun a43 h42 => ?_
  have h44 := h42.subs (l' := [(20, _), (3, _), (2, _), (0, _)]) rfl
  clear h42
  iterate 3 go_step
  refine wp_cond (t := false) (h44.ev 20 rfl) ?_
  simp only [Bool.false_eq_true, if_false]
  have h45 := h44.subs (l' := [(3, _), (2, _), (0, _)]) rfl
  clear h44
  iterate 5 go_step
  refine wmk h45 rfl rfl rfl rfl 0 rfl (fun _ => rfl) fun a47 h46 => ?_
  refine wv h46 rfl rfl rfl rfl (.pointer (some ⟨dt, 0, none⟩)) (by unfold execOp; simp only [h46.ev 22 rfl]; exact rfl) fun a49 h48 => ?_
  refine wv h48 rfl rfl rfl rfl (.pointer (some ⟨dt, 1, none⟩)) (by unfold execOp; simp only [h48.ev 23 rfl]; exact run_v (faZ_56_0_1 (dt) _)) fun a51 h50 => ?_
  refine wv h50 rfl rfl rfl rfl (.pointer (some ⟨lr, 0, none⟩)) (by unfold execOp; simp only [h50.ev 24 rfl]; exact run_v (loadLRZ (HB2.out.cell (i := 1) (by show 1 < 3; omega)))) fun a53 h52 => ?_
  refine wpk_call h52 (wanted_none rfl) rfl (by decide) (fr rfl) (fun args => callZ_38 args _) rfl #[.pointer (some ⟨lr, 0, none⟩)] (by simp only [List.map_toArray, List.map_cons, List.map_nil, h52.ev 25 rfl]) (R := fun v' w' => v' = .int .i64 ((logR (appM M 512 512 P).V 512 512).1.length : Int) ∧ LogRP w' lr gr v d a 512 512 (redoM (appM M 512 512 P) 512 512) ∧ Turns (XM v d a) w2 w') (redoR_any HL2.out (logOk_app hok P)) fun a55 v3 w3 r3 h54 => ?_
  obtain ⟨rfl, l3, t3⟩ := r3; have HL3 := hid l3; have HB3 : Hid (Blk w3 dt 56 (txC gr lr ra P.length rc)) := hid (t3.blk HB2.out ht); have HT3 := hid (HT2.out.trans t3); clear l3 t3
  have h56 := h54.subs (l' := [(3, _), (2, _), (0, _)]) rfl
  clear h54
  iterate 5 go_step
  refine wmk h56 rfl rfl rfl rfl 0 rfl (fun _ => rfl) fun a58 h57 => ?_
  refine wv h57 rfl rfl rfl rfl (.pointer (some ⟨dt, 0, none⟩)) (by unfold execOp; simp only [h57.ev 27 rfl]; exact rfl) fun a60 h59 => ?_
  refine wv h59 rfl rfl rfl rfl (.pointer (some ⟨dt, 2, none⟩)) (by unfold execOp; simp only [h59.ev 28 rfl]; exact run_v (faZ_56_0_2 (dt) _)) fun a62 h61 => ?_
  obtain ⟨w4, hw4⟩ : ∃ y, y = w3.setCell ⟨dt, 2, none⟩ (.slice none 0 0) := ⟨_, rfl⟩
  refine wpk_skipvP h61 (wanted_none rfl) rfl (w' := w4) (by rw [hw4]; unfold execOp; simp only [h61.ev 29 rfl]; exact run_uP (storeTP (HB3.out.cell (i := 2) (by show 2 < 3; omega)) (HB3.out.frozen 2) _ _ _)) fun a64 h63 => ?_
  have HB4 : Hid (Blk w4 dt 56 (txC gr lr none 0 0)) := hid (by rw [hw4]; exact HB3.out.set 2 _); have t4 : Turns (fun k => k = dt) w3 w4 := (by rw [hw4]; exact (Turns.refl (fun k => k = dt) w3).setCell (p := ⟨dt, 2, none⟩) rfl _); have HL4 : Hid (LogRP w4 lr gr v d a 512 512 (redoM (appM M 512 512 P) 512 512)) := hid (logRP_turns HL3.out t4 (fun e => k1 e.symm) (fun e => k2 e.symm) (fun e => k3 e.symm) (fun e => k4 e.symm) (fun e => k5 e.symm)); have HT4 : Hid (Turns (fun k => XM v d a k ∨ k = dt) w w4) := hid ((HT3.out.mono (fun k e => .inl e)).trans (t4.mono (fun k e => .inr e))); clear t4 hw4
  have h65 := h63.subs (l' := [(3, _), (2, _), (0, _)]) rfl
  clear h63
  iterate 5 go_step
  have h66 := h65.subs (l' := [(3, _), (0, _)]) rfl
  clear h65
  refine wv h66 rfl rfl rfl rfl (.int .i64 0) rfl fun a68 h67 => ?_
  iterate 4 go_step
  exact bodyPost_ret (results_tmp1 rfl (h67.known (2, .int .i64 0) (by simp))) h67.defs ⟨rfl, HL4.out, HB4.out, HT4.out⟩
theorem comR9_any {w : World} {dt gr lr v d a rc B : Nat} {ra : Option Addr} {M : MemM} {P : List PtM} (hl : LogRP w lr gr v d a 512 512 M) (hok : LogOk 512 512 M) (hb : Blk w dt 56 (txC gr lr ra P.length rc)) (hr : RowPt w ra rc P) (k1 : dt ≠ lr) (k2 : dt ≠ gr) (k3 : dt ≠ v) (k4 : dt ≠ d) (k5 : dt ≠ a) (hn : P.length ≤ 64) (okp : okPts P) (ho : OwnPt w B ra rc P) (hX : dt < B ∧ v < B ∧ d < B ∧ a < B) : Calls Tryz.prog 22 #[.pointer (some ⟨dt, 0, none⟩)] w fun e w' => e = .returned (.int .i64 (comE M P)) ∧ ∃ ra2 rc2, LogRP w' lr gr v d a 512 512 (comM M P) ∧ Blk w' dt 56 (txC gr lr ra2 (comP M P).length rc2) ∧ OwnPt w' B ra2 rc2 (comP M P) ∧ Turns (fun k => XM v d a k ∨ k = dt) w w' ∧ (ra2 = ra ∨ ra2 = none) := by
  by_cases h0 : P = []
  · refine (comR9_nil hb h0).mono fun e w' q => ?_
    obtain ⟨q1, q2, rfl⟩ := q
    unfold comE comM comP
    rw [if_pos h0, if_pos h0, if_pos h0]
    refine ⟨q1, ra, rc, hl, ?_, ?_, Turns.refl _ _, .inl rfl⟩
    · rw [h0] at q2; exact q2
    · rw [h0] at ho; exact ho
  by_cases hE : appE M 512 512 P = 0
  · refine (comR9_ok (B := B) hl hok hb hr k1 k2 k3 k4 k5 hn okp h0 hE).mono fun e w' q => ?_
    unfold comE comM comP
    rw [if_neg h0, if_neg h0, if_neg h0, if_pos hE, if_pos hE, hE]
    exact ⟨q.1, none, 0, q.2.1, q.2.2.1, Own.nil _ _ _ _, q.2.2.2, .inr rfl⟩
  · refine (comR9_err (B := B) hl hok hb hr k1 k2 k3 k4 k5 hn okp h0 hE).mono fun e w' q => ?_
    unfold comE comM comP
    rw [if_neg h0, if_neg h0, if_neg h0, if_neg hE, if_neg hE]
    refine ⟨q.1, ra, rc, ?_, q.2.2.1, q.2.2.2.own ho (fun k e => by obtain ⟨_, h1, h2, h3⟩ := hX; rcases e with e | e | e <;> omega), q.2.2.2.mono (fun k e => .inl e), .inl rfl⟩
    have z := q.2.1
    rw [appM_err hE] at z
    exact z
set_option maxHeartbeats 8000000 in
theorem loadR9_no {w : World} {dt gr lr v d a0 rc : Nat} {ra : Option Addr} {M : MemM} {P : List PtM} (hm : MemR w gr v d a0 M) (hb : Blk w dt 56 (txC gr lr ra P.length rc)) (hr : RowPt w ra rc P) (hok : TxOk M P) (hM : M.V.length ≤ 1048576) (at_ n : Int) (hat : i64B at_) (hnn : i64B n) (hi : inM M at_ n = false) : Calls Tryz.prog 27 #[.pointer (some ⟨dt, 0, none⟩), .int .i64 at_, .int .i64 n] w fun e w' => e = .returned (.tuple #[.slice none 0 0, .int .i64 1]) ∧ w = w' := by
  have HM := hid hm; have HB := hid hb; have HR := hid hr
  have hsz := hok.n
  unfold i64B at hat hnn
  clear hm hb hr
  go_enter Tryz.func27, Tryz.ntmps27
  iterate 3 go_step
  refine wpk_enter (N := 80) (l := [(0, .pointer (some ⟨dt, 0, none⟩)), (1, .int .i64 at_), (2, .int .i64 n)]) ⟨rfl, (by intro x hx; simp only [List.mem_cons, List.not_mem_nil, or_false] at hx; rcases hx with rfl | rfl | rfl <;> rfl), rfl⟩ fun a2 h1 => ?_
  refine wv h1 rfl rfl rfl rfl (.slice none 0 0) rfl fun a4 h3 => ?_
  refine wv h3 rfl rfl rfl rfl (.int .i64 0) rfl fun a6 h5 => ?_
  iterate 5 go_step
  refine wmk h5 rfl rfl rfl rfl 0 rfl (fun _ => rfl) fun a8 h7 => ?_
  refine wv h7 rfl rfl rfl rfl (.pointer (some ⟨dt, 0, none⟩)) (by unfold execOp; simp only [h7.ev 14 rfl]; exact rfl) fun a10 h9 => ?_
  refine wv h9 rfl rfl rfl rfl (.pointer (some ⟨dt, 0, none⟩)) (by unfold execOp; simp only [h9.ev 15 rfl]; exact run_v (faZ_56_0_0 (dt) _)) fun a12 h11 => ?_
  refine wv h11 rfl rfl rfl rfl (.pointer (some ⟨gr, 0, none⟩)) (by unfold execOp; simp only [h11.ev 16 rfl]; exact run_v (loadMR (HB.out.cell (i := 0) (by show 0 < 3; omega)))) fun a14 h13 => ?_
  refine wmk h13 rfl rfl rfl rfl 1 rfl (fun _ => rfl) fun a16 h15 => ?_
  refine wmk h15 rfl rfl rfl rfl 2 rfl (fun _ => rfl) fun a18 h17 => ?_
  refine wpk_call h17 (wanted_none rfl) rfl (by decide) (fr rfl) (fun args => callZ_45 args _) rfl #[.pointer (some ⟨gr, 0, none⟩), .int .i64 at_, .int .i64 n, .bool false] (by simp only [List.map_toArray, List.map_cons, List.map_nil, h17.ev 17 rfl, h17.ev 18 rfl, h17.ev 19 rfl]; rfl) (R := fun v' w' => v' = .tuple #[.slice none 0 0, .int .i64 1] ∧ w = w') ((loadR_any HM.out at_ n hat hnn).mono fun e w' q => by unfold LoadP at q; rw [if_neg (by rw [hi]; decide)] at q; exact ⟨_, q.1, rfl, q.2⟩) fun a20 v1 w1 r1 h19 => ?_
  obtain ⟨rfl, rfl⟩ := r1
  refine wmk h19 rfl rfl rfl rfl 20 rfl (fun _ => rfl) fun a22 h21 => ?_
  refine wv h21 rfl rfl rfl rfl (.slice none 0 0) (by unfold execOp; simp only [h21.ev 13 rfl]; exact rfl) fun a24 h23 => ?_
  refine wv h23 rfl rfl rfl rfl (.int .i64 1) (by unfold execOp; simp only [h23.ev 13 rfl]; exact rfl) fun a26 h25 => ?_
  refine wmk h25 rfl rfl rfl rfl 21 rfl (fun _ => rfl) fun a28 h27 => ?_
  refine wmk h27 rfl rfl rfl rfl 22 rfl (fun _ => rfl) fun a30 h29 => ?_
  have h31 := h29.subs (l' := [(9, _), (8, _), (7, _), (6, _), (0, _), (1, _), (2, _)]) rfl
  clear h29
  iterate 6 go_step
  refine wv h31 rfl rfl rfl rfl (.int .i64 0) rfl fun a33 h32 => ?_
  iterate 4 go_step
  have h34 := h32.subs (l' := [(10, _), (8, _), (9, _), (0, _), (1, _)]) rfl
  clear h32
  refine wp_loop (I := fun a' w' => ∃ i : Nat, i ≤ P.length ∧ Kn 80 [(10, .int .i64 (i : Int)), (8, .slice none 0 0), (9, .int .i64 1), (0, .pointer (some ⟨dt, 0, none⟩)), (1, .int .i64 at_)] a' ∧ w = w') (μ := fun a' _ => P.length - (intOf (a'.eval (.tmp 10))).toNat) ⟨0, by omega, h34, rfl⟩ ?_
  clear h34
  rintro aL wl ⟨i, hi2, hK, rfl⟩
  by_cases hlti : i < P.length
  case pos =>
    obtain ⟨qb, qo, hqa, hrgs⟩ := rowPt_at HR.out (by omega)
    obtain ⟨p, hp⟩ : ∃ y, y = P[i] := ⟨_, rfl⟩
    have hpin := hok.i P[i] (List.getElem_mem hlti); rw [← hp] at hpin; have hrg := hrgs i hlti; rw [← hp] at hrg; clear hrgs; have hp : Hid (p = P[i]) := hid hp
    iterate 4 go_step
    refine wmk hK rfl rfl rfl rfl 10 rfl (fun _ => rfl) fun a36 h35 => ?_
    refine wmk h35 rfl rfl rfl rfl 0 rfl (fun _ => rfl) fun a38 h37 => ?_
    refine wv h37 rfl rfl rfl rfl (.pointer (some ⟨dt, 0, none⟩)) (by unfold execOp; simp only [h37.ev 24 rfl]; exact rfl) fun a40 h39 => ?_
    refine wv h39 rfl rfl rfl rfl (.pointer (some ⟨dt, 2, none⟩)) (by unfold execOp; simp only [h39.ev 25 rfl]; exact run_v (faZ_56_0_2 (dt) _)) fun a42 h41 => ?_
    refine wv h41 rfl rfl rfl rfl (.slice ra P.length rc) (by unfold execOp; simp only [h41.ev 26 rfl]; exact run_v (loadPtsP (HB.out.cell (i := 2) (by show 2 < 3; omega)))) fun a44 h43 => ?_
    refine wv h43 rfl rfl rfl rfl (.int .i64 (P.length : Int)) (run_lenP rfl (h43.ev 27 rfl) _) fun a46 h45 => ?_
    refine wv h45 rfl rfl rfl rfl (.bool true) (by unfold execOp; simp only [h45.ev 23 rfl, h45.ev 28 rfl]; exact run_v (ltIP _ _ _ _ _ (decide_eq_true (by omega)))) fun a48 h47 => ?_
    have h49 := h47.subs (l' := [(29, _), (10, _), (8, _), (9, _), (0, _), (1, _)]) rfl
    clear h47
    iterate 3 go_step
    refine wp_cond (t := true) (h49.ev 29 rfl) ?_
    simp only [if_true]
    have h50 := h49.subs (l' := [(10, _), (8, _), (9, _), (0, _), (1, _)]) rfl
    clear h49
    iterate 7 go_step
    refine wv h50 rfl rfl rfl rfl (.int .i64 0) rfl fun a52 h51 => ?_
    iterate 4 go_step
    refine wp_loop (I := fun a' w' => ∃ k : Nat, k ≤ p.d.length ∧ Kn 80 [(11, .int .i64 (k : Int)), (10, .int .i64 (i : Int)), (8, .slice none 0 0), (9, .int .i64 1), (0, .pointer (some ⟨dt, 0, none⟩)), (1, .int .i64 at_)] a' ∧ w = w') (μ := fun a' _ => p.d.length - (intOf (a'.eval (.tmp 11))).toNat) ⟨0, by omega, h51, rfl⟩ ?_
    clear h51
    rintro aM wk ⟨k, hk, hM2, rfl⟩
    have hqc : w.cell? ⟨qb, qo + i * 2, none⟩ = some (.int .i64 p.at_) ∧ w.cell? ⟨qb, qo + i * 2 + 1, none⟩ = some (strB p.d) := ⟨hrg 0 _ rfl, hrg 1 _ rfl⟩
    obtain ⟨s1, hs1⟩ : ∃ y : Int, y = IntKind.i64.wrap (p.at_ + (k : Int)) := ⟨_, rfl⟩
    obtain ⟨s2, hs2⟩ : ∃ y : Int, y = IntKind.i64.wrap (s1 - at_) := ⟨_, rfl⟩
    by_cases hltk : k < p.d.length
    case pos =>
      by_cases hx0 : 0 ≤ s2
      case neg =>
        iterate 4 go_step
        refine wmk hM2 rfl rfl rfl rfl 11 rfl (fun _ => rfl) fun a54 h53 => ?_
        refine wmk h53 rfl rfl rfl rfl 0 rfl (fun _ => rfl) fun a56 h55 => ?_
        refine wv h55 rfl rfl rfl rfl (.pointer (some ⟨dt, 0, none⟩)) (by unfold execOp; simp only [h55.ev 33 rfl]; exact rfl) fun a58 h57 => ?_
        refine wv h57 rfl rfl rfl rfl (.pointer (some ⟨dt, 2, none⟩)) (by unfold execOp; simp only [h57.ev 34 rfl]; exact run_v (faZ_56_0_2 (dt) _)) fun a60 h59 => ?_
        refine wv h59 rfl rfl rfl rfl (.slice ra P.length rc) (by unfold execOp; simp only [h59.ev 35 rfl]; exact run_v (loadPtsP (HB.out.cell (i := 2) (by show 2 < 3; omega)))) fun a62 h61 => ?_
        refine wmk h61 rfl rfl rfl rfl 10 rfl (fun _ => rfl) fun a64 h63 => ?_
        refine wv h63 rfl rfl rfl rfl (.pointer (some ⟨qb, qo + i * 2, none⟩)) (by unfold execOp; simp only [h63.ev 36 rfl, h63.ev 37 rfl]; exact run_v (by rw [hqa]; exact ixP qb qo _ rc i hlti _)) fun a66 h65 => ?_
        refine wv h65 rfl rfl rfl rfl (.pointer (some ⟨qb, qo + i * 2 + 1, none⟩)) (by unfold execOp; simp only [h65.ev 38 rfl]; exact run_v (faPZ_1 _ _ _)) fun a68 h67 => ?_
        refine wv h67 rfl rfl rfl rfl (strB p.d) (by unfold execOp; simp only [h67.ev 39 rfl]; exact run_v (loadSP hqc.2)) fun a70 h69 => ?_
        refine wv h69 rfl rfl rfl rfl (.int .i64 (p.d.length : Int)) (run_lenSP rfl (h69.ev 40 rfl) _) fun a72 h71 => ?_
        refine wv h71 rfl rfl rfl rfl (.bool true) (by unfold execOp; simp only [h71.ev 32 rfl, h71.ev 41 rfl]; exact run_v (ltIP _ _ _ _ _ (decide_eq_true (by omega)))) fun a74 h73 => ?_
        have h75 := h73.subs (l' := [(42, _), (11, _), (10, _), (8, _), (9, _), (0, _), (1, _)]) rfl
        clear h73
        iterate 3 go_step
        refine wp_cond (t := true) (h75.ev 42 rfl) ?_
        simp only [if_true]
        have h76 := h75.subs (l' := [(11, _), (10, _), (8, _), (9, _), (0, _), (1, _)]) rfl
        clear h75
        iterate 7 go_step
        refine wmk h76 rfl rfl rfl rfl 0 rfl (fun _ => rfl) fun a78 h77 => ?_
        refine wv h77 rfl rfl rfl rfl (.pointer (some ⟨dt, 0, none⟩)) (by unfold execOp; simp only [h77.ev 45 rfl]; exact rfl) fun a80 h79 => ?_
        refine wv h79 rfl rfl rfl rfl (.pointer (some ⟨dt, 2, none⟩)) (by unfold execOp; simp only [h79.ev 46 rfl]; exact run_v (faZ_56_0_2 (dt) _)) fun a82 h81 => ?_
        refine wv h81 rfl rfl rfl rfl (.slice ra P.length rc) (by unfold execOp; simp only [h81.ev 47 rfl]; exact run_v (loadPtsP (HB.out.cell (i := 2) (by show 2 < 3; omega)))) fun a84 h83 => ?_
        refine wmk h83 rfl rfl rfl rfl 10 rfl (fun _ => rfl) fun a86 h85 => ?_
        refine wv h85 rfl rfl rfl rfl (.pointer (some ⟨qb, qo + i * 2, none⟩)) (by unfold execOp; simp only [h85.ev 48 rfl, h85.ev 49 rfl]; exact run_v (by rw [hqa]; exact ixP qb qo _ rc i hlti _)) fun a88 h87 => ?_
        refine wv h87 rfl rfl rfl rfl (.pointer (some ⟨qb, qo + i * 2, none⟩)) (by unfold execOp; simp only [h87.ev 50 rfl]; exact run_v (faPZ_0 _ _ _)) fun a90 h89 => ?_
        refine wv h89 rfl rfl rfl rfl (.int .i64 p.at_) (by unfold execOp; simp only [h89.ev 51 rfl]; exact run_v (loadIP hqc.1)) fun a92 h91 => ?_
        refine wmk h91 rfl rfl rfl rfl 11 rfl (fun _ => rfl) fun a94 h93 => ?_
        refine wv h93 rfl rfl rfl rfl (.int .i64 s1) (by unfold execOp; simp only [h93.ev 52 rfl, h93.ev 53 rfl]; exact run_v (addWZ _ _ _ _ s1 hs1 _)) fun a96 h95 => ?_
        refine wmk h95 rfl rfl rfl rfl 1 rfl (fun _ => rfl) fun a98 h97 => ?_
        refine wv h97 rfl rfl rfl rfl (.int .i64 s2) (by unfold execOp; simp only [h97.ev 54 rfl, h97.ev 55 rfl]; exact run_v (subWZ _ _ _ _ s2 hs2 _)) fun a100 h99 => ?_
        refine wmk h99 rfl rfl rfl rfl 56 rfl (fun _ => rfl) fun a102 h101 => ?_
        have h103 := h101.subs (l' := [(12, _), (11, _), (10, _), (8, _), (9, _), (0, _), (1, _)]) rfl
        clear h101
        iterate 5 go_step
        refine wmk h103 rfl rfl rfl rfl 12 rfl (fun _ => rfl) fun a105 h104 => ?_
        refine wv h104 rfl rfl rfl rfl (.bool false) (by unfold execOp; simp only [h104.ev 57 rfl]; exact run_v (geIP _ _ _ _ _ (decide_eq_false (by omega)))) fun a107 h106 => ?_
        refine wmk h106 rfl rfl rfl rfl 58 rfl (fun _ => rfl) fun a109 h108 => ?_
        refine wpk_skip h108 (by rw [wanted_of (g := 2) (want := true) (b := false) rfl (h108.yields (prev := 59) rfl (by simp))]; rfl) rfl (by decide) (fr rfl) fun a111 h110 => ?_
        refine wpk_skip h110 (by rw [wanted_of (g := 2) (want := true) (b := false) rfl (h110.yields (prev := 59) rfl (by simp))]; rfl) rfl (by decide) (fr rfl) fun a113 h112 => ?_
        refine wpk_skip h112 (by rw [wanted_of (g := 2) (want := true) (b := false) rfl (h112.yields (prev := 59) rfl (by simp))]; rfl) rfl (by decide) (fr rfl) fun a115 h114 => ?_
        refine wpk_skip h114 (by rw [wanted_of (g := 2) (want := true) (b := false) rfl (h114.yields (prev := 59) rfl (by simp))]; rfl) rfl (by decide) (fr rfl) fun a117 h116 => ?_
        refine wv h116 rfl rfl rfl rfl (.bool false) (run_pick rfl (h116.ev 59 rfl) rfl) fun a119 h118 => ?_
        have h120 := h118.subs (l' := [(64, _), (12, _), (11, _), (10, _), (8, _), (9, _), (0, _), (1, _)]) rfl
        clear h118
        iterate 3 go_step
        refine wp_cond (t := false) (h120.ev 64 rfl) ?_
        simp only [Bool.false_eq_true, if_false]
        have h121 := h120.subs (l' := [(12, _), (11, _), (10, _), (8, _), (9, _), (0, _), (1, _)]) rfl
        clear h120
        iterate 4 go_step
        refine wmk h121 rfl rfl rfl rfl 11 rfl (fun _ => rfl) fun a123 h122 => ?_
        refine wv h122 rfl rfl rfl rfl (.int .i64 ((k + 1 : Nat) : Int)) (by unfold execOp; simp only [h122.ev 43 rfl]; exact run_v (addNP _ _ _ _ _ (by omega) (by omega) (by omega) _)) fun a125 h124 => ?_
        have h126 := h124.subs (l' := [(44, _), (43, _), (12, _), (10, _), (8, _), (9, _), (0, _), (1, _)]) rfl
        clear h124
        refine wmk h126 rfl rfl rfl rfl 44 rfl (fun _ => rfl) fun a128 h127 => ?_
        have h129 := h127.subs (l' := [(11, _), (12, _), (10, _), (8, _), (9, _), (0, _), (1, _)]) rfl
        clear h127
        iterate 2 go_step
        refine ⟨⟨k + 1, by omega, h129.subs rfl, rfl⟩, ?_⟩
        rw [h129.ev 11 rfl, hM2.ev 11 rfl]; simp [intOf]; omega
      iterate 4 go_step
      refine wmk hM2 rfl rfl rfl rfl 11 rfl (fun _ => rfl) fun a131 h130 => ?_
      refine wmk h130 rfl rfl rfl rfl 0 rfl (fun _ => rfl) fun a133 h132 => ?_
      refine wv h132 rfl rfl rfl rfl (.pointer (some ⟨dt, 0, none⟩)) (by unfold execOp; simp only [h132.ev 33 rfl]; exact rfl) fun a135 h134 => ?_
      refine wv h134 rfl rfl rfl rfl (.pointer (some ⟨dt, 2, none⟩)) (by unfold execOp; simp only [h134.ev 34 rfl]; exact run_v (faZ_56_0_2 (dt) _)) fun a137 h136 => ?_
      refine wv h136 rfl rfl rfl rfl (.slice ra P.length rc) (by unfold execOp; simp only [h136.ev 35 rfl]; exact run_v (loadPtsP (HB.out.cell (i := 2) (by show 2 < 3; omega)))) fun a139 h138 => ?_
      refine wmk h138 rfl rfl rfl rfl 10 rfl (fun _ => rfl) fun a141 h140 => ?_
      refine wv h140 rfl rfl rfl rfl (.pointer (some ⟨qb, qo + i * 2, none⟩)) (by unfold execOp; simp only [h140.ev 36 rfl, h140.ev 37 rfl]; exact run_v (by rw [hqa]; exact ixP qb qo _ rc i hlti _)) fun a143 h142 => ?_
      refine wv h142 rfl rfl rfl rfl (.pointer (some ⟨qb, qo + i * 2 + 1, none⟩)) (by unfold execOp; simp only [h142.ev 38 rfl]; exact run_v (faPZ_1 _ _ _)) fun a145 h144 => ?_
      refine wv h144 rfl rfl rfl rfl (strB p.d) (by unfold execOp; simp only [h144.ev 39 rfl]; exact run_v (loadSP hqc.2)) fun a147 h146 => ?_
      refine wv h146 rfl rfl rfl rfl (.int .i64 (p.d.length : Int)) (run_lenSP rfl (h146.ev 40 rfl) _) fun a149 h148 => ?_
      refine wv h148 rfl rfl rfl rfl (.bool true) (by unfold execOp; simp only [h148.ev 32 rfl, h148.ev 41 rfl]; exact run_v (ltIP _ _ _ _ _ (decide_eq_true (by omega)))) fun a151 h150 => ?_
      have h152 := h150.subs (l' := [(42, _), (11, _), (10, _), (8, _), (9, _), (0, _), (1, _)]) rfl
      clear h150
      iterate 3 go_step
      refine wp_cond (t := true) (h152.ev 42 rfl) ?_
      simp only [if_true]
      have h153 := h152.subs (l' := [(11, _), (10, _), (8, _), (9, _), (0, _), (1, _)]) rfl
      clear h152
      iterate 7 go_step
      refine wmk h153 rfl rfl rfl rfl 0 rfl (fun _ => rfl) fun a155 h154 => ?_
      refine wv h154 rfl rfl rfl rfl (.pointer (some ⟨dt, 0, none⟩)) (by unfold execOp; simp only [h154.ev 45 rfl]; exact rfl) fun a157 h156 => ?_
      refine wv h156 rfl rfl rfl rfl (.pointer (some ⟨dt, 2, none⟩)) (by unfold execOp; simp only [h156.ev 46 rfl]; exact run_v (faZ_56_0_2 (dt) _)) fun a159 h158 => ?_
      refine wv h158 rfl rfl rfl rfl (.slice ra P.length rc) (by unfold execOp; simp only [h158.ev 47 rfl]; exact run_v (loadPtsP (HB.out.cell (i := 2) (by show 2 < 3; omega)))) fun a161 h160 => ?_
      refine wmk h160 rfl rfl rfl rfl 10 rfl (fun _ => rfl) fun a163 h162 => ?_
      refine wv h162 rfl rfl rfl rfl (.pointer (some ⟨qb, qo + i * 2, none⟩)) (by unfold execOp; simp only [h162.ev 48 rfl, h162.ev 49 rfl]; exact run_v (by rw [hqa]; exact ixP qb qo _ rc i hlti _)) fun a165 h164 => ?_
      refine wv h164 rfl rfl rfl rfl (.pointer (some ⟨qb, qo + i * 2, none⟩)) (by unfold execOp; simp only [h164.ev 50 rfl]; exact run_v (faPZ_0 _ _ _)) fun a167 h166 => ?_
      refine wv h166 rfl rfl rfl rfl (.int .i64 p.at_) (by unfold execOp; simp only [h166.ev 51 rfl]; exact run_v (loadIP hqc.1)) fun a169 h168 => ?_
      refine wmk h168 rfl rfl rfl rfl 11 rfl (fun _ => rfl) fun a171 h170 => ?_
      refine wv h170 rfl rfl rfl rfl (.int .i64 s1) (by unfold execOp; simp only [h170.ev 52 rfl, h170.ev 53 rfl]; exact run_v (addWZ _ _ _ _ s1 hs1 _)) fun a173 h172 => ?_
      refine wmk h172 rfl rfl rfl rfl 1 rfl (fun _ => rfl) fun a175 h174 => ?_
      refine wv h174 rfl rfl rfl rfl (.int .i64 s2) (by unfold execOp; simp only [h174.ev 54 rfl, h174.ev 55 rfl]; exact run_v (subWZ _ _ _ _ s2 hs2 _)) fun a177 h176 => ?_
      refine wmk h176 rfl rfl rfl rfl 56 rfl (fun _ => rfl) fun a179 h178 => ?_
      have h180 := h178.subs (l' := [(12, _), (11, _), (10, _), (8, _), (9, _), (0, _), (1, _)]) rfl
      clear h178
      iterate 5 go_step
      refine wmk h180 rfl rfl rfl rfl 12 rfl (fun _ => rfl) fun a182 h181 => ?_
      refine wv h181 rfl rfl rfl rfl (.bool true) (by unfold execOp; simp only [h181.ev 57 rfl]; exact run_v (geIP _ _ _ _ _ (decide_eq_true (by omega)))) fun a184 h183 => ?_
      refine wmk h183 rfl rfl rfl rfl 58 rfl (fun _ => rfl) fun a186 h185 => ?_
      refine wpk_val h185 (by rw [wanted_of (g := 2) (want := true) (b := true) rfl (h185.yields (prev := 59) rfl (by simp))]; rfl) rfl (by decide) (fr rfl) (.int .i64 s2) (by unfold execOp; simp only [h185.ev 12 rfl]; rfl) fun a188 h187 => ?_
      refine wpk_val h187 (by rw [wanted_of (g := 2) (want := true) (b := true) rfl (h187.yields (prev := 59) rfl (by simp))]; rfl) rfl (by decide) (fr rfl) (.slice none 0 0) (by unfold execOp; simp only [h187.ev 8 rfl]; rfl) fun a190 h189 => ?_
      refine wpk_val h189 (by rw [wanted_of (g := 2) (want := true) (b := true) rfl (h189.yields (prev := 59) rfl (by simp))]; rfl) rfl (by decide) (fr rfl) (.int .i64 ((0 : Nat) : Int)) (run_lenBP rfl (h189.ev 61 rfl) _) fun a192 h191 => ?_
      refine wpk_val h191 (by rw [wanted_of (g := 2) (want := true) (b := true) rfl (h191.yields (prev := 59) rfl (by simp))]; rfl) rfl (by decide) (fr rfl) (.bool false) (by unfold execOp; simp only [h191.ev 60 rfl, h191.ev 62 rfl]; exact run_v (ltIP _ _ _ _ _ (decide_eq_false (by omega)))) fun a194 h193 => ?_
      refine wv h193 rfl rfl rfl rfl (.bool false) (run_pick rfl (h193.ev 59 rfl) (by rw [if_pos rfl]; exact h193.ev 63 rfl)) fun a196 h195 => ?_
      have h197 := h195.subs (l' := [(64, _), (12, _), (11, _), (10, _), (8, _), (9, _), (0, _), (1, _)]) rfl
      clear h195
      iterate 3 go_step
      refine wp_cond (t := false) (h197.ev 64 rfl) ?_
      simp only [Bool.false_eq_true, if_false]
      have h198 := h197.subs (l' := [(12, _), (11, _), (10, _), (8, _), (9, _), (0, _), (1, _)]) rfl
      clear h197
      iterate 4 go_step
      refine wmk h198 rfl rfl rfl rfl 11 rfl (fun _ => rfl) fun a200 h199 => ?_
      refine wv h199 rfl rfl rfl rfl (.int .i64 ((k + 1 : Nat) : Int)) (by unfold execOp; simp only [h199.ev 43 rfl]; exact run_v (addNP _ _ _ _ _ (by omega) (by omega) (by omega) _)) fun a202 h201 => ?_
      have h203 := h201.subs (l' := [(44, _), (43, _), (12, _), (10, _), (8, _), (9, _), (0, _), (1, _)]) rfl
      clear h201
      refine wmk h203 rfl rfl rfl rfl 44 rfl (fun _ => rfl) fun a205 h204 => ?_
      have h206 := h204.subs (l' := [(11, _), (12, _), (10, _), (8, _), (9, _), (0, _), (1, _)]) rfl
      clear h204
      iterate 2 go_step
      refine ⟨⟨k + 1, by omega, h206.subs rfl, rfl⟩, ?_⟩
      rw [h206.ev 11 rfl, hM2.ev 11 rfl]; simp [intOf]; omega
    iterate 4 go_step
    refine wmk hM2 rfl rfl rfl rfl 11 rfl (fun _ => rfl) fun a208 h207 => ?_
    refine wmk h207 rfl rfl rfl rfl 0 rfl (fun _ => rfl) fun a210 h209 => ?_
    refine wv h209 rfl rfl rfl rfl (.pointer (some ⟨dt, 0, none⟩)) (by unfold execOp; simp only [h209.ev 33 rfl]; exact rfl) fun a212 h211 => ?_
    refine wv h211 rfl rfl rfl rfl (.pointer (some ⟨dt, 2, none⟩)) (by unfold execOp; simp only [h211.ev 34 rfl]; exact run_v (faZ_56_0_2 (dt) _)) fun a214 h213 => ?_
    refine wv h213 rfl rfl rfl rfl (.slice ra P.length rc) (by unfold execOp; simp only [h213.ev 35 rfl]; exact run_v (loadPtsP (HB.out.cell (i := 2) (by show 2 < 3; omega)))) fun a216 h215 => ?_
    refine wmk h215 rfl rfl rfl rfl 10 rfl (fun _ => rfl) fun a218 h217 => ?_
    refine wv h217 rfl rfl rfl rfl (.pointer (some ⟨qb, qo + i * 2, none⟩)) (by unfold execOp; simp only [h217.ev 36 rfl, h217.ev 37 rfl]; exact run_v (by rw [hqa]; exact ixP qb qo _ rc i hlti _)) fun a220 h219 => ?_
    refine wv h219 rfl rfl rfl rfl (.pointer (some ⟨qb, qo + i * 2 + 1, none⟩)) (by unfold execOp; simp only [h219.ev 38 rfl]; exact run_v (faPZ_1 _ _ _)) fun a222 h221 => ?_
    refine wv h221 rfl rfl rfl rfl (strB p.d) (by unfold execOp; simp only [h221.ev 39 rfl]; exact run_v (loadSP hqc.2)) fun a224 h223 => ?_
    refine wv h223 rfl rfl rfl rfl (.int .i64 (p.d.length : Int)) (run_lenSP rfl (h223.ev 40 rfl) _) fun a226 h225 => ?_
    refine wv h225 rfl rfl rfl rfl (.bool false) (by unfold execOp; simp only [h225.ev 32 rfl, h225.ev 41 rfl]; exact run_v (ltIP _ _ _ _ _ (decide_eq_false (by omega)))) fun a228 h227 => ?_
    have h229 := h227.subs (l' := [(42, _), (11, _), (10, _), (8, _), (9, _), (0, _), (1, _)]) rfl
    clear h227
    iterate 3 go_step
    refine wp_cond (t := false) (h229.ev 42 rfl) ?_
    simp only [Bool.false_eq_true, if_false]
    have h230 := h229.subs (l' := [(11, _), (10, _), (8, _), (9, _), (0, _), (1, _)]) rfl
    clear h229
    iterate 6 go_step
    refine wmk h230 rfl rfl rfl rfl 10 rfl (fun _ => rfl) fun a232 h231 => ?_
    refine wv h231 rfl rfl rfl rfl (.int .i64 ((i + 1 : Nat) : Int)) (by unfold execOp; simp only [h231.ev 30 rfl]; exact run_v (addNP _ _ _ _ _ (by omega) (by omega) (by omega) _)) fun a234 h233 => ?_
    have h235 := h233.subs (l' := [(31, _), (30, _), (11, _), (8, _), (9, _), (0, _), (1, _)]) rfl
    clear h233
    refine wmk h235 rfl rfl rfl rfl 31 rfl (fun _ => rfl) fun a237 h236 => ?_
    have h238 := h236.subs (l' := [(10, _), (11, _), (8, _), (9, _), (0, _), (1, _)]) rfl
    clear h236
    iterate 2 go_step
    refine ⟨⟨i + 1, by omega, h238.subs rfl, rfl⟩, ?_⟩
    rw [h238.ev 10 rfl, hK.ev 10 rfl]; simp [intOf]; omega
  iterate 4 go_step
  refine wmk hK rfl rfl rfl rfl 10 rfl (fun _ => rfl) fun a240 h239 => ?_
  refine wmk h239 rfl rfl rfl rfl 0 rfl (fun _ => rfl) fun a242 h241 => ?_
  refine wv h241 rfl rfl rfl rfl (.pointer (some ⟨dt, 0, none⟩)) (by unfold execOp; simp only [h241.ev 24 rfl]; exact rfl) fun a244 h243 => ?_
  refine wv h243 rfl rfl rfl rfl (.pointer (some ⟨dt, 2, none⟩)) (by unfold execOp; simp only [h243.ev 25 rfl]; exact run_v (faZ_56_0_2 (dt) _)) fun a246 h245 => ?_
  refine wv h245 rfl rfl rfl rfl (.slice ra P.length rc) (by unfold execOp; simp only [h245.ev 26 rfl]; exact run_v (loadPtsP (HB.out.cell (i := 2) (by show 2 < 3; omega)))) fun a248 h247 => ?_
  refine wv h247 rfl rfl rfl rfl (.int .i64 (P.length : Int)) (run_lenP rfl (h247.ev 27 rfl) _) fun a250 h249 => ?_
  refine wv h249 rfl rfl rfl rfl (.bool false) (by unfold execOp; simp only [h249.ev 23 rfl, h249.ev 28 rfl]; exact run_v (ltIP _ _ _ _ _ (decide_eq_false (by omega)))) fun a252 h251 => ?_
  have h253 := h251.subs (l' := [(29, _), (10, _), (8, _), (9, _), (0, _), (1, _)]) rfl
  clear h251
  iterate 3 go_step
  refine wp_cond (t := false) (h253.ev 29 rfl) ?_
  simp only [Bool.false_eq_true, if_false]
  have h254 := h253.subs (l' := [(10, _), (8, _), (9, _), (0, _), (1, _)]) rfl
  clear h253
  iterate 7 go_step
  refine wmk h254 rfl rfl rfl rfl 8 rfl (fun _ => rfl) fun a256 h255 => ?_
  refine wmk h255 rfl rfl rfl rfl 9 rfl (fun _ => rfl) fun a258 h257 => ?_
  refine wmk h257 rfl rfl rfl rfl 78 rfl (fun _ => rfl) fun a260 h259 => ?_
  refine wmk h259 rfl rfl rfl rfl 79 rfl (fun _ => rfl) fun a262 h261 => ?_
  have h263 := h261.subs (l' := [(7, _), (6, _), (10, _), (8, _), (9, _), (0, _), (1, _)]) rfl
  clear h261
  iterate 4 go_step
  exact bodyPost_ret (results_tmp2 rfl (h263.known (6, .slice none 0 0) (by simp)) (h263.known (7, .int .i64 1) (by simp))) h263.defs ⟨rfl, rfl⟩
set_option maxHeartbeats 8000000 in
theorem loadR9_yes {w : World} {dt gr lr v d a0 rc : Nat} {ra : Option Addr} {M : MemM} {P : List PtM} (hm : MemR w gr v d a0 M) (hb : Blk w dt 56 (txC gr lr ra P.length rc)) (hr : RowPt w ra rc P) (hok : TxOk M P) (hM : M.V.length ≤ 1048576) (at_ n : Int) (hat : i64B at_) (hnn : i64B n) (hi : inM M at_ n = true) {b0 : List UInt8} (hb0 : (M.V.drop at_.toNat).take n.toNat = b0) (hbl : (b0.length : Int) = n) : Calls Tryz.prog 27 #[.pointer (some ⟨dt, 0, none⟩), .int .i64 at_, .int .i64 n] w fun e w' => ∃ ba bc, e = .returned (.tuple #[.slice ba b0.length bc, .int .i64 0]) ∧ OwnB w' w.heap.size ba bc (ovl at_ b0 P) ∧ Below w.heap.size w w' := by
  have HM := hid hm; have HB := hid hb; have HR := hid hr
  have hsz := hok.n
  unfold i64B at hat hnn
  clear hm hb hr
  have hin := of_decide_eq_true hi
  have hnb : n.toNat = b0.length := by omega
  go_enter Tryz.func27, Tryz.ntmps27
  iterate 3 go_step
  refine wpk_enter (N := 80) (l := [(0, .pointer (some ⟨dt, 0, none⟩)), (1, .int .i64 at_), (2, .int .i64 n)]) ⟨rfl, (by intro x hx; simp only [List.mem_cons, List.not_mem_nil, or_false] at hx; rcases hx with rfl | rfl | rfl <;> rfl), rfl⟩ fun a2 h1 => ?_
  refine wv h1 rfl rfl rfl rfl (.slice none 0 0) rfl fun a4 h3 => ?_
  refine wv h3 rfl rfl rfl rfl (.int .i64 0) rfl fun a6 h5 => ?_
  iterate 5 go_step
  refine wmk h5 rfl rfl rfl rfl 0 rfl (fun _ => rfl) fun a8 h7 => ?_
  refine wv h7 rfl rfl rfl rfl (.pointer (some ⟨dt, 0, none⟩)) (by unfold execOp; simp only [h7.ev 14 rfl]; exact rfl) fun a10 h9 => ?_
  refine wv h9 rfl rfl rfl rfl (.pointer (some ⟨dt, 0, none⟩)) (by unfold execOp; simp only [h9.ev 15 rfl]; exact run_v (faZ_56_0_0 (dt) _)) fun a12 h11 => ?_
  refine wv h11 rfl rfl rfl rfl (.pointer (some ⟨gr, 0, none⟩)) (by unfold execOp; simp only [h11.ev 16 rfl]; exact run_v (loadMR (HB.out.cell (i := 0) (by show 0 < 3; omega)))) fun a14 h13 => ?_
  refine wmk h13 rfl rfl rfl rfl 1 rfl (fun _ => rfl) fun a16 h15 => ?_
  refine wmk h15 rfl rfl rfl rfl 2 rfl (fun _ => rfl) fun a18 h17 => ?_
  refine wpk_call h17 (wanted_none rfl) rfl (by decide) (fr rfl) (fun args => callZ_45 args _) rfl #[.pointer (some ⟨gr, 0, none⟩), .int .i64 at_, .int .i64 n, .bool false] (by simp only [List.map_toArray, List.map_cons, List.map_nil, h17.ev 17 rfl, h17.ev 18 rfl, h17.ev 19 rfl]; rfl) (R := fun v' w' => ∃ x y, v' = .tuple #[.slice x n.toNat y, .int .i64 0] ∧ OwnB w' w.heap.size x y ((M.V.drop at_.toNat).take n.toNat) ∧ Below w.heap.size w w') ((loadR_any HM.out at_ n hat hnn).mono fun e w' q => by unfold LoadP at q; rw [if_pos hi] at q; obtain ⟨x, y, q1, q2, q3⟩ := q; exact ⟨_, q1, x, y, rfl, q2, q3⟩) fun a20 v1 w1 r1 h19 => ?_
  obtain ⟨ba, bc, rfl, o1, b1⟩ := r1; rw [hnb] at h19; rw [hb0] at o1; have HO1 := hid o1; have HB1 := hid (HB.out.mono b1); have HR1 := hid (HR.out.mono b1); have HW1 := hid b1; clear o1 b1
  refine wmk h19 rfl rfl rfl rfl 20 rfl (fun _ => rfl) fun a22 h21 => ?_
  refine wv h21 rfl rfl rfl rfl (.slice ba b0.length bc) (by unfold execOp; simp only [h21.ev 13 rfl]; exact rfl) fun a24 h23 => ?_
  refine wv h23 rfl rfl rfl rfl (.int .i64 0) (by unfold execOp; simp only [h23.ev 13 rfl]; exact rfl) fun a26 h25 => ?_
  refine wmk h25 rfl rfl rfl rfl 21 rfl (fun _ => rfl) fun a28 h27 => ?_
  refine wmk h27 rfl rfl rfl rfl 22 rfl (fun _ => rfl) fun a30 h29 => ?_
  have h31 := h29.subs (l' := [(9, _), (8, _), (7, _), (6, _), (0, _), (1, _), (2, _)]) rfl
  clear h29
  iterate 6 go_step
  refine wv h31 rfl rfl rfl rfl (.int .i64 0) rfl fun a33 h32 => ?_
  iterate 4 go_step
  have h34 := h32.subs (l' := [(10, _), (8, _), (9, _), (0, _), (1, _)]) rfl
  clear h32
  refine wp_loop (I := fun a' w' => ∃ i : Nat, i ≤ P.length ∧ Kn 80 [(10, .int .i64 (i : Int)), (8, .slice ba b0.length bc), (9, .int .i64 0), (0, .pointer (some ⟨dt, 0, none⟩)), (1, .int .i64 at_)] a' ∧ OwnB w' w.heap.size ba bc (ovl at_ b0 (P.take i)) ∧ Below w.heap.size w w') (μ := fun a' _ => P.length - (intOf (a'.eval (.tmp 10))).toNat) ⟨0, by omega, h34, (by rw [List.take_zero]; exact HO1.out), HW1.out⟩ ?_
  clear HO1 HW1 HB1 HR1 h34
  rintro aL wl ⟨i, hi2, hK, hol, hbl⟩
  have HOl := hid hol; have HWl := hid hbl; have HBl := hid (HB.out.mono hbl); have HRl := hid (HR.out.mono hbl); clear hol hbl
  by_cases hlti : i < P.length
  case pos =>
    obtain ⟨qb, qo, hqa, hrgs⟩ := rowPt_at HRl.out (by omega)
    obtain ⟨p, hp⟩ : ∃ y, y = P[i] := ⟨_, rfl⟩
    have hpin := hok.i P[i] (List.getElem_mem hlti); rw [← hp] at hpin; have hrg := hrgs i hlti; rw [← hp] at hrg; clear hrgs; have hp : Hid (p = P[i]) := hid hp
    iterate 4 go_step
    refine wmk hK rfl rfl rfl rfl 10 rfl (fun _ => rfl) fun a36 h35 => ?_
    refine wmk h35 rfl rfl rfl rfl 0 rfl (fun _ => rfl) fun a38 h37 => ?_
    refine wv h37 rfl rfl rfl rfl (.pointer (some ⟨dt, 0, none⟩)) (by unfold execOp; simp only [h37.ev 24 rfl]; exact rfl) fun a40 h39 => ?_
    refine wv h39 rfl rfl rfl rfl (.pointer (some ⟨dt, 2, none⟩)) (by unfold execOp; simp only [h39.ev 25 rfl]; exact run_v (faZ_56_0_2 (dt) _)) fun a42 h41 => ?_
    refine wv h41 rfl rfl rfl rfl (.slice ra P.length rc) (by unfold execOp; simp only [h41.ev 26 rfl]; exact run_v (loadPtsP (HBl.out.cell (i := 2) (by show 2 < 3; omega)))) fun a44 h43 => ?_
    refine wv h43 rfl rfl rfl rfl (.int .i64 (P.length : Int)) (run_lenP rfl (h43.ev 27 rfl) _) fun a46 h45 => ?_
    refine wv h45 rfl rfl rfl rfl (.bool true) (by unfold execOp; simp only [h45.ev 23 rfl, h45.ev 28 rfl]; exact run_v (ltIP _ _ _ _ _ (decide_eq_true (by omega)))) fun a48 h47 => ?_
    have h49 := h47.subs (l' := [(29, _), (10, _), (8, _), (9, _), (0, _), (1, _)]) rfl
    clear h47
    iterate 3 go_step
    refine wp_cond (t := true) (h49.ev 29 rfl) ?_
    simp only [if_true]
    have h50 := h49.subs (l' := [(10, _), (8, _), (9, _), (0, _), (1, _)]) rfl
    clear h49
    iterate 7 go_step
    refine wv h50 rfl rfl rfl rfl (.int .i64 0) rfl fun a52 h51 => ?_
    iterate 4 go_step
    refine wp_loop (I := fun a' w' => ∃ k : Nat, k ≤ p.d.length ∧ Kn 80 [(11, .int .i64 (k : Int)), (10, .int .i64 (i : Int)), (8, .slice ba b0.length bc), (9, .int .i64 0), (0, .pointer (some ⟨dt, 0, none⟩)), (1, .int .i64 at_)] a' ∧ OwnB w' w.heap.size ba bc (ovlB at_ (ovl at_ b0 (P.take i)) ⟨p.at_, p.d.take k⟩) ∧ Below w.heap.size w w') (μ := fun a' _ => p.d.length - (intOf (a'.eval (.tmp 11))).toNat) ⟨0, by omega, h51, (by rw [ovl_zero]; exact HOl.out), HWl.out⟩ ?_
    clear HBl HRl hrg hqa h51
    rintro aM wk ⟨k, hk, hM2, hok2, hbk⟩
    have HOk := hid hok2; have HWk := hid hbk; have HBk := hid (HB.out.mono hbk); have HRk := hid (HR.out.mono hbk); clear hok2 hbk
    obtain ⟨qb, qo, hqa, hrgs⟩ := rowPt_at HRk.out (by omega)
    have hrg := hrgs i hlti; rw [← hp.out] at hrg; clear hrgs
    have hqc : wk.cell? ⟨qb, qo + i * 2, none⟩ = some (.int .i64 p.at_) ∧ wk.cell? ⟨qb, qo + i * 2 + 1, none⟩ = some (strB p.d) := ⟨hrg 0 _ rfl, hrg 1 _ rfl⟩
    by_cases hltk : k < p.d.length
    case pos =>
      by_cases hx0 : 0 ≤ (p.at_ + (k : Int) - at_)
      case neg =>
        iterate 4 go_step
        refine wmk hM2 rfl rfl rfl rfl 11 rfl (fun _ => rfl) fun a54 h53 => ?_
        refine wmk h53 rfl rfl rfl rfl 0 rfl (fun _ => rfl) fun a56 h55 => ?_
        refine wv h55 rfl rfl rfl rfl (.pointer (some ⟨dt, 0, none⟩)) (by unfold execOp; simp only [h55.ev 33 rfl]; exact rfl) fun a58 h57 => ?_
        refine wv h57 rfl rfl rfl rfl (.pointer (some ⟨dt, 2, none⟩)) (by unfold execOp; simp only [h57.ev 34 rfl]; exact run_v (faZ_56_0_2 (dt) _)) fun a60 h59 => ?_
        refine wv h59 rfl rfl rfl rfl (.slice ra P.length rc) (by unfold execOp; simp only [h59.ev 35 rfl]; exact run_v (loadPtsP (HBk.out.cell (i := 2) (by show 2 < 3; omega)))) fun a62 h61 => ?_
        refine wmk h61 rfl rfl rfl rfl 10 rfl (fun _ => rfl) fun a64 h63 => ?_
        refine wv h63 rfl rfl rfl rfl (.pointer (some ⟨qb, qo + i * 2, none⟩)) (by unfold execOp; simp only [h63.ev 36 rfl, h63.ev 37 rfl]; exact run_v (by rw [hqa]; exact ixP qb qo _ rc i hlti _)) fun a66 h65 => ?_
        refine wv h65 rfl rfl rfl rfl (.pointer (some ⟨qb, qo + i * 2 + 1, none⟩)) (by unfold execOp; simp only [h65.ev 38 rfl]; exact run_v (faPZ_1 _ _ _)) fun a68 h67 => ?_
        refine wv h67 rfl rfl rfl rfl (strB p.d) (by unfold execOp; simp only [h67.ev 39 rfl]; exact run_v (loadSP hqc.2)) fun a70 h69 => ?_
        refine wv h69 rfl rfl rfl rfl (.int .i64 (p.d.length : Int)) (run_lenSP rfl (h69.ev 40 rfl) _) fun a72 h71 => ?_
        refine wv h71 rfl rfl rfl rfl (.bool true) (by unfold execOp; simp only [h71.ev 32 rfl, h71.ev 41 rfl]; exact run_v (ltIP _ _ _ _ _ (decide_eq_true (by omega)))) fun a74 h73 => ?_
        have h75 := h73.subs (l' := [(42, _), (11, _), (10, _), (8, _), (9, _), (0, _), (1, _)]) rfl
        clear h73
        iterate 3 go_step
        refine wp_cond (t := true) (h75.ev 42 rfl) ?_
        simp only [if_true]
        have h76 := h75.subs (l' := [(11, _), (10, _), (8, _), (9, _), (0, _), (1, _)]) rfl
        clear h75
        iterate 7 go_step
        refine wmk h76 rfl rfl rfl rfl 0 rfl (fun _ => rfl) fun a78 h77 => ?_
        refine wv h77 rfl rfl rfl rfl (.pointer (some ⟨dt, 0, none⟩)) (by unfold execOp; simp only [h77.ev 45 rfl]; exact rfl) fun a80 h79 => ?_
        refine wv h79 rfl rfl rfl rfl (.pointer (some ⟨dt, 2, none⟩)) (by unfold execOp; simp only [h79.ev 46 rfl]; exact run_v (faZ_56_0_2 (dt) _)) fun a82 h81 => ?_
        refine wv h81 rfl rfl rfl rfl (.slice ra P.length rc) (by unfold execOp; simp only [h81.ev 47 rfl]; exact run_v (loadPtsP (HBk.out.cell (i := 2) (by show 2 < 3; omega)))) fun a84 h83 => ?_
        refine wmk h83 rfl rfl rfl rfl 10 rfl (fun _ => rfl) fun a86 h85 => ?_
        refine wv h85 rfl rfl rfl rfl (.pointer (some ⟨qb, qo + i * 2, none⟩)) (by unfold execOp; simp only [h85.ev 48 rfl, h85.ev 49 rfl]; exact run_v (by rw [hqa]; exact ixP qb qo _ rc i hlti _)) fun a88 h87 => ?_
        refine wv h87 rfl rfl rfl rfl (.pointer (some ⟨qb, qo + i * 2, none⟩)) (by unfold execOp; simp only [h87.ev 50 rfl]; exact run_v (faPZ_0 _ _ _)) fun a90 h89 => ?_
        refine wv h89 rfl rfl rfl rfl (.int .i64 p.at_) (by unfold execOp; simp only [h89.ev 51 rfl]; exact run_v (loadIP hqc.1)) fun a92 h91 => ?_
        refine wmk h91 rfl rfl rfl rfl 11 rfl (fun _ => rfl) fun a94 h93 => ?_
        refine wv h93 rfl rfl rfl rfl (.int .i64 (p.at_ + (k : Int))) (by unfold execOp; simp only [h93.ev 52 rfl, h93.ev 53 rfl]; exact run_v (addNP _ _ _ _ _ (by omega) (by omega) (by omega) _)) fun a96 h95 => ?_
        refine wmk h95 rfl rfl rfl rfl 1 rfl (fun _ => rfl) fun a98 h97 => ?_
        refine wv h97 rfl rfl rfl rfl (.int .i64 (p.at_ + (k : Int) - at_)) (by unfold execOp; simp only [h97.ev 54 rfl, h97.ev 55 rfl]; exact run_v (subIP _ _ _ _ _ (by omega) (by omega) (by omega) _)) fun a100 h99 => ?_
        refine wmk h99 rfl rfl rfl rfl 56 rfl (fun _ => rfl) fun a102 h101 => ?_
        have h103 := h101.subs (l' := [(12, _), (11, _), (10, _), (8, _), (9, _), (0, _), (1, _)]) rfl
        clear h101
        iterate 5 go_step
        refine wmk h103 rfl rfl rfl rfl 12 rfl (fun _ => rfl) fun a105 h104 => ?_
        refine wv h104 rfl rfl rfl rfl (.bool false) (by unfold execOp; simp only [h104.ev 57 rfl]; exact run_v (geIP _ _ _ _ _ (decide_eq_false (by omega)))) fun a107 h106 => ?_
        refine wmk h106 rfl rfl rfl rfl 58 rfl (fun _ => rfl) fun a109 h108 => ?_
        refine wpk_skip h108 (by rw [wanted_of (g := 2) (want := true) (b := false) rfl (h108.yields (prev := 59) rfl (by simp))]; rfl) rfl (by decide) (fr rfl) fun a111 h110 => ?_
        refine wpk_skip h110 (by rw [wanted_of (g := 2) (want := true) (b := false) rfl (h110.yields (prev := 59) rfl (by simp))]; rfl) rfl (by decide) (fr rfl) fun a113 h112 => ?_
        refine wpk_skip h112 (by rw [wanted_of (g := 2) (want := true) (b := false) rfl (h112.yields (prev := 59) rfl (by simp))]; rfl) rfl (by decide) (fr rfl) fun a115 h114 => ?_
        refine wpk_skip h114 (by rw [wanted_of (g := 2) (want := true) (b := false) rfl (h114.yields (prev := 59) rfl (by simp))]; rfl) rfl (by decide) (fr rfl) fun a117 h116 => ?_
        refine wv h116 rfl rfl rfl rfl (.bool false) (run_pick rfl (h116.ev 59 rfl) rfl) fun a119 h118 => ?_
        have h120 := h118.subs (l' := [(64, _), (12, _), (11, _), (10, _), (8, _), (9, _), (0, _), (1, _)]) rfl
        clear h118
        iterate 3 go_step
        refine wp_cond (t := false) (h120.ev 64 rfl) ?_
        simp only [Bool.false_eq_true, if_false]
        have h121 := h120.subs (l' := [(12, _), (11, _), (10, _), (8, _), (9, _), (0, _), (1, _)]) rfl
        clear h120
        iterate 4 go_step
        refine wmk h121 rfl rfl rfl rfl 11 rfl (fun _ => rfl) fun a123 h122 => ?_
        refine wv h122 rfl rfl rfl rfl (.int .i64 ((k + 1 : Nat) : Int)) (by unfold execOp; simp only [h122.ev 43 rfl]; exact run_v (addNP _ _ _ _ _ (by omega) (by omega) (by omega) _)) fun a125 h124 => ?_
        have h126 := h124.subs (l' := [(44, _), (43, _), (12, _), (10, _), (8, _), (9, _), (0, _), (1, _)]) rfl
        clear h124
        refine wmk h126 rfl rfl rfl rfl 44 rfl (fun _ => rfl) fun a128 h127 => ?_
        have h129 := h127.subs (l' := [(11, _), (12, _), (10, _), (8, _), (9, _), (0, _), (1, _)]) rfl
        clear h127
        iterate 2 go_step
        refine ⟨⟨k + 1, by omega, h129.subs rfl, (by rw [ovl_step hltk, if_neg (by rw [ovl_len]; omega)]; exact HOk.out), HWk.out⟩, ?_⟩
        rw [h129.ev 11 rfl, hM2.ev 11 rfl]; simp [intOf]; omega
      by_cases hx1 : (p.at_ + (k : Int) - at_) < (b0.length : Int)
      case neg =>
        iterate 4 go_step
        refine wmk hM2 rfl rfl rfl rfl 11 rfl (fun _ => rfl) fun a131 h130 => ?_
        refine wmk h130 rfl rfl rfl rfl 0 rfl (fun _ => rfl) fun a133 h132 => ?_
        refine wv h132 rfl rfl rfl rfl (.pointer (some ⟨dt, 0, none⟩)) (by unfold execOp; simp only [h132.ev 33 rfl]; exact rfl) fun a135 h134 => ?_
        refine wv h134 rfl rfl rfl rfl (.pointer (some ⟨dt, 2, none⟩)) (by unfold execOp; simp only [h134.ev 34 rfl]; exact run_v (faZ_56_0_2 (dt) _)) fun a137 h136 => ?_
        refine wv h136 rfl rfl rfl rfl (.slice ra P.length rc) (by unfold execOp; simp only [h136.ev 35 rfl]; exact run_v (loadPtsP (HBk.out.cell (i := 2) (by show 2 < 3; omega)))) fun a139 h138 => ?_
        refine wmk h138 rfl rfl rfl rfl 10 rfl (fun _ => rfl) fun a141 h140 => ?_
        refine wv h140 rfl rfl rfl rfl (.pointer (some ⟨qb, qo + i * 2, none⟩)) (by unfold execOp; simp only [h140.ev 36 rfl, h140.ev 37 rfl]; exact run_v (by rw [hqa]; exact ixP qb qo _ rc i hlti _)) fun a143 h142 => ?_
        refine wv h142 rfl rfl rfl rfl (.pointer (some ⟨qb, qo + i * 2 + 1, none⟩)) (by unfold execOp; simp only [h142.ev 38 rfl]; exact run_v (faPZ_1 _ _ _)) fun a145 h144 => ?_
        refine wv h144 rfl rfl rfl rfl (strB p.d) (by unfold execOp; simp only [h144.ev 39 rfl]; exact run_v (loadSP hqc.2)) fun a147 h146 => ?_
        refine wv h146 rfl rfl rfl rfl (.int .i64 (p.d.length : Int)) (run_lenSP rfl (h146.ev 40 rfl) _) fun a149 h148 => ?_
        refine wv h148 rfl rfl rfl rfl (.bool true) (by unfold execOp; simp only [h148.ev 32 rfl, h148.ev 41 rfl]; exact run_v (ltIP _ _ _ _ _ (decide_eq_true (by omega)))) fun a151 h150 => ?_
        have h152 := h150.subs (l' := [(42, _), (11, _), (10, _), (8, _), (9, _), (0, _), (1, _)]) rfl
        clear h150
        iterate 3 go_step
        refine wp_cond (t := true) (h152.ev 42 rfl) ?_
        simp only [if_true]
        have h153 := h152.subs (l' := [(11, _), (10, _), (8, _), (9, _), (0, _), (1, _)]) rfl
        clear h152
        iterate 7 go_step
        refine wmk h153 rfl rfl rfl rfl 0 rfl (fun _ => rfl) fun a155 h154 => ?_
        refine wv h154 rfl rfl rfl rfl (.pointer (some ⟨dt, 0, none⟩)) (by unfold execOp; simp only [h154.ev 45 rfl]; exact rfl) fun a157 h156 => ?_
        refine wv h156 rfl rfl rfl rfl (.pointer (some ⟨dt, 2, none⟩)) (by unfold execOp; simp only [h156.ev 46 rfl]; exact run_v (faZ_56_0_2 (dt) _)) fun a159 h158 => ?_
        refine wv h158 rfl rfl rfl rfl (.slice ra P.length rc) (by unfold execOp; simp only [h158.ev 47 rfl]; exact run_v (loadPtsP (HBk.out.cell (i := 2) (by show 2 < 3; omega)))) fun a161 h160 => ?_
        refine wmk h160 rfl rfl rfl rfl 10 rfl (fun _ => rfl) fun a163 h162 => ?_
        refine wv h162 rfl rfl rfl rfl (.pointer (some ⟨qb, qo + i * 2, none⟩)) (by unfold execOp; simp only [h162.ev 48 rfl, h162.ev 49 rfl]; exact run_v (by rw [hqa]; exact ixP qb qo _ rc i hlti _)) fun a165 h164 => ?_
        refine wv h164 rfl rfl rfl rfl (.pointer (some ⟨qb, qo + i * 2, none⟩)) (by unfold execOp; simp only [h164.ev 50 rfl]; exact run_v (faPZ_0 _ _ _)) fun a167 h166 => ?_
        refine wv h166 rfl rfl rfl rfl (.int .i64 p.at_) (by unfold execOp; simp only [h166.ev 51 rfl]; exact run_v (loadIP hqc.1)) fun a169 h168 => ?_
        refine wmk h168 rfl rfl rfl rfl 11 rfl (fun _ => rfl) fun a171 h170 => ?_
        refine wv h170 rfl rfl rfl rfl (.int .i64 (p.at_ + (k : Int))) (by unfold execOp; simp only [h170.ev 52 rfl, h170.ev 53 rfl]; exact run_v (addNP _ _ _ _ _ (by omega) (by omega) (by omega) _)) fun a173 h172 => ?_
        refine wmk h172 rfl rfl rfl rfl 1 rfl (fun _ => rfl) fun a175 h174 => ?_
        refine wv h174 rfl rfl rfl rfl (.int .i64 (p.at_ + (k : Int) - at_)) (by unfold execOp; simp only [h174.ev 54 rfl, h174.ev 55 rfl]; exact run_v (subIP _ _ _ _ _ (by omega) (by omega) (by omega) _)) fun a177 h176 => ?_
        refine wmk h176 rfl rfl rfl rfl 56 rfl (fun _ => rfl) fun a179 h178 => ?_
        have h180 := h178.subs (l' := [(12, _), (11, _), (10, _), (8, _), (9, _), (0, _), (1, _)]) rfl
        clear h178
        iterate 5 go_step
        refine wmk h180 rfl rfl rfl rfl 12 rfl (fun _ => rfl) fun a182 h181 => ?_
        refine wv h181 rfl rfl rfl rfl (.bool true) (by unfold execOp; simp only [h181.ev 57 rfl]; exact run_v (geIP _ _ _ _ _ (decide_eq_true (by omega)))) fun a184 h183 => ?_
        refine wmk h183 rfl rfl rfl rfl 58 rfl (fun _ => rfl) fun a186 h185 => ?_
        refine wpk_val h185 (by rw [wanted_of (g := 2) (want := true) (b := true) rfl (h185.yields (prev := 59) rfl (by simp))]; rfl) rfl (by decide) (fr rfl) (.int .i64 (p.at_ + (k : Int) - at_)) (by unfold execOp; simp only [h185.ev 12 rfl]; rfl) fun a188 h187 => ?_
        refine wpk_val h187 (by rw [wanted_of (g := 2) (want := true) (b := true) rfl (h187.yields (prev := 59) rfl (by simp))]; rfl) rfl (by decide) (fr rfl) (.slice ba b0.length bc) (by unfold execOp; simp only [h187.ev 8 rfl]; rfl) fun a190 h189 => ?_
        refine wpk_val h189 (by rw [wanted_of (g := 2) (want := true) (b := true) rfl (h189.yields (prev := 59) rfl (by simp))]; rfl) rfl (by decide) (fr rfl) (.int .i64 (b0.length : Int)) (run_lenBP rfl (h189.ev 61 rfl) _) fun a192 h191 => ?_
        refine wpk_val h191 (by rw [wanted_of (g := 2) (want := true) (b := true) rfl (h191.yields (prev := 59) rfl (by simp))]; rfl) rfl (by decide) (fr rfl) (.bool false) (by unfold execOp; simp only [h191.ev 60 rfl, h191.ev 62 rfl]; exact run_v (ltIP _ _ _ _ _ (decide_eq_false (by omega)))) fun a194 h193 => ?_
        refine wv h193 rfl rfl rfl rfl (.bool false) (run_pick rfl (h193.ev 59 rfl) (by rw [if_pos rfl]; exact h193.ev 63 rfl)) fun a196 h195 => ?_
        have h197 := h195.subs (l' := [(64, _), (12, _), (11, _), (10, _), (8, _), (9, _), (0, _), (1, _)]) rfl
        clear h195
        iterate 3 go_step
        refine wp_cond (t := false) (h197.ev 64 rfl) ?_
        simp only [Bool.false_eq_true, if_false]
        have h198 := h197.subs (l' := [(12, _), (11, _), (10, _), (8, _), (9, _), (0, _), (1, _)]) rfl
        clear h197
        iterate 4 go_step
        refine wmk h198 rfl rfl rfl rfl 11 rfl (fun _ => rfl) fun a200 h199 => ?_
        refine wv h199 rfl rfl rfl rfl (.int .i64 ((k + 1 : Nat) : Int)) (by unfold execOp; simp only [h199.ev 43 rfl]; exact run_v (addNP _ _ _ _ _ (by omega) (by omega) (by omega) _)) fun a202 h201 => ?_
        have h203 := h201.subs (l' := [(44, _), (43, _), (12, _), (10, _), (8, _), (9, _), (0, _), (1, _)]) rfl
        clear h201
        refine wmk h203 rfl rfl rfl rfl 44 rfl (fun _ => rfl) fun a205 h204 => ?_
        have h206 := h204.subs (l' := [(11, _), (12, _), (10, _), (8, _), (9, _), (0, _), (1, _)]) rfl
        clear h204
        iterate 2 go_step
        refine ⟨⟨k + 1, by omega, h206.subs rfl, (by rw [ovl_step hltk, if_neg (by rw [ovl_len]; omega)]; exact HOk.out), HWk.out⟩, ?_⟩
        rw [h206.ev 11 rfl, hM2.ev 11 rfl]; simp [intOf]; omega
      obtain ⟨xN, hxN⟩ : ∃ m : Nat, p.at_ + (k : Int) - at_ = (m : Int) := ⟨(p.at_ + (k : Int) - at_).toNat, by omega⟩
      have hlo : (ovlB at_ (ovl at_ b0 (P.take i)) ⟨p.at_, p.d.take k⟩).length = b0.length := by rw [ovlB_len, ovl_len]
      obtain ⟨bg, hba⟩ := own_someO HOk.out (by rw [hlo]; omega)
      obtain ⟨hsc, hsf, hsB, hst⟩ := own_setBZ (hba ▸ HOk.out) xN (by rw [hlo]; omega) p.d[k]
      iterate 4 go_step
      refine wmk hM2 rfl rfl rfl rfl 11 rfl (fun _ => rfl) fun a208 h207 => ?_
      refine wmk h207 rfl rfl rfl rfl 0 rfl (fun _ => rfl) fun a210 h209 => ?_
      refine wv h209 rfl rfl rfl rfl (.pointer (some ⟨dt, 0, none⟩)) (by unfold execOp; simp only [h209.ev 33 rfl]; exact rfl) fun a212 h211 => ?_
      refine wv h211 rfl rfl rfl rfl (.pointer (some ⟨dt, 2, none⟩)) (by unfold execOp; simp only [h211.ev 34 rfl]; exact run_v (faZ_56_0_2 (dt) _)) fun a214 h213 => ?_
      refine wv h213 rfl rfl rfl rfl (.slice ra P.length rc) (by unfold execOp; simp only [h213.ev 35 rfl]; exact run_v (loadPtsP (HBk.out.cell (i := 2) (by show 2 < 3; omega)))) fun a216 h215 => ?_
      refine wmk h215 rfl rfl rfl rfl 10 rfl (fun _ => rfl) fun a218 h217 => ?_
      refine wv h217 rfl rfl rfl rfl (.pointer (some ⟨qb, qo + i * 2, none⟩)) (by unfold execOp; simp only [h217.ev 36 rfl, h217.ev 37 rfl]; exact run_v (by rw [hqa]; exact ixP qb qo _ rc i hlti _)) fun a220 h219 => ?_
      refine wv h219 rfl rfl rfl rfl (.pointer (some ⟨qb, qo + i * 2 + 1, none⟩)) (by unfold execOp; simp only [h219.ev 38 rfl]; exact run_v (faPZ_1 _ _ _)) fun a222 h221 => ?_
      refine wv h221 rfl rfl rfl rfl (strB p.d) (by unfold execOp; simp only [h221.ev 39 rfl]; exact run_v (loadSP hqc.2)) fun a224 h223 => ?_
      refine wv h223 rfl rfl rfl rfl (.int .i64 (p.d.length : Int)) (run_lenSP rfl (h223.ev 40 rfl) _) fun a226 h225 => ?_
      refine wv h225 rfl rfl rfl rfl (.bool true) (by unfold execOp; simp only [h225.ev 32 rfl, h225.ev 41 rfl]; exact run_v (ltIP _ _ _ _ _ (decide_eq_true (by omega)))) fun a228 h227 => ?_
      have h229 := h227.subs (l' := [(42, _), (11, _), (10, _), (8, _), (9, _), (0, _), (1, _)]) rfl
      clear h227
      iterate 3 go_step
      refine wp_cond (t := true) (h229.ev 42 rfl) ?_
      simp only [if_true]
      have h230 := h229.subs (l' := [(11, _), (10, _), (8, _), (9, _), (0, _), (1, _)]) rfl
      clear h229
      iterate 7 go_step
      refine wmk h230 rfl rfl rfl rfl 0 rfl (fun _ => rfl) fun a232 h231 => ?_
      refine wv h231 rfl rfl rfl rfl (.pointer (some ⟨dt, 0, none⟩)) (by unfold execOp; simp only [h231.ev 45 rfl]; exact rfl) fun a234 h233 => ?_
      refine wv h233 rfl rfl rfl rfl (.pointer (some ⟨dt, 2, none⟩)) (by unfold execOp; simp only [h233.ev 46 rfl]; exact run_v (faZ_56_0_2 (dt) _)) fun a236 h235 => ?_
      refine wv h235 rfl rfl rfl rfl (.slice ra P.length rc) (by unfold execOp; simp only [h235.ev 47 rfl]; exact run_v (loadPtsP (HBk.out.cell (i := 2) (by show 2 < 3; omega)))) fun a238 h237 => ?_
      refine wmk h237 rfl rfl rfl rfl 10 rfl (fun _ => rfl) fun a240 h239 => ?_
      refine wv h239 rfl rfl rfl rfl (.pointer (some ⟨qb, qo + i * 2, none⟩)) (by unfold execOp; simp only [h239.ev 48 rfl, h239.ev 49 rfl]; exact run_v (by rw [hqa]; exact ixP qb qo _ rc i hlti _)) fun a242 h241 => ?_
      refine wv h241 rfl rfl rfl rfl (.pointer (some ⟨qb, qo + i * 2, none⟩)) (by unfold execOp; simp only [h241.ev 50 rfl]; exact run_v (faPZ_0 _ _ _)) fun a244 h243 => ?_
      refine wv h243 rfl rfl rfl rfl (.int .i64 p.at_) (by unfold execOp; simp only [h243.ev 51 rfl]; exact run_v (loadIP hqc.1)) fun a246 h245 => ?_
      refine wmk h245 rfl rfl rfl rfl 11 rfl (fun _ => rfl) fun a248 h247 => ?_
      refine wv h247 rfl rfl rfl rfl (.int .i64 (p.at_ + (k : Int))) (by unfold execOp; simp only [h247.ev 52 rfl, h247.ev 53 rfl]; exact run_v (addNP _ _ _ _ _ (by omega) (by omega) (by omega) _)) fun a250 h249 => ?_
      refine wmk h249 rfl rfl rfl rfl 1 rfl (fun _ => rfl) fun a252 h251 => ?_
      refine wv h251 rfl rfl rfl rfl (.int .i64 (p.at_ + (k : Int) - at_)) (by unfold execOp; simp only [h251.ev 54 rfl, h251.ev 55 rfl]; exact run_v (subIP _ _ _ _ _ (by omega) (by omega) (by omega) _)) fun a254 h253 => ?_
      refine wmk h253 rfl rfl rfl rfl 56 rfl (fun _ => rfl) fun a256 h255 => ?_
      have h257 := h255.subs (l' := [(12, _), (11, _), (10, _), (8, _), (9, _), (0, _), (1, _)]) rfl
      clear h255
      iterate 5 go_step
      refine wmk h257 rfl rfl rfl rfl 12 rfl (fun _ => rfl) fun a259 h258 => ?_
      refine wv h258 rfl rfl rfl rfl (.bool true) (by unfold execOp; simp only [h258.ev 57 rfl]; exact run_v (geIP _ _ _ _ _ (decide_eq_true (by omega)))) fun a261 h260 => ?_
      refine wmk h260 rfl rfl rfl rfl 58 rfl (fun _ => rfl) fun a263 h262 => ?_
      refine wpk_val h262 (by rw [wanted_of (g := 2) (want := true) (b := true) rfl (h262.yields (prev := 59) rfl (by simp))]; rfl) rfl (by decide) (fr rfl) (.int .i64 (p.at_ + (k : Int) - at_)) (by unfold execOp; simp only [h262.ev 12 rfl]; rfl) fun a265 h264 => ?_
      refine wpk_val h264 (by rw [wanted_of (g := 2) (want := true) (b := true) rfl (h264.yields (prev := 59) rfl (by simp))]; rfl) rfl (by decide) (fr rfl) (.slice ba b0.length bc) (by unfold execOp; simp only [h264.ev 8 rfl]; rfl) fun a267 h266 => ?_
      refine wpk_val h266 (by rw [wanted_of (g := 2) (want := true) (b := true) rfl (h266.yields (prev := 59) rfl (by simp))]; rfl) rfl (by decide) (fr rfl) (.int .i64 (b0.length : Int)) (run_lenBP rfl (h266.ev 61 rfl) _) fun a269 h268 => ?_
      refine wpk_val h268 (by rw [wanted_of (g := 2) (want := true) (b := true) rfl (h268.yields (prev := 59) rfl (by simp))]; rfl) rfl (by decide) (fr rfl) (.bool true) (by unfold execOp; simp only [h268.ev 60 rfl, h268.ev 62 rfl]; exact run_v (ltIP _ _ _ _ _ (decide_eq_true (by omega)))) fun a271 h270 => ?_
      refine wv h270 rfl rfl rfl rfl (.bool true) (run_pick rfl (h270.ev 59 rfl) (by rw [if_pos rfl]; exact h270.ev 63 rfl)) fun a273 h272 => ?_
      have h274 := h272.subs (l' := [(64, _), (12, _), (11, _), (10, _), (8, _), (9, _), (0, _), (1, _)]) rfl
      clear h272
      iterate 3 go_step
      refine wp_cond (t := true) (h274.ev 64 rfl) ?_
      simp only [if_true]
      have h275 := h274.subs (l' := [(12, _), (11, _), (10, _), (8, _), (9, _), (0, _), (1, _)]) rfl
      clear h274
      go_step
      refine wmk h275 rfl rfl rfl rfl 8 rfl (fun _ => rfl) fun a277 h276 => ?_
      refine wmk h276 rfl rfl rfl rfl 12 rfl (fun _ => rfl) fun a279 h278 => ?_
      refine wmk h278 rfl rfl rfl rfl 0 rfl (fun _ => rfl) fun a281 h280 => ?_
      refine wv h280 rfl rfl rfl rfl (.pointer (some ⟨dt, 0, none⟩)) (by unfold execOp; simp only [h280.ev 67 rfl]; exact rfl) fun a283 h282 => ?_
      refine wv h282 rfl rfl rfl rfl (.pointer (some ⟨dt, 2, none⟩)) (by unfold execOp; simp only [h282.ev 68 rfl]; exact run_v (faZ_56_0_2 (dt) _)) fun a285 h284 => ?_
      refine wv h284 rfl rfl rfl rfl (.slice ra P.length rc) (by unfold execOp; simp only [h284.ev 69 rfl]; exact run_v (loadPtsP (HBk.out.cell (i := 2) (by show 2 < 3; omega)))) fun a287 h286 => ?_
      refine wmk h286 rfl rfl rfl rfl 10 rfl (fun _ => rfl) fun a289 h288 => ?_
      refine wv h288 rfl rfl rfl rfl (.pointer (some ⟨qb, qo + i * 2, none⟩)) (by unfold execOp; simp only [h288.ev 70 rfl, h288.ev 71 rfl]; exact run_v (by rw [hqa]; exact ixP qb qo _ rc i hlti _)) fun a291 h290 => ?_
      refine wv h290 rfl rfl rfl rfl (.pointer (some ⟨qb, qo + i * 2 + 1, none⟩)) (by unfold execOp; simp only [h290.ev 72 rfl]; exact run_v (faPZ_1 _ _ _)) fun a293 h292 => ?_
      refine wv h292 rfl rfl rfl rfl (strB p.d) (by unfold execOp; simp only [h292.ev 73 rfl]; exact run_v (loadSP hqc.2)) fun a295 h294 => ?_
      refine wmk h294 rfl rfl rfl rfl 11 rfl (fun _ => rfl) fun a297 h296 => ?_
      refine wv h296 rfl rfl rfl rfl (byteV p.d[k]) (by unfold execOp; simp only [h296.ev 74 rfl, h296.ev 75 rfl]; exact run_v (ixSZ p.d k hltk _)) fun a299 h298 => ?_
      refine wv h298 rfl rfl rfl rfl (.pointer (some ⟨bg, xN, none⟩)) (by unfold execOp; simp only [h298.ev 65 rfl, h298.ev 66 rfl]; exact run_v (ixBZ hba bc xN (p.at_ + (k : Int) - at_) hxN (by omega) _)) fun a301 h300 => ?_
      obtain ⟨w4, hw4⟩ : ∃ y, y = wk.setCell ⟨bg, xN, none⟩ (byteV p.d[k]) := ⟨_, rfl⟩
      refine wpk_skipvP h300 (wanted_none rfl) rfl (w' := w4) (by rw [hw4]; unfold execOp; simp only [h300.ev 77 rfl, h300.ev 76 rfl]; exact run_uP (storeUZ hsc hsf _)) fun a303 h302 => ?_
      have h304 := h302.subs (l' := [(12, _), (11, _), (10, _), (8, _), (9, _), (0, _), (1, _)]) rfl
      clear h302
      iterate 4 go_step
      refine wmk h304 rfl rfl rfl rfl 11 rfl (fun _ => rfl) fun a306 h305 => ?_
      refine wv h305 rfl rfl rfl rfl (.int .i64 ((k + 1 : Nat) : Int)) (by unfold execOp; simp only [h305.ev 43 rfl]; exact run_v (addNP _ _ _ _ _ (by omega) (by omega) (by omega) _)) fun a308 h307 => ?_
      have h309 := h307.subs (l' := [(44, _), (43, _), (12, _), (10, _), (8, _), (9, _), (0, _), (1, _)]) rfl
      clear h307
      refine wmk h309 rfl rfl rfl rfl 44 rfl (fun _ => rfl) fun a311 h310 => ?_
      have h312 := h310.subs (l' := [(11, _), (12, _), (10, _), (8, _), (9, _), (0, _), (1, _)]) rfl
      clear h310
      iterate 2 go_step
      refine ⟨⟨k + 1, by omega, h312.subs rfl, (by rw [ovl_step hltk, if_pos ⟨by omega, by rw [ovl_len]; omega⟩, hw4, hxN, Int.toNat_natCast, hba]; exact hst), (by rw [hw4]; exact HWk.out.setCell hsB _)⟩, ?_⟩
      rw [h312.ev 11 rfl, hM2.ev 11 rfl]; simp [intOf]; omega
    iterate 4 go_step
    refine wmk hM2 rfl rfl rfl rfl 11 rfl (fun _ => rfl) fun a314 h313 => ?_
    refine wmk h313 rfl rfl rfl rfl 0 rfl (fun _ => rfl) fun a316 h315 => ?_
    refine wv h315 rfl rfl rfl rfl (.pointer (some ⟨dt, 0, none⟩)) (by unfold execOp; simp only [h315.ev 33 rfl]; exact rfl) fun a318 h317 => ?_
    refine wv h317 rfl rfl rfl rfl (.pointer (some ⟨dt, 2, none⟩)) (by unfold execOp; simp only [h317.ev 34 rfl]; exact run_v (faZ_56_0_2 (dt) _)) fun a320 h319 => ?_
    refine wv h319 rfl rfl rfl rfl (.slice ra P.length rc) (by unfold execOp; simp only [h319.ev 35 rfl]; exact run_v (loadPtsP (HBk.out.cell (i := 2) (by show 2 < 3; omega)))) fun a322 h321 => ?_
    refine wmk h321 rfl rfl rfl rfl 10 rfl (fun _ => rfl) fun a324 h323 => ?_
    refine wv h323 rfl rfl rfl rfl (.pointer (some ⟨qb, qo + i * 2, none⟩)) (by unfold execOp; simp only [h323.ev 36 rfl, h323.ev 37 rfl]; exact run_v (by rw [hqa]; exact ixP qb qo _ rc i hlti _)) fun a326 h325 => ?_
    refine wv h325 rfl rfl rfl rfl (.pointer (some ⟨qb, qo + i * 2 + 1, none⟩)) (by unfold execOp; simp only [h325.ev 38 rfl]; exact run_v (faPZ_1 _ _ _)) fun a328 h327 => ?_
    refine wv h327 rfl rfl rfl rfl (strB p.d) (by unfold execOp; simp only [h327.ev 39 rfl]; exact run_v (loadSP hqc.2)) fun a330 h329 => ?_
    refine wv h329 rfl rfl rfl rfl (.int .i64 (p.d.length : Int)) (run_lenSP rfl (h329.ev 40 rfl) _) fun a332 h331 => ?_
    refine wv h331 rfl rfl rfl rfl (.bool false) (by unfold execOp; simp only [h331.ev 32 rfl, h331.ev 41 rfl]; exact run_v (ltIP _ _ _ _ _ (decide_eq_false (by omega)))) fun a334 h333 => ?_
    have h335 := h333.subs (l' := [(42, _), (11, _), (10, _), (8, _), (9, _), (0, _), (1, _)]) rfl
    clear h333
    iterate 3 go_step
    refine wp_cond (t := false) (h335.ev 42 rfl) ?_
    simp only [Bool.false_eq_true, if_false]
    have h336 := h335.subs (l' := [(11, _), (10, _), (8, _), (9, _), (0, _), (1, _)]) rfl
    clear h335
    iterate 6 go_step
    refine wmk h336 rfl rfl rfl rfl 10 rfl (fun _ => rfl) fun a338 h337 => ?_
    refine wv h337 rfl rfl rfl rfl (.int .i64 ((i + 1 : Nat) : Int)) (by unfold execOp; simp only [h337.ev 30 rfl]; exact run_v (addNP _ _ _ _ _ (by omega) (by omega) (by omega) _)) fun a340 h339 => ?_
    have h341 := h339.subs (l' := [(31, _), (30, _), (11, _), (8, _), (9, _), (0, _), (1, _)]) rfl
    clear h339
    refine wmk h341 rfl rfl rfl rfl 31 rfl (fun _ => rfl) fun a343 h342 => ?_
    have h344 := h342.subs (l' := [(10, _), (11, _), (8, _), (9, _), (0, _), (1, _)]) rfl
    clear h342
    iterate 2 go_step
    refine ⟨⟨i + 1, by omega, h344.subs rfl, (by rw [ovl_snocZ hlti, ← hp.out, show p = (⟨p.at_, p.d.take k⟩ : PtM) by rw [List.take_of_length_le (by omega)]]; exact HOk.out), HWk.out⟩, ?_⟩
    rw [h344.ev 10 rfl, hK.ev 10 rfl]; simp [intOf]; omega
  iterate 4 go_step
  refine wmk hK rfl rfl rfl rfl 10 rfl (fun _ => rfl) fun a346 h345 => ?_
  refine wmk h345 rfl rfl rfl rfl 0 rfl (fun _ => rfl) fun a348 h347 => ?_
  refine wv h347 rfl rfl rfl rfl (.pointer (some ⟨dt, 0, none⟩)) (by unfold execOp; simp only [h347.ev 24 rfl]; exact rfl) fun a350 h349 => ?_
  refine wv h349 rfl rfl rfl rfl (.pointer (some ⟨dt, 2, none⟩)) (by unfold execOp; simp only [h349.ev 25 rfl]; exact run_v (faZ_56_0_2 (dt) _)) fun a352 h351 => ?_
  refine wv h351 rfl rfl rfl rfl (.slice ra P.length rc) (by unfold execOp; simp only [h351.ev 26 rfl]; exact run_v (loadPtsP (HBl.out.cell (i := 2) (by show 2 < 3; omega)))) fun a354 h353 => ?_
  refine wv h353 rfl rfl rfl rfl (.int .i64 (P.length : Int)) (run_lenP rfl (h353.ev 27 rfl) _) fun a356 h355 => ?_
  refine wv h355 rfl rfl rfl rfl (.bool false) (by unfold execOp; simp only [h355.ev 23 rfl, h355.ev 28 rfl]; exact run_v (ltIP _ _ _ _ _ (decide_eq_false (by omega)))) fun a358 h357 => ?_
  have h359 := h357.subs (l' := [(29, _), (10, _), (8, _), (9, _), (0, _), (1, _)]) rfl
  clear h357
  iterate 3 go_step
  refine wp_cond (t := false) (h359.ev 29 rfl) ?_
  simp only [Bool.false_eq_true, if_false]
  have h360 := h359.subs (l' := [(10, _), (8, _), (9, _), (0, _), (1, _)]) rfl
  clear h359
  iterate 7 go_step
  refine wmk h360 rfl rfl rfl rfl 8 rfl (fun _ => rfl) fun a362 h361 => ?_
  refine wmk h361 rfl rfl rfl rfl 9 rfl (fun _ => rfl) fun a364 h363 => ?_
  refine wmk h363 rfl rfl rfl rfl 78 rfl (fun _ => rfl) fun a366 h365 => ?_
  refine wmk h365 rfl rfl rfl rfl 79 rfl (fun _ => rfl) fun a368 h367 => ?_
  have h369 := h367.subs (l' := [(7, _), (6, _), (10, _), (8, _), (9, _), (0, _), (1, _)]) rfl
  clear h367
  iterate 4 go_step
  exact bodyPost_ret (results_tmp2 rfl (h369.known (6, .slice ba b0.length bc) (by simp)) (h369.known (7, .int .i64 0) (by simp))) h369.defs ⟨ba, bc, rfl, (by have z := HOl.out; rw [List.take_of_length_le (by omega)] at z; unfold OwnB at z ⊢; rw [ovl_len] at z ⊢; exact z), HWl.out⟩
end Go.Proofs.YtcackliabemecaaGreatDoor
