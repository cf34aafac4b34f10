/- Merged: PlgLr PlgLs PlgPr PlgLz. -/
import Derived.Test.YtcackliabemecaaGreatDoorPlgMg
import Derived.Test.YtcackliabemecaaGreatDoorPlgMf
import Derived.Test.YtcackliabemecaaGreatDoorPmT
import Derived.Test.YtcackliabemecaaGreatDoorPlgXr
/- The document's log: End, keep, Read. (genPlgLr.py) -/
namespace Go.Proofs.YtcackliabemecaaGreatDoor
open Go.RowKit
set_option linter.unusedSimpArgs false
set_option linter.unusedVariables false
set_option maxRecDepth 100000

theorem loadMR {w : World} {g off : Nat} {q : Option Addr} (h : w.cell? ⟨g, off, none⟩ = some (.pointer q)) : (Instr.loadAt 37 (.pointer (some ⟨g, off, none⟩))).run Tryz.prog w = .ok (.pointer q) w := by
  have u3 := Tryz.underlying37
  have a3 := Tryz.isAgg37
  have z3 := Tryz.sizeOf37
  go_simp
/-- the document's log at lg, of its memory at g -/
structure LogRP (w : World) (lg g v d a at_ size : Nat) (M : MemM) : Prop where
  l : Blk w lg 54 (logC g at_ size)
  m : MemR w g v d a M
theorem LogRP.mono {w w' : World} {lg g v d a at_ size : Nat} {M : MemM} (h : LogRP w lg g v d a at_ size M) (b : Below w.heap.size w w') : LogRP w' lg g v d a at_ size M := ⟨h.l.mono b, h.m.mono b⟩
theorem LogRP.nX {w : World} {lg g v d a at_ size : Nat} {M : MemM} (h : LogRP w lg g v d a at_ size M) : ¬ XM v d a lg := by
  rintro (e | e | e)
  · exact blk_ne h.l h.m.2.2.2.1 (by decide) e
  · exact blk_ne h.l h.m.2.2.2.2.1 (by decide) e
  · exact blk_ne h.l h.m.2.2.2.2.2 (by decide) e
theorem LogRP.next {w w' : World} {lg g v d a at_ size : Nat} {M M' : MemM} {X : Nat → Prop} (h : LogRP w lg g v d a at_ size M) (hm : MemR w' g v d a M') (t : Turns X w w') (hX : ∀ k, X k → XM v d a k) : LogRP w' lg g v d a at_ size M' :=
  ⟨t.blk h.l (fun e => h.nX (hX _ e)), hm⟩
theorem LogRP.lt {w : World} {lg g v d a at_ size : Nat} {M : MemM} (h : LogRP w lg g v d a at_ size M) : lg < w.heap.size ∧ g < w.heap.size ∧ v < w.heap.size ∧ d < w.heap.size ∧ a < w.heap.size := by
  obtain ⟨av, ag1, ag2, ap1, ap2, ap3, gl, vl, dl, pl⟩ := ref_apart h.m
  exact ⟨h.l.lt, gl, vl, dl, pl⟩
theorem LogRP.below {w w' : World} {B lg g v d a at_ size : Nat} {M : MemM} (h : LogRP w lg g v d a at_ size M) (b : Below B w w') (hb : lg < B ∧ g < B ∧ v < B ∧ d < B ∧ a < B) : LogRP w' lg g v d a at_ size M := by
  have t : Turns (fun k => B ≤ k) w w' := ⟨b.os, b.tape, b.output, b.size, fun k _ hn => b.block k (by omega)⟩
  exact ⟨t.blk h.l (by omega), h.m.turns t (by omega) (by omega) (by omega) (by omega)⟩
theorem MemR.rowV {w : World} {g v d a : Nat} {M : MemM} (h : MemR w g v d a M) : RowB w (some ⟨v, 0, none⟩) M.V.length M.V :=
  row_blkO h.2.2.2.1 1 M.V.length (by simp) (by have := h.1.2.2.2.2; omega)
/-- what is appended to nothing changes no older block -/
theorem LogRP.keep {w w' : World} {B lg g v d a at_ size n c : Nat} {M : MemM} (h : LogRP w lg g v d a at_ size M) (b : Below B w w') (G : w.grownBy w' (Value.slice none n c).ownBlock) : LogRP w' lg g v d a at_ size M := by
  have t : Turns (fun _ => False) w w' := ⟨G.os, G.tape, G.output, G.size, fun k hk _ => G.block k hk (by intro q; cases q)⟩
  exact ⟨t.blk h.l id, h.m.turns t id id id id⟩
theorem sliceV {w : World} {g v d a : Nat} {M : MemM} (h : MemR w g v d a M) (lo hi : Nat) (h1 : lo ≤ hi) (h2 : hi ≤ M.V.length) (h3 : lo < M.V.length) :
    ∃ ad, (∀ W, (Instr.sliceAt 26 (.slice (some ⟨v, 0, none⟩) M.V.length M.V.length) (some (.int .i64 (lo : Int))) (some (.int .i64 (hi : Int))) none).run Tryz.prog W = .ok (.slice (some ad) (hi - lo) (M.V.length - lo)) W) ∧ RowB w (some ad) (M.V.length - lo) ((M.V.drop lo).take (hi - lo)) := by
  obtain ⟨dp, z1, z2⟩ := sliceLH h.rowV lo hi h1 h2
  cases dp with
  | none => exact absurd (z2.2.2.2.1 rfl) (by omega)
  | some ad => exact ⟨ad, z1, z2⟩
theorem getF_at8 {V : List UInt8} {at_ : Nat} (h : at_ + 8 ≤ V.length) : getF V (at_ : Int) 8 = getF ((V.drop at_).take 8) 0 8 := by
  have hl : ((V.drop at_).take 8).length = 8 := by rw [List.length_take, List.length_drop]; omega
  have a1 : getF V (at_ : Int) 8 = (if ofLE ((V.drop ((at_ : Int)).toNat).take ((8 : Int)).toNat) ≤ 9223372036854775807 then some (ofLE ((V.drop ((at_ : Int)).toNat).take ((8 : Int)).toNat)) else none) := by
    unfold getF; exact if_pos ⟨rfl, by omega, by omega⟩
  have a2 : getF ((V.drop at_).take 8) 0 8 = (if ofLE ((((V.drop at_).take 8).drop ((0 : Int)).toNat).take ((8 : Int)).toNat) ≤ 9223372036854775807 then some (ofLE ((((V.drop at_).take 8).drop ((0 : Int)).toNat).take ((8 : Int)).toNat)) else none) := by
    unfold getF; exact if_pos ⟨rfl, by omega, by rw [hl]; omega⟩
  have e : (((V.drop at_).take 8).drop ((0 : Int)).toNat).take ((8 : Int)).toNat = (V.drop ((at_ : Int)).toNat).take ((8 : Int)).toNat := by
    show (((V.drop at_).take 8).drop 0).take 8 = (V.drop at_).take 8
    rw [List.drop_zero, List.take_take, Nat.min_self]
  rw [a1, a2, e]
theorem storeR_in {w : World} {g v d a : Nat} {M : MemM} (h : MemR w g v d a M) (q : Nat) (ab : Option Addr) (c : Nat) (b : List UInt8) (hr : RowB w ab c b) (hs : 0 < b.length → ∀ k, (∃ off, ab = some ⟨k, off, none⟩) → k ≠ v ∧ k ≠ a) (hin : q + b.length ≤ M.V.length) :
    Calls Tryz.prog 26 #[.pointer (some ⟨g, 0, none⟩), .int .i64 (q : Int), .slice ab b.length c] w fun e w' => e = .returned (.int .i64 0) ∧ MemR w' g v d a (storeM M q b) ∧ Turns (fun k => k = v ∨ k = a) w w' := by
  have h5 := h.1.2.2.2.2
  refine (storeR_any h (q : Int) (by omega) ab c b hr hs).mono ?_
  intro e w' z
  unfold StoreR at z
  rw [if_pos ((inM_iff M (q : Int) b.length).2 (by omega)), Int.toNat_natCast] at z
  exact z
theorem flushR_in {w : World} {g v d a : Nat} {M : MemM} (h : MemR w g v d a M) (q n : Nat) (hin : q + n ≤ M.V.length) :
    Calls Tryz.prog 55 #[.pointer (some ⟨g, 0, none⟩), .int .i64 (q : Int), .int .i64 (n : Int)] w fun e w' => e = .returned (.int .i64 0) ∧ MemR w' g v d a (flushM M q n) ∧ Turns (fun k => k = a) w w' := by
  have h5 := h.1.2.2.2.2
  refine (flushR_any h (q : Int) (n : Int) (by omega) (by omega)).mono ?_
  intro e w' z
  unfold FlushR at z
  rw [if_pos ((inM_iff M (q : Int) n).2 (by omega)), Int.toNat_natCast, Int.toNat_natCast] at z
  exact z
theorem storeM_len {M : MemM} {q : Nat} {b : List UInt8} (hin : q + b.length ≤ M.V.length) : (storeM M q b).V.length = M.V.length := length_splice _ _ _ hin
theorem writeM_one {M : MemM} {q : Nat} {b : List UInt8} (hin : q + b.length ≤ M.V.length) : writeM M [⟨(q : Int), b⟩] = fenceM (flushM (storeM M q b) q b.length) := by
  unfold writeM
  have h1 : inM M (q : Int) b.length = true := (inM_iff M _ _).2 (by omega)
  have hs : storeU M (q : Int) b = storeM M q b := by unfold storeU; rw [if_pos h1, Int.toNat_natCast]
  have h2 : inM (storeM M q b) (q : Int) b.length = true := (inM_iff _ _ _).2 (by rw [storeM_len hin]; omega)
  show fenceM (wStep M ⟨(q : Int), b⟩) = _
  unfold wStep
  dsimp only
  rw [if_pos h1, hs]
  unfold flushU
  rw [if_pos h2, Int.toNat_natCast, Int.toNat_natCast]
theorem retNr {w W : World} {act : Act} {n m : Nat} (hd : act.defers = []) (h2 : act.tmps[2]? = some (.int .i64 (m : Int))) (hn : n = m) (hb : Below w.heap.size w W) : bodyPost Tryz.prog Tryz.f71 (fun e w' => ∃ v, e = .returned v ∧ v = .int .i64 (n : Int) ∧ Below w.heap.size w w') .ret act W := by
  subst hn
  exact bodyPost_ret (results_tmp1 rfl h2) hd ⟨_, rfl, rfl, hb⟩
theorem retRr {w W : World} {act : Act} {M : MemM} {at_ size u : Nat} {b : List UInt8} {ra : Option Addr} {rc : Nat} {rs : List (Option Addr × Nat × List PtM)} (hd : act.defers = []) (h2 : act.tmps[2]? = some (.slice ra rs.length rc)) (h3 : act.tmps[3]? = some (.int .i64 (u : Int))) (hr : readL b = (rs.map (·.2.2), u)) (hb : b = bodyL M.V at_ size) (hR : RecsP W w.heap.size ra rc rs) (hB : Below w.heap.size w W) :
    bodyPost Tryz.prog Tryz.f52 (fun e w' => ∃ x, e = .returned x ∧ ∃ ra rc rs, x = .tuple #[.slice ra rs.length rc, .int .i64 ((logR M.V at_ size).2 : Int)] ∧ rs.map (·.2.2) = (logR M.V at_ size).1 ∧ RecsP w' w.heap.size ra rc rs ∧ Below w.heap.size w w') .ret act W := by
  refine bodyPost_ret (results_tmp2 rfl h2 h3) hd ?_
  have e : logR M.V at_ size = (rs.map (·.2.2), u) := by unfold logR; rw [← hb]; exact hr
  rw [e]
  exact ⟨_, rfl, ra, rc, rs, rfl, rfl, hR, hB⟩
theorem callP_15 (args : Array Value) (w : World) : (callFunc 72 args).run Tryz.prog w = .ok (.enter 72 args) w := by
  have h := Tryz.func72
  go_simp
theorem callP_59 (args : Array Value) (w : World) : (callFunc 71 args).run Tryz.prog w = .ok (.enter 71 args) w := by
  have h := Tryz.func71
  go_simp
theorem callP_79 (args : Array Value) (w : World) : (callFunc 26 args).run Tryz.prog w = .ok (.enter 26 args) w := by
  have h := Tryz.func26
  go_simp
theorem callP_80 (args : Array Value) (w : World) : (callFunc 55 args).run Tryz.prog w = .ok (.enter 55 args) w := by
  have h := Tryz.func55
  go_simp
theorem callP_81 (args : Array Value) (w : World) : (callFunc 56 args).run Tryz.prog w = .ok (.enter 56 args) w := by
  have h := Tryz.func56
  go_simp
theorem fa_76_0_0 (g : Nat) (w : World) : (Instr.fieldAt 54 (.pointer (some ⟨g, 0, none⟩)) 0).run Tryz.prog w = .ok (.pointer (some ⟨g, 0, none⟩)) w := rfl
theorem fa_76_0_1 (g : Nat) (w : World) : (Instr.fieldAt 54 (.pointer (some ⟨g, 0, none⟩)) 1).run Tryz.prog w = .ok (.pointer (some ⟨g, 1, none⟩)) w := rfl
theorem fa_76_0_2 (g : Nat) (w : World) : (Instr.fieldAt 54 (.pointer (some ⟨g, 0, none⟩)) 2).run Tryz.prog w = .ok (.pointer (some ⟨g, 2, none⟩)) w := rfl
theorem fa_90_0_0 (g : Nat) (w : World) : (Instr.fieldAt 61 (.pointer (some ⟨g, 0, none⟩)) 0).run Tryz.prog w = .ok (.pointer (some ⟨g, 0, none⟩)) w := rfl

set_option maxHeartbeats 4000000 in
theorem endR_any {w : World} {lg g v d a at_ size : Nat} {M : MemM} (hg0 : LogRP w lg g v d a at_ size M) (hok : LogOk at_ size M) :
    Calls Tryz.prog 71 #[.pointer (some ⟨lg, 0, none⟩)] w fun e w' => ∃ x, e = .returned x ∧ x = .int .i64 (endL M.V at_ size : Int) ∧ Below w.heap.size w w' := by
  have HG0 := hid hg0
  obtain ⟨s1, s2, s3, s4⟩ := hok
  have hEq := getF_at8 (V := M.V) (at_ := at_) (by omega)
  clear hg0
  go_enter Tryz.func71, Tryz.ntmps71
  iterate 3 go_step
  refine wpk_enter (N := 32) (l := [(0, .pointer (some ⟨lg, 0, none⟩))]) ⟨rfl, (by intro x hx; simp only [List.mem_cons, List.not_mem_nil, or_false] at hx; rcases hx with rfl <;> rfl), rfl⟩ fun a2 h1 => ?_
  refine wv h1 rfl rfl rfl rfl (.int .i64 0) rfl fun a4 h3 => ?_
  iterate 4 go_step
  have HG1 := hid (HG0.out.mono (Below.refl _ _).drew)
  refine wp_region_held_drew (S := fun w' => LogRP w' lg g v d a at_ size M) (by kernel_rfl) HG1.out (fun hS1 => ?_)
  refine wpk_take hS1 h3 0 rfl rfl (by decide) (fr rfl) (by kernel_rfl) (by kernel_rfl) (by kernel_rfl) (fun _ _ _ _ h => h) (.pointer (some ⟨lg, 0, none⟩)) (Or.inl ⟨Eq.refl true, fun w1 hSw => (by show (execOp _ (⟨_, .move (.tmp 0), _, _, _, _⟩ : Oper)).run _ _ = _; exact (by unfold execOp; simp only [h3.ev 0 rfl]; exact rfl))⟩) fun a6 h5 => ?_
  refine wpk_take hS1 h5 1 rfl rfl (by decide) (fr rfl) (by kernel_rfl) (by kernel_rfl) (by kernel_rfl) (fun _ _ _ _ h => h) (.pointer (some ⟨lg, 0, none⟩)) (Or.inl ⟨Eq.refl true, fun w1 hSw => (by show (execOp _ (⟨_, .nilCheck (.tmp 6), _, _, _, _⟩ : Oper)).run _ _ = _; exact (by unfold execOp; simp only [h5.ev 6 rfl]; exact rfl))⟩) fun a8 h7 => ?_
  refine wpk_take hS1 h7 2 rfl rfl (by decide) (fr rfl) (by kernel_rfl) (by kernel_rfl) (by kernel_rfl) (fun _ _ _ _ h => h) (.pointer (some ⟨lg, 0, none⟩)) (Or.inl ⟨Eq.refl true, fun w1 hSw => (by show (execOp _ (⟨_, .fieldAddr 54 (.tmp 7) 0, _, _, _, _⟩ : Oper)).run _ _ = _; exact (by unfold execOp; simp only [h7.ev 7 rfl]; exact run_v (fa_76_0_0 (lg) _)))⟩) fun a10 h9 => ?_
  refine wpk_take hS1 h9 3 rfl rfl (by decide) (fr rfl) (by kernel_rfl) (by kernel_rfl) (by kernel_rfl) (fun _ _ _ _ h => h) (.pointer (some ⟨g, 0, none⟩)) (Or.inl ⟨Eq.refl true, fun w1 hSw => (by show (execOp _ (⟨_, .load 37 (.tmp 8), _, _, _, _⟩ : Oper)).run _ _ = _; exact (by unfold execOp; simp only [h9.ev 8 rfl]; exact run_v (loadMR (hSw.l.cell (i := 0) (by show 0 < 3; omega)))))⟩) fun a12 h11 => ?_
  refine wpk_take hS1 h11 4 rfl rfl (by decide) (fr rfl) (by kernel_rfl) (by kernel_rfl) (by kernel_rfl) (fun _ _ _ _ h => h) (.pointer (some ⟨g, 0, none⟩)) (Or.inl ⟨Eq.refl true, fun w1 hSw => (by show (execOp _ (⟨_, .nilCheck (.tmp 9), _, _, _, _⟩ : Oper)).run _ _ = _; exact (by unfold execOp; simp only [h11.ev 9 rfl]; exact rfl))⟩) fun a14 h13 => ?_
  refine wpk_take hS1 h13 5 rfl rfl (by decide) (fr rfl) (by kernel_rfl) (by kernel_rfl) (by kernel_rfl) (fun _ _ _ _ h => h) (.pointer (some ⟨g, 0, none⟩)) (Or.inl ⟨Eq.refl true, fun w1 hSw => (by show (execOp _ (⟨_, .fieldAddr 61 (.tmp 10) 0, _, _, _, _⟩ : Oper)).run _ _ = _; exact (by unfold execOp; simp only [h13.ev 10 rfl]; exact run_v (fa_90_0_0 (g) _)))⟩) fun a16 h15 => ?_
  refine wpk_take hS1 h15 6 rfl rfl (by decide) (fr rfl) (by kernel_rfl) (by kernel_rfl) (by kernel_rfl) (fun _ _ _ _ h => h) (.slice (some ⟨v, 0, none⟩) M.V.length M.V.length) (Or.inl ⟨Eq.refl true, fun w1 hSw => (by show (execOp _ (⟨_, .load 26 (.tmp 11), _, _, _, _⟩ : Oper)).run _ _ = _; exact (by unfold execOp; simp only [h15.ev 11 rfl]; exact run_v (loadYP hSw.m.cells.1)))⟩) fun a18 h17 => ?_
  refine wpk_take hS1 h17 7 rfl rfl (by decide) (fr rfl) (by kernel_rfl) (by kernel_rfl) (by kernel_rfl) (fun _ _ _ _ h => h) (.pointer (some ⟨lg, 0, none⟩)) (Or.inl ⟨Eq.refl true, fun w1 hSw => (by show (execOp _ (⟨_, .move (.tmp 0), _, _, _, _⟩ : Oper)).run _ _ = _; exact (by unfold execOp; simp only [h17.ev 0 rfl]; exact rfl))⟩) fun a20 h19 => ?_
  refine wpk_take hS1 h19 8 rfl rfl (by decide) (fr rfl) (by kernel_rfl) (by kernel_rfl) (by kernel_rfl) (fun _ _ _ _ h => h) (.pointer (some ⟨lg, 0, none⟩)) (Or.inl ⟨Eq.refl true, fun w1 hSw => (by show (execOp _ (⟨_, .nilCheck (.tmp 13), _, _, _, _⟩ : Oper)).run _ _ = _; exact (by unfold execOp; simp only [h19.ev 13 rfl]; exact rfl))⟩) fun a22 h21 => ?_
  refine wpk_take hS1 h21 9 rfl rfl (by decide) (fr rfl) (by kernel_rfl) (by kernel_rfl) (by kernel_rfl) (fun _ _ _ _ h => h) (.pointer (some ⟨lg, 1, none⟩)) (Or.inl ⟨Eq.refl true, fun w1 hSw => (by show (execOp _ (⟨_, .fieldAddr 54 (.tmp 14) 1, _, _, _, _⟩ : Oper)).run _ _ = _; exact (by unfold execOp; simp only [h21.ev 14 rfl]; exact run_v (fa_76_0_1 (lg) _)))⟩) fun a24 h23 => ?_
  refine wpk_take hS1 h23 10 rfl rfl (by decide) (fr rfl) (by kernel_rfl) (by kernel_rfl) (by kernel_rfl) (fun _ _ _ _ h => h) (.int .i64 (at_ : Int)) (Or.inl ⟨Eq.refl true, fun w1 hSw => (by show (execOp _ (⟨_, .load 3 (.tmp 15), _, _, _, _⟩ : Oper)).run _ _ = _; exact (by unfold execOp; simp only [h23.ev 15 rfl]; exact run_v (loadIP (hSw.l.cell (i := 1) (by show 1 < 3; omega)))))⟩) fun a26 h25 => ?_
  refine wpk_only 11 rfl rfl (by kernel_rfl) fun K hK => op_call h25 rfl (by decide) (fr rfl) (fun args => callP_42 args _) rfl #[.slice (some ⟨v, 0, none⟩) M.V.length M.V.length, .int .i64 (at_ : Int), .int .i64 8] (by simp only [List.map_toArray, List.map_cons, List.map_nil, h25.ev 12 rfl, h25.ev 16 rfl]; rfl) (R := fun v' w' => v' = getV (getF M.V (at_ : Int) 8) ∧ w.drew = w') ((getRef_any (some ⟨v, 0, none⟩) M.V.length M.V (at_ : Int) 8 w.drew HG1.out.m.rowV (by omega) (by omega)).mono fun e w' q => ⟨_, q.1, rfl, q.2⟩) fun a28 v2 w2 r2 h27 => hK _ _ (by rw [← r2.2]; exact hS1) fun hS2 => ?_
  clear hK K
  obtain ⟨rfl, rfl⟩ := r2
  refine wpk_take hS2 h27 12 rfl rfl (by decide) (fr rfl) (by kernel_rfl) (by kernel_rfl) (by kernel_rfl) (fun _ _ _ _ h => h) (getV (getF M.V (at_ : Int) 8)) (Or.inl ⟨Eq.refl true, fun w1 hSw => (by show (execOp _ (⟨_, .move (.tmp 17), _, _, _, _⟩ : Oper)).run _ _ = _; exact (by unfold execOp; simp only [h27.ev 17 rfl]; exact rfl))⟩) fun a30 h29 => ?_
  refine wpk_take hS2 h29 13 rfl rfl (by decide) (fr rfl) (by kernel_rfl) (by kernel_rfl) (by kernel_rfl) (fun _ _ _ _ h => h) (.int .i64 (((getF M.V (at_ : Int) 8).getD 0 : Nat) : Int)) (Or.inl ⟨Eq.refl true, fun w1 hSw => (by show (execOp _ (⟨_, .extract (.tmp 5) 0, _, _, _, _⟩ : Oper)).run _ _ = _; exact (by unfold execOp; simp only [h29.ev 5 rfl]; exact rfl))⟩) fun a32 h31 => ?_
  refine wpk_take hS2 h31 14 rfl rfl (by decide) (fr rfl) (by kernel_rfl) (by kernel_rfl) (by kernel_rfl) (fun _ _ _ _ h => h) (.bool (getF M.V (at_ : Int) 8).isSome) (Or.inl ⟨Eq.refl true, fun w1 hSw => (by show (execOp _ (⟨_, .extract (.tmp 5) 1, _, _, _, _⟩ : Oper)).run _ _ = _; exact (by unfold execOp; simp only [h31.ev 5 rfl]; exact rfl))⟩) fun a34 h33 => ?_
  refine wpk_take hS2 h33 15 rfl rfl (by decide) (fr rfl) (by kernel_rfl) (by kernel_rfl) (by kernel_rfl) (fun _ _ _ _ h => h) (.int .i64 (((getF M.V (at_ : Int) 8).getD 0 : Nat) : Int)) (Or.inl ⟨Eq.refl true, fun w1 hSw => (by show (execOp _ (⟨_, .assign (.tmp 18), _, _, _, _⟩ : Oper)).run _ _ = _; exact (by unfold execOp; simp only [h33.ev 18 rfl]; exact rfl))⟩) fun a36 h35 => ?_
  refine wpk_take hS2 h35 16 rfl rfl (by decide) (fr rfl) (by kernel_rfl) (by kernel_rfl) (by kernel_rfl) (fun _ _ _ _ h => h) (.bool (getF M.V (at_ : Int) 8).isSome) (Or.inl ⟨Eq.refl true, fun w1 hSw => (by show (execOp _ (⟨_, .assign (.tmp 19), _, _, _, _⟩ : Oper)).run _ _ = _; exact (by unfold execOp; simp only [h35.ev 19 rfl]; exact rfl))⟩) fun a38 h37 => ?_
  refine wpAnyH_done (by kernel_rfl) ?_ _
  have h39 := h37.subs (l' := [(4, _), (3, _), (2, _), (0, _)]) rfl
  clear h37
  iterate 2 go_step
  cases hg : getF M.V (at_ : Int) 8 with
  | none =>
    have hok : (getF M.V (at_ : Int) 8).isSome = false := by rw [hg]; rfl
    have hEnd : endL M.V at_ size = 0 := by unfold endL; rw [← hEq, hg]
    have h40 := h39; rw [hok] at h40
    iterate 3 go_step
    refine wmk h40 rfl rfl rfl rfl 4 rfl (fun _ => rfl) fun a42 h41 => ?_
    refine wv h41 rfl rfl rfl rfl (.bool true) (run_not rfl (h41.ev 20 rfl)) fun a44 h43 => ?_
    refine wmk h43 rfl rfl rfl rfl 21 rfl (fun _ => rfl) fun a46 h45 => ?_
    refine wpk_skip h45 (by rw [wanted_of (g := 2) (want := false) (b := true) rfl (h45.yields (prev := 22) rfl (by simp))]; rfl) rfl (by decide) (fr rfl) fun a48 h47 => ?_
    refine wpk_skip h47 (by rw [wanted_of (g := 2) (want := false) (b := true) rfl (h47.yields (prev := 22) rfl (by simp))]; rfl) rfl (by decide) (fr rfl) fun a50 h49 => ?_
    refine wpk_skip h49 (by rw [wanted_of (g := 2) (want := false) (b := true) rfl (h49.yields (prev := 22) rfl (by simp))]; rfl) rfl (by decide) (fr rfl) fun a52 h51 => ?_
    refine wpk_skip h51 (by rw [wanted_of (g := 2) (want := false) (b := true) rfl (h51.yields (prev := 22) rfl (by simp))]; rfl) rfl (by decide) (fr rfl) fun a54 h53 => ?_
    refine wpk_skip h53 (by rw [wanted_of (g := 2) (want := false) (b := true) rfl (h53.yields (prev := 22) rfl (by simp))]; rfl) rfl (by decide) (fr rfl) fun a56 h55 => ?_
    refine wpk_skip h55 (by rw [wanted_of (g := 2) (want := false) (b := true) rfl (h55.yields (prev := 22) rfl (by simp))]; rfl) rfl (by decide) (fr rfl) fun a58 h57 => ?_
    refine wpk_skip h57 (by rw [wanted_of (g := 2) (want := false) (b := true) rfl (h57.yields (prev := 22) rfl (by simp))]; rfl) rfl (by decide) (fr rfl) fun a60 h59 => ?_
    refine wv h59 rfl rfl rfl rfl (.bool true) (run_pick rfl (h59.ev 22 rfl) rfl) fun a62 h61 => ?_
    have h63 := h61.subs (l' := [(30, _), (4, _), (3, _), (2, _), (0, _)]) rfl
    clear h61
    iterate 3 go_step
    refine wp_cond (t := true) (h63.ev 30 rfl) ?_
    simp only [if_true]
    have h64 := h63.subs (l' := [(4, _), (3, _), (2, _), (0, _)]) rfl
    clear h63
    iterate 2 go_step
    have h65 := h64.subs (l' := [(4, _), (3, _), (0, _)]) rfl
    clear h64
    refine wv h65 rfl rfl rfl rfl (.int .i64 0) rfl fun a67 h66 => ?_
    iterate 4 go_step
    simp only [Exit.then, Exit.inBlock]
    exact retNr h66.defs (h66.known (2, .int .i64 0) (by simp)) hEnd (Below.refl _ _).drew
  | some n =>
    have hok : (getF M.V (at_ : Int) 8).isSome = true := by rw [hg]; rfl
    have hn : (getF M.V (at_ : Int) 8).getD 0 = n := by rw [hg]; rfl
    by_cases hle : n ≤ size - 8
    · have hEnd : endL M.V at_ size = (getF M.V (at_ : Int) 8).getD 0 := by rw [hn]; unfold endL; rw [← hEq, hg]; exact if_pos hle
      have hgt : decide (((size - 8 : Nat) : Int) < (((getF M.V (at_ : Int) 8).getD 0 : Nat) : Int)) = false := decide_eq_false (by rw [hn]; omega)
      have h68 := h39; rw [hok] at h68
      iterate 3 go_step
      refine wmk h68 rfl rfl rfl rfl 4 rfl (fun _ => rfl) fun a70 h69 => ?_
      refine wv h69 rfl rfl rfl rfl (.bool false) (run_not rfl (h69.ev 20 rfl)) fun a72 h71 => ?_
      refine wmk h71 rfl rfl rfl rfl 21 rfl (fun _ => rfl) fun a74 h73 => ?_
      refine wpk_val h73 (by rw [wanted_of (g := 2) (want := false) (b := false) rfl (h73.yields (prev := 22) rfl (by simp))]; rfl) rfl (by decide) (fr rfl) (.int .i64 (((getF M.V (at_ : Int) 8).getD 0 : Nat) : Int)) (by unfold execOp; simp only [h73.ev 3 rfl]; rfl) fun a76 h75 => ?_
      refine wpk_val h75 (by rw [wanted_of (g := 2) (want := false) (b := false) rfl (h75.yields (prev := 22) rfl (by simp))]; rfl) rfl (by decide) (fr rfl) (.pointer (some ⟨lg, 0, none⟩)) (by unfold execOp; simp only [h75.ev 0 rfl]; rfl) fun a78 h77 => ?_
      refine wpk_val h77 (by rw [wanted_of (g := 2) (want := false) (b := false) rfl (h77.yields (prev := 22) rfl (by simp))]; rfl) rfl (by decide) (fr rfl) (.pointer (some ⟨lg, 0, none⟩)) (by unfold execOp; simp only [h77.ev 24 rfl]; exact rfl) fun a80 h79 => ?_
      refine wpk_val h79 (by rw [wanted_of (g := 2) (want := false) (b := false) rfl (h79.yields (prev := 22) rfl (by simp))]; rfl) rfl (by decide) (fr rfl) (.pointer (some ⟨lg, 2, none⟩)) (by unfold execOp; simp only [h79.ev 25 rfl]; exact run_v (fa_76_0_2 (lg) _)) fun a82 h81 => ?_
      refine wpk_val h81 (by rw [wanted_of (g := 2) (want := false) (b := false) rfl (h81.yields (prev := 22) rfl (by simp))]; rfl) rfl (by decide) (fr rfl) (.int .i64 (size : Int)) (by unfold execOp; simp only [h81.ev 26 rfl]; exact run_v (loadIP (HG1.out.l.cell (i := 2) (by show 2 < 3; omega)))) fun a84 h83 => ?_
      refine wpk_val h83 (by rw [wanted_of (g := 2) (want := false) (b := false) rfl (h83.yields (prev := 22) rfl (by simp))]; rfl) rfl (by decide) (fr rfl) (.int .i64 ((size - 8 : Nat) : Int)) (by unfold execOp; simp only [h83.ev 27 rfl]; exact run_v (subIP _ _ _ _ _ (by omega) (by omega) (by omega) _)) fun a86 h85 => ?_
      refine wpk_val h85 (by rw [wanted_of (g := 2) (want := false) (b := false) rfl (h85.yields (prev := 22) rfl (by simp))]; rfl) rfl (by decide) (fr rfl) (.bool false) (by unfold execOp; simp only [h85.ev 23 rfl, h85.ev 28 rfl]; exact run_v (gtIP _ _ _ _ _ hgt)) fun a88 h87 => ?_
      refine wv h87 rfl rfl rfl rfl (.bool false) (run_pick rfl (h87.ev 22 rfl) (by rw [if_neg (by simp)]; exact h87.ev 29 rfl)) fun a90 h89 => ?_
      have h91 := h89.subs (l' := [(30, _), (4, _), (3, _), (2, _), (0, _)]) rfl
      clear h89
      iterate 3 go_step
      refine wp_cond (t := false) (h91.ev 30 rfl) ?_
      simp only [Bool.false_eq_true, if_false]
      have h92 := h91.subs (l' := [(4, _), (3, _), (2, _), (0, _)]) rfl
      clear h91
      iterate 5 go_step
      refine wmk h92 rfl rfl rfl rfl 3 rfl (fun _ => rfl) fun a94 h93 => ?_
      have h95 := h93.subs (l' := [(31, _), (4, _), (3, _), (0, _)]) rfl
      clear h93
      refine wmk h95 rfl rfl rfl rfl 31 rfl (fun _ => rfl) fun a97 h96 => ?_
      have h98 := h96.subs (l' := [(2, _), (4, _), (3, _), (0, _)]) rfl
      clear h96
      iterate 4 go_step
      exact retNr h98.defs (h98.known (2, .int .i64 (((getF M.V (at_ : Int) 8).getD 0 : Nat) : Int)) (by simp)) hEnd (Below.refl _ _).drew
    · have hEnd : endL M.V at_ size = 0 := by unfold endL; rw [← hEq, hg]; exact if_neg hle
      have hgt : decide (((size - 8 : Nat) : Int) < (((getF M.V (at_ : Int) 8).getD 0 : Nat) : Int)) = true := decide_eq_true (by rw [hn]; omega)
      have h99 := h39; rw [hok] at h99
      iterate 3 go_step
      refine wmk h99 rfl rfl rfl rfl 4 rfl (fun _ => rfl) fun a101 h100 => ?_
      refine wv h100 rfl rfl rfl rfl (.bool false) (run_not rfl (h100.ev 20 rfl)) fun a103 h102 => ?_
      refine wmk h102 rfl rfl rfl rfl 21 rfl (fun _ => rfl) fun a105 h104 => ?_
      refine wpk_val h104 (by rw [wanted_of (g := 2) (want := false) (b := false) rfl (h104.yields (prev := 22) rfl (by simp))]; rfl) rfl (by decide) (fr rfl) (.int .i64 (((getF M.V (at_ : Int) 8).getD 0 : Nat) : Int)) (by unfold execOp; simp only [h104.ev 3 rfl]; rfl) fun a107 h106 => ?_
      refine wpk_val h106 (by rw [wanted_of (g := 2) (want := false) (b := false) rfl (h106.yields (prev := 22) rfl (by simp))]; rfl) rfl (by decide) (fr rfl) (.pointer (some ⟨lg, 0, none⟩)) (by unfold execOp; simp only [h106.ev 0 rfl]; rfl) fun a109 h108 => ?_
      refine wpk_val h108 (by rw [wanted_of (g := 2) (want := false) (b := false) rfl (h108.yields (prev := 22) rfl (by simp))]; rfl) rfl (by decide) (fr rfl) (.pointer (some ⟨lg, 0, none⟩)) (by unfold execOp; simp only [h108.ev 24 rfl]; exact rfl) fun a111 h110 => ?_
      refine wpk_val h110 (by rw [wanted_of (g := 2) (want := false) (b := false) rfl (h110.yields (prev := 22) rfl (by simp))]; rfl) rfl (by decide) (fr rfl) (.pointer (some ⟨lg, 2, none⟩)) (by unfold execOp; simp only [h110.ev 25 rfl]; exact run_v (fa_76_0_2 (lg) _)) fun a113 h112 => ?_
      refine wpk_val h112 (by rw [wanted_of (g := 2) (want := false) (b := false) rfl (h112.yields (prev := 22) rfl (by simp))]; rfl) rfl (by decide) (fr rfl) (.int .i64 (size : Int)) (by unfold execOp; simp only [h112.ev 26 rfl]; exact run_v (loadIP (HG1.out.l.cell (i := 2) (by show 2 < 3; omega)))) fun a115 h114 => ?_
      refine wpk_val h114 (by rw [wanted_of (g := 2) (want := false) (b := false) rfl (h114.yields (prev := 22) rfl (by simp))]; rfl) rfl (by decide) (fr rfl) (.int .i64 ((size - 8 : Nat) : Int)) (by unfold execOp; simp only [h114.ev 27 rfl]; exact run_v (subIP _ _ _ _ _ (by omega) (by omega) (by omega) _)) fun a117 h116 => ?_
      refine wpk_val h116 (by rw [wanted_of (g := 2) (want := false) (b := false) rfl (h116.yields (prev := 22) rfl (by simp))]; rfl) rfl (by decide) (fr rfl) (.bool true) (by unfold execOp; simp only [h116.ev 23 rfl, h116.ev 28 rfl]; exact run_v (gtIP _ _ _ _ _ hgt)) fun a119 h118 => ?_
      refine wv h118 rfl rfl rfl rfl (.bool true) (run_pick rfl (h118.ev 22 rfl) (by rw [if_neg (by simp)]; exact h118.ev 29 rfl)) fun a121 h120 => ?_
      have h122 := h120.subs (l' := [(30, _), (4, _), (3, _), (2, _), (0, _)]) rfl
      clear h120
      iterate 3 go_step
      refine wp_cond (t := true) (h122.ev 30 rfl) ?_
      simp only [if_true]
      have h123 := h122.subs (l' := [(4, _), (3, _), (2, _), (0, _)]) rfl
      clear h122
      iterate 2 go_step
      have h124 := h123.subs (l' := [(4, _), (3, _), (0, _)]) rfl
      clear h123
      refine wv h124 rfl rfl rfl rfl (.int .i64 0) rfl fun a126 h125 => ?_
      iterate 4 go_step
      simp only [Exit.then, Exit.inBlock]
      exact retNr h125.defs (h125.known (2, .int .i64 0) (by simp)) hEnd (Below.refl _ _).drew

set_option maxHeartbeats 4000000 in
theorem logKeepR_any {w : World} {lg g v d a at_ size : Nat} {M : MemM} (hg0 : LogRP w lg g v d a at_ size M) (q : Nat) (ab : Option Addr) (c : Nat) (b : List UInt8) (hr : RowB w ab c b) (hap : 0 < b.length → ∀ k, (∃ off, ab = some ⟨k, off, none⟩) → k ≠ v ∧ k ≠ a) (hin : q + b.length ≤ M.V.length) :
    Calls Tryz.prog 53 #[.pointer (some ⟨lg, 0, none⟩), .int .i64 (q : Int), .slice ab b.length c] w fun e w' => (∃ x, e = .returned x) ∧ LogRP w' lg g v d a at_ size (writeM M [⟨(q : Int), b⟩]) ∧ Turns (XM v d a) w w' := by
  have HG0 := hid hg0
  have hrow := hid hr
  clear hg0 hr
  go_enter Tryz.func53, Tryz.ntmps53
  iterate 3 go_step
  refine wpk_enter (N := 26) (l := [(0, .pointer (some ⟨lg, 0, none⟩)), (1, .int .i64 (q : Int)), (2, .slice ab b.length c)]) ⟨rfl, (by intro x hx; simp only [List.mem_cons, List.not_mem_nil, or_false] at hx; rcases hx with rfl | rfl | rfl <;> rfl), rfl⟩ fun a2 h1 => ?_
  refine wmk h1 rfl rfl rfl rfl 0 rfl (fun _ => rfl) fun a4 h3 => ?_
  refine wv h3 rfl rfl rfl rfl (.pointer (some ⟨lg, 0, none⟩)) (by unfold execOp; simp only [h3.ev 6 rfl]; exact rfl) fun a6 h5 => ?_
  refine wv h5 rfl rfl rfl rfl (.pointer (some ⟨lg, 0, none⟩)) (by unfold execOp; simp only [h5.ev 7 rfl]; exact run_v (fa_76_0_0 (lg) _)) fun a8 h7 => ?_
  refine wv h7 rfl rfl rfl rfl (.pointer (some ⟨g, 0, none⟩)) (by unfold execOp; simp only [h7.ev 8 rfl]; exact run_v (loadMR (HG0.out.l.cell (i := 0) (by show 0 < 3; omega)))) fun a10 h9 => ?_
  refine wmk h9 rfl rfl rfl rfl 1 rfl (fun _ => rfl) fun a12 h11 => ?_
  refine wmk h11 rfl rfl rfl rfl 2 rfl (fun _ => rfl) fun a14 h13 => ?_
  refine wpk_call h13 (wanted_none rfl) rfl (by decide) (fr rfl) (fun args => callP_79 args _) rfl #[.pointer (some ⟨g, 0, none⟩), .int .i64 (q : Int), .slice ab b.length c] (by simp only [List.map_toArray, List.map_cons, List.map_nil, h13.ev 9 rfl, h13.ev 10 rfl, h13.ev 11 rfl]) (R := fun xv w' => MemR w' g v d a (storeM M q b) ∧ Turns (fun k => k = v ∨ k = a) w w') ((storeR_in HG0.out.m q ab c b hrow.out hap hin).mono fun e w' q => ⟨_, q.1, q.2⟩) fun a16 v1 w1 r1 h15 => ?_
  have HG1 : Hid (LogRP w1 lg g v d a at_ size (storeM M q b)) := hid (HG0.out.next r1.1 r1.2 (by intro k hk; rcases hk with e | e; exact .inl e; exact .inr (.inr e)))
  have h17 := h15.subs (l' := [(0, _), (1, _), (2, _)]) rfl
  clear h15
  iterate 5 go_step
  refine wmk h17 rfl rfl rfl rfl 0 rfl (fun _ => rfl) fun a19 h18 => ?_
  refine wv h18 rfl rfl rfl rfl (.pointer (some ⟨lg, 0, none⟩)) (by unfold execOp; simp only [h18.ev 13 rfl]; exact rfl) fun a21 h20 => ?_
  refine wv h20 rfl rfl rfl rfl (.pointer (some ⟨lg, 0, none⟩)) (by unfold execOp; simp only [h20.ev 14 rfl]; exact run_v (fa_76_0_0 (lg) _)) fun a23 h22 => ?_
  refine wv h22 rfl rfl rfl rfl (.pointer (some ⟨g, 0, none⟩)) (by unfold execOp; simp only [h22.ev 15 rfl]; exact run_v (loadMR (HG1.out.l.cell (i := 0) (by show 0 < 3; omega)))) fun a25 h24 => ?_
  refine wmk h24 rfl rfl rfl rfl 1 rfl (fun _ => rfl) fun a27 h26 => ?_
  refine wmk h26 rfl rfl rfl rfl 2 rfl (fun _ => rfl) fun a29 h28 => ?_
  refine wv h28 rfl rfl rfl rfl (.int .i64 (b.length : Int)) (run_lenBP rfl (h28.ev 18 rfl) _) fun a31 h30 => ?_
  refine wpk_call h30 (wanted_none rfl) rfl (by decide) (fr rfl) (fun args => callP_80 args _) rfl #[.pointer (some ⟨g, 0, none⟩), .int .i64 (q : Int), .int .i64 (b.length : Int)] (by simp only [List.map_toArray, List.map_cons, List.map_nil, h30.ev 16 rfl, h30.ev 17 rfl, h30.ev 19 rfl]) (R := fun xv w' => MemR w' g v d a (flushM (storeM M q b) q b.length) ∧ Turns (fun k => k = a) w1 w') ((flushR_in HG1.out.m q b.length (by rw [storeM_len hin]; exact hin)).mono fun e w' q => ⟨_, q.1, q.2⟩) fun a33 v2 w2 r2 h32 => ?_
  have HG2 : Hid (LogRP w2 lg g v d a at_ size (flushM (storeM M q b) q b.length)) := hid (HG1.out.next r2.1 r2.2 (by intro k hk; exact .inr (.inr hk)))
  have h34 := h32.subs (l' := [(0, _), (1, _), (2, _)]) rfl
  clear h32
  iterate 4 go_step
  refine wmk h34 rfl rfl rfl rfl 0 rfl (fun _ => rfl) fun a36 h35 => ?_
  refine wv h35 rfl rfl rfl rfl (.pointer (some ⟨lg, 0, none⟩)) (by unfold execOp; simp only [h35.ev 21 rfl]; exact rfl) fun a38 h37 => ?_
  refine wv h37 rfl rfl rfl rfl (.pointer (some ⟨lg, 0, none⟩)) (by unfold execOp; simp only [h37.ev 22 rfl]; exact run_v (fa_76_0_0 (lg) _)) fun a40 h39 => ?_
  refine wv h39 rfl rfl rfl rfl (.pointer (some ⟨g, 0, none⟩)) (by unfold execOp; simp only [h39.ev 23 rfl]; exact run_v (loadMR (HG2.out.l.cell (i := 0) (by show 0 < 3; omega)))) fun a42 h41 => ?_
  refine wpk_call h41 (wanted_none rfl) rfl (by decide) (fr rfl) (fun args => callP_81 args _) rfl #[.pointer (some ⟨g, 0, none⟩)] (by simp only [List.map_toArray, List.map_cons, List.map_nil, h41.ev 24 rfl]) (R := fun xv w' => MemR w' g v d a (fenceM (flushM (storeM M q b) q b.length)) ∧ Turns (fun k => k = d ∨ k = a) w2 w') ((fenceR_any HG2.out.m).mono fun e w' q => by obtain ⟨⟨x, q1⟩, q2⟩ := q; exact ⟨x, q1, q2⟩) fun a44 v3 w3 r3 h43 => ?_
  have HG3 : Hid (LogRP w3 lg g v d a at_ size (fenceM (flushM (storeM M q b) q b.length))) := hid (HG2.out.next r3.1 r3.2 (by intro k hk; exact .inr hk))
  have h45 := h43.subs (l' := [(0, _), (1, _), (2, _)]) rfl
  clear h43
  iterate 2 go_step
  exact bodyPost_normP (results_none rfl _ _ _) h45.defs ⟨⟨_, rfl⟩, by rw [writeM_one hin]; exact HG3.out, (r1.2.mono (by intro k hk; rcases hk with e | e; exact .inl e; exact .inr (.inr e))).trans ((r2.2.mono (by intro k hk; exact .inr (.inr hk))).trans (r3.2.mono (by intro k hk; exact .inr hk)))⟩

set_option maxHeartbeats 4000000 in
theorem readR_any {w : World} {lg g v d a at_ size : Nat} {M : MemM} (hg0 : LogRP w lg g v d a at_ size M) (hok : LogOk at_ size M) :
    Calls Tryz.prog 52 #[.pointer (some ⟨lg, 0, none⟩)] w fun e w' => ∃ x, e = .returned x ∧ ∃ ra rc rs, x = .tuple #[.slice ra rs.length rc, .int .i64 ((logR M.V at_ size).2 : Int)] ∧ rs.map (·.2.2) = (logR M.V at_ size).1 ∧ RecsP w' w.heap.size ra rc rs ∧ Below w.heap.size w w' := by
  have HG0 := hid hg0
  have hok2 := hok
  obtain ⟨s1, s2, s3, s4⟩ := hok2
  obtain ⟨en, hen⟩ : ∃ x, endL M.V at_ size = x := ⟨_, rfl⟩
  have hel := endL_le M.V at_ size
  rw [hen] at hel
  obtain ⟨b, hb⟩ : ∃ b, (M.V.drop (at_ + 8)).take en = b := ⟨_, rfl⟩
  have hbl : b.length = en := by rw [← hb, List.length_take, List.length_drop]; omega
  have HBV := hid hb
  have HBV2 : Hid (b = bodyL M.V at_ size) := hid (by unfold bodyL; rw [hen]; exact hb.symm)
  have HEN := hid hen
  clear hg0 hb hen
  go_enter Tryz.func52, Tryz.ntmps52
  iterate 3 go_step
  refine wpk_enter (N := 56) (l := [(0, .pointer (some ⟨lg, 0, none⟩))]) ⟨rfl, (by intro x hx; simp only [List.mem_cons, List.not_mem_nil, or_false] at hx; rcases hx with rfl <;> rfl), rfl⟩ fun a2 h1 => ?_
  refine wv h1 rfl rfl rfl rfl (.slice none 0 0) rfl fun a4 h3 => ?_
  refine wv h3 rfl rfl rfl rfl (.int .i64 0) rfl fun a6 h5 => ?_
  iterate 5 go_step
  refine wv h5 rfl rfl rfl rfl (.slice none 0 0) rfl fun a8 h7 => ?_
  iterate 4 go_step
  have HG1 := hid (HG0.out.mono (Below.refl _ _).drew)
  refine wp_region_held_drew (S := fun w' => LogRP w' lg g v d a at_ size M) (by kernel_rfl) HG1.out (fun hS1 => ?_)
  refine wpk_take hS1 h7 0 rfl rfl (by decide) (fr rfl) (by kernel_rfl) (by kernel_rfl) (by kernel_rfl) (fun _ _ _ _ h => h) (.slice none 0 0) (Or.inl ⟨Eq.refl true, fun w1 hSw => (by show (execOp _ (⟨_, .move (.tmp 4), _, _, _, _⟩ : Oper)).run _ _ = _; exact (by unfold execOp; simp only [h7.ev 4 rfl]; exact rfl))⟩) fun a10 h9 => ?_
  refine wpk_take hS1 h9 1 rfl rfl (by decide) (fr rfl) (by kernel_rfl) (by kernel_rfl) (by kernel_rfl) (fun _ _ _ _ h => h) (.pointer (some ⟨lg, 0, none⟩)) (Or.inl ⟨Eq.refl true, fun w1 hSw => (by show (execOp _ (⟨_, .move (.tmp 0), _, _, _, _⟩ : Oper)).run _ _ = _; exact (by unfold execOp; simp only [h9.ev 0 rfl]; exact rfl))⟩) fun a12 h11 => ?_
  refine wpk_take hS1 h11 2 rfl rfl (by decide) (fr rfl) (by kernel_rfl) (by kernel_rfl) (by kernel_rfl) (fun _ _ _ _ h => h) (.pointer (some ⟨lg, 0, none⟩)) (Or.inl ⟨Eq.refl true, fun w1 hSw => (by show (execOp _ (⟨_, .nilCheck (.tmp 11), _, _, _, _⟩ : Oper)).run _ _ = _; exact (by unfold execOp; simp only [h11.ev 11 rfl]; exact rfl))⟩) fun a14 h13 => ?_
  refine wpk_take hS1 h13 3 rfl rfl (by decide) (fr rfl) (by kernel_rfl) (by kernel_rfl) (by kernel_rfl) (fun _ _ _ _ h => h) (.pointer (some ⟨lg, 0, none⟩)) (Or.inl ⟨Eq.refl true, fun w1 hSw => (by show (execOp _ (⟨_, .fieldAddr 54 (.tmp 12) 0, _, _, _, _⟩ : Oper)).run _ _ = _; exact (by unfold execOp; simp only [h13.ev 12 rfl]; exact run_v (fa_76_0_0 (lg) _)))⟩) fun a16 h15 => ?_
  refine wpk_take hS1 h15 4 rfl rfl (by decide) (fr rfl) (by kernel_rfl) (by kernel_rfl) (by kernel_rfl) (fun _ _ _ _ h => h) (.pointer (some ⟨g, 0, none⟩)) (Or.inl ⟨Eq.refl true, fun w1 hSw => (by show (execOp _ (⟨_, .load 37 (.tmp 13), _, _, _, _⟩ : Oper)).run _ _ = _; exact (by unfold execOp; simp only [h15.ev 13 rfl]; exact run_v (loadMR (hSw.l.cell (i := 0) (by show 0 < 3; omega)))))⟩) fun a18 h17 => ?_
  refine wpk_take hS1 h17 5 rfl rfl (by decide) (fr rfl) (by kernel_rfl) (by kernel_rfl) (by kernel_rfl) (fun _ _ _ _ h => h) (.pointer (some ⟨g, 0, none⟩)) (Or.inl ⟨Eq.refl true, fun w1 hSw => (by show (execOp _ (⟨_, .nilCheck (.tmp 14), _, _, _, _⟩ : Oper)).run _ _ = _; exact (by unfold execOp; simp only [h17.ev 14 rfl]; exact rfl))⟩) fun a20 h19 => ?_
  refine wpk_take hS1 h19 6 rfl rfl (by decide) (fr rfl) (by kernel_rfl) (by kernel_rfl) (by kernel_rfl) (fun _ _ _ _ h => h) (.pointer (some ⟨g, 0, none⟩)) (Or.inl ⟨Eq.refl true, fun w1 hSw => (by show (execOp _ (⟨_, .fieldAddr 61 (.tmp 15) 0, _, _, _, _⟩ : Oper)).run _ _ = _; exact (by unfold execOp; simp only [h19.ev 15 rfl]; exact run_v (fa_90_0_0 (g) _)))⟩) fun a22 h21 => ?_
  refine wpk_take hS1 h21 7 rfl rfl (by decide) (fr rfl) (by kernel_rfl) (by kernel_rfl) (by kernel_rfl) (fun _ _ _ _ h => h) (.slice (some ⟨v, 0, none⟩) M.V.length M.V.length) (Or.inl ⟨Eq.refl true, fun w1 hSw => (by show (execOp _ (⟨_, .load 26 (.tmp 16), _, _, _, _⟩ : Oper)).run _ _ = _; exact (by unfold execOp; simp only [h21.ev 16 rfl]; exact run_v (loadYP hSw.m.cells.1)))⟩) fun a24 h23 => ?_
  refine wpk_take hS1 h23 8 rfl rfl (by decide) (fr rfl) (by kernel_rfl) (by kernel_rfl) (by kernel_rfl) (fun _ _ _ _ h => h) (.pointer (some ⟨lg, 0, none⟩)) (Or.inl ⟨Eq.refl true, fun w1 hSw => (by show (execOp _ (⟨_, .move (.tmp 0), _, _, _, _⟩ : Oper)).run _ _ = _; exact (by unfold execOp; simp only [h23.ev 0 rfl]; exact rfl))⟩) fun a26 h25 => ?_
  refine wpk_take hS1 h25 9 rfl rfl (by decide) (fr rfl) (by kernel_rfl) (by kernel_rfl) (by kernel_rfl) (fun _ _ _ _ h => h) (.pointer (some ⟨lg, 0, none⟩)) (Or.inl ⟨Eq.refl true, fun w1 hSw => (by show (execOp _ (⟨_, .nilCheck (.tmp 18), _, _, _, _⟩ : Oper)).run _ _ = _; exact (by unfold execOp; simp only [h25.ev 18 rfl]; exact rfl))⟩) fun a28 h27 => ?_
  refine wpk_take hS1 h27 10 rfl rfl (by decide) (fr rfl) (by kernel_rfl) (by kernel_rfl) (by kernel_rfl) (fun _ _ _ _ h => h) (.pointer (some ⟨lg, 1, none⟩)) (Or.inl ⟨Eq.refl true, fun w1 hSw => (by show (execOp _ (⟨_, .fieldAddr 54 (.tmp 19) 1, _, _, _, _⟩ : Oper)).run _ _ = _; exact (by unfold execOp; simp only [h27.ev 19 rfl]; exact run_v (fa_76_0_1 (lg) _)))⟩) fun a30 h29 => ?_
  refine wpk_take hS1 h29 11 rfl rfl (by decide) (fr rfl) (by kernel_rfl) (by kernel_rfl) (by kernel_rfl) (fun _ _ _ _ h => h) (.int .i64 (at_ : Int)) (Or.inl ⟨Eq.refl true, fun w1 hSw => (by show (execOp _ (⟨_, .load 3 (.tmp 20), _, _, _, _⟩ : Oper)).run _ _ = _; exact (by unfold execOp; simp only [h29.ev 20 rfl]; exact run_v (loadIP (hSw.l.cell (i := 1) (by show 1 < 3; omega)))))⟩) fun a32 h31 => ?_
  refine wpk_take hS1 h31 12 rfl rfl (by decide) (fr rfl) (by kernel_rfl) (by kernel_rfl) (by kernel_rfl) (fun _ _ _ _ h => h) (.int .i64 ((at_ + 8 : Nat) : Int)) (Or.inl ⟨Eq.refl true, fun w1 hSw => (by show (execOp _ (⟨_, .binOp .add 3 (.tmp 21) (.const (.int .i64 8)) 3, _, _, _, _⟩ : Oper)).run _ _ = _; exact (by unfold execOp; simp only [h31.ev 21 rfl]; exact run_v (addNP _ _ _ _ _ (by omega) (by omega) (by omega) _)))⟩) fun a34 h33 => ?_
  refine wpk_take hS1 h33 13 rfl rfl (by decide) (fr rfl) (by kernel_rfl) (by kernel_rfl) (by kernel_rfl) (fun _ _ _ _ h => h) (.pointer (some ⟨lg, 0, none⟩)) (Or.inl ⟨Eq.refl true, fun w1 hSw => (by show (execOp _ (⟨_, .move (.tmp 0), _, _, _, _⟩ : Oper)).run _ _ = _; exact (by unfold execOp; simp only [h33.ev 0 rfl]; exact rfl))⟩) fun a36 h35 => ?_
  refine wpk_take hS1 h35 14 rfl rfl (by decide) (fr rfl) (by kernel_rfl) (by kernel_rfl) (by kernel_rfl) (fun _ _ _ _ h => h) (.pointer (some ⟨lg, 0, none⟩)) (Or.inl ⟨Eq.refl true, fun w1 hSw => (by show (execOp _ (⟨_, .nilCheck (.tmp 23), _, _, _, _⟩ : Oper)).run _ _ = _; exact (by unfold execOp; simp only [h35.ev 23 rfl]; exact rfl))⟩) fun a38 h37 => ?_
  refine wpk_take hS1 h37 15 rfl rfl (by decide) (fr rfl) (by kernel_rfl) (by kernel_rfl) (by kernel_rfl) (fun _ _ _ _ h => h) (.pointer (some ⟨lg, 1, none⟩)) (Or.inl ⟨Eq.refl true, fun w1 hSw => (by show (execOp _ (⟨_, .fieldAddr 54 (.tmp 24) 1, _, _, _, _⟩ : Oper)).run _ _ = _; exact (by unfold execOp; simp only [h37.ev 24 rfl]; exact run_v (fa_76_0_1 (lg) _)))⟩) fun a40 h39 => ?_
  refine wpk_take hS1 h39 16 rfl rfl (by decide) (fr rfl) (by kernel_rfl) (by kernel_rfl) (by kernel_rfl) (fun _ _ _ _ h => h) (.int .i64 (at_ : Int)) (Or.inl ⟨Eq.refl true, fun w1 hSw => (by show (execOp _ (⟨_, .load 3 (.tmp 25), _, _, _, _⟩ : Oper)).run _ _ = _; exact (by unfold execOp; simp only [h39.ev 25 rfl]; exact run_v (loadIP (hSw.l.cell (i := 1) (by show 1 < 3; omega)))))⟩) fun a42 h41 => ?_
  refine wpk_take hS1 h41 17 rfl rfl (by decide) (fr rfl) (by kernel_rfl) (by kernel_rfl) (by kernel_rfl) (fun _ _ _ _ h => h) (.int .i64 ((at_ + 8 : Nat) : Int)) (Or.inl ⟨Eq.refl true, fun w1 hSw => (by show (execOp _ (⟨_, .binOp .add 3 (.tmp 26) (.const (.int .i64 8)) 3, _, _, _, _⟩ : Oper)).run _ _ = _; exact (by unfold execOp; simp only [h41.ev 26 rfl]; exact run_v (addNP _ _ _ _ _ (by omega) (by omega) (by omega) _)))⟩) fun a44 h43 => ?_
  refine wpk_take hS1 h43 18 rfl rfl (by decide) (fr rfl) (by kernel_rfl) (by kernel_rfl) (by kernel_rfl) (fun _ _ _ _ h => h) (.pointer (some ⟨lg, 0, none⟩)) (Or.inl ⟨Eq.refl true, fun w1 hSw => (by show (execOp _ (⟨_, .move (.tmp 0), _, _, _, _⟩ : Oper)).run _ _ = _; exact (by unfold execOp; simp only [h43.ev 0 rfl]; exact rfl))⟩) fun a46 h45 => ?_
  refine wpk_only 19 rfl rfl (by kernel_rfl) fun K hK => op_call h45 rfl (by decide) (fr rfl) (fun args => callP_59 args _) rfl #[.pointer (some ⟨lg, 0, none⟩)] (by simp only [List.map_toArray, List.map_cons, List.map_nil, h45.ev 28 rfl]) (R := fun v' w' => v' = .int .i64 (en : Int) ∧ Below w.drew.heap.size w.drew w') ((by have z := endR_any HG1.out hok; rw [HEN.out] at z; exact z)) fun a48 v2 w2 r2 h47 => hK _ _ (HG1.out.mono r2.2) fun hS2 => ?_
  clear hK K
  obtain ⟨rfl, b2⟩ := r2
  have HG2 := hid (HG1.out.mono b2); have B2 : Hid (Below w.heap.size w w2) := hid ((Below.refl _ w).drew.trans b2); clear b2
  refine wpk_take hS2 h47 20 rfl rfl (by decide) (fr rfl) (by kernel_rfl) (by kernel_rfl) (by kernel_rfl) (fun _ _ _ _ h => h) (.int .i64 ((at_ + 8 + en : Nat) : Int)) (Or.inl ⟨Eq.refl true, fun w1 hSw => (by show (execOp _ (⟨_, .binOp .add 3 (.tmp 27) (.tmp 29) 3, _, _, _, _⟩ : Oper)).run _ _ = _; exact (by unfold execOp; simp only [h47.ev 27 rfl, h47.ev 29 rfl]; exact run_v (addNP _ _ _ _ _ (by omega) (by omega) (by omega) _)))⟩) fun a50 h49 => ?_
  obtain ⟨ad, hsl, hrow⟩ := sliceV HG2.out.m (at_ + 8) (at_ + 8 + en) (by omega) (by omega) (by omega)
  rw [show at_ + 8 + en - (at_ + 8) = en by omega] at hsl hrow; rw [HBV.out] at hrow
  refine wpk_take hS2 h49 21 rfl rfl (by decide) (fr rfl) (by kernel_rfl) (by kernel_rfl) (by kernel_rfl) (fun _ _ _ _ h => h) (.slice (some ad) en (M.V.length - (at_ + 8))) (Or.inl ⟨Eq.refl true, fun w1 hSw => (by show (execOp _ (⟨_, .slice 26 (.tmp 17) (some (.tmp 22)) (some (.tmp 30)) none, _, _, _, _⟩ : Oper)).run _ _ = _; exact (by unfold execOp; simp only [Option.map_some, Option.map_none, h49.ev 17 rfl, h49.ev 22 rfl, h49.ev 30 rfl]; exact run_v (hsl _)))⟩) fun a52 h51 => ?_
  have hrow' : Row w2 1 (some ad) en (M.V.length - (at_ + 8)) (b.map byteV) := by have z := hrow; unfold RowB at z; rw [hbl] at z; exact z
  refine wpk_only 22 rfl rfl (by kernel_rfl) fun K hK => op_append h51 rfl (by decide) (fr rfl) (.tmp 10) (.tmp 31) rfl E8 w.heap.size (h51.ev 10 rfl) (h51.ev 31 rfl) (Own.nil _ _ _ _) hrow' (byteV_one b) (by omega) (by omega) B2.out.size fun a54 ba bc w3 o3 g3 b3 h53 => hK _ _ (HG2.out.keep b3 g3) fun hS3 => ?_
  clear hK K
  have HB3 : Hid (OwnB w3 w.heap.size ba bc b) := hid (by have z := o3; rw [Nat.zero_add, List.nil_append] at z; unfold OwnB; rw [hbl]; exact z)
  have B3 := hid (B2.out.trans b3); clear o3 g3 b3 hrow' hrow hsl
  rw [show 0 + en = b.length by omega] at h53
  have h55 := h53.subs (l' := [(32, _), (31, _), (30, _), (29, _), (28, _), (27, _), (26, _), (25, _), (24, _), (23, _), (22, _), (21, _), (20, _), (19, _), (18, _), (17, _), (16, _), (15, _), (14, _), (13, _), (12, _), (11, _), (10, _), (3, _), (2, _), (0, _)]) rfl
  clear h53
  refine wpk_take hS3 h55 23 rfl rfl (by decide) (fr rfl) (by kernel_rfl) (by kernel_rfl) (by kernel_rfl) (fun _ _ _ _ h => h) (.slice ba b.length bc) (Or.inl ⟨Eq.refl true, fun w1 hSw => (by show (execOp _ (⟨_, .assign (.tmp 32), _, _, _, _⟩ : Oper)).run _ _ = _; exact (by unfold execOp; simp only [h55.ev 32 rfl]; exact rfl))⟩) fun a57 h56 => ?_
  refine wpAnyH_done (by kernel_rfl) ?_ _
  have h58 := h56.subs (l' := [(4, _), (3, _), (2, _), (0, _)]) rfl
  clear h56
  iterate 4 go_step
  refine wv h58 rfl rfl rfl rfl (.slice none 0 0) rfl fun a60 h59 => ?_
  iterate 5 go_step
  refine wv h59 rfl rfl rfl rfl (.int .i64 0) rfl fun a62 h61 => ?_
  iterate 5 go_step
  have h63 := h61.subs (l' := [(5, _), (6, _), (4, _), (0, _)]) rfl
  clear h61
  refine wp_loop (I := fun a' w' => ∃ (u k : Nat) (ra : Option Addr) (rc : Nat) (rs : List (Option Addr × Nat × List PtM)), u ≤ b.length ∧ Kn 56 [(5, .slice ra rs.length rc), (6, .int .i64 (u : Int)), (4, .slice ba b.length bc), (0, .pointer (some ⟨lg, 0, none⟩))] a' ∧ OwnB w' w.heap.size ba bc b ∧ RecsP w' w.heap.size ra rc rs ∧ Below w.heap.size w w' ∧ readL b = readR b k u (rs.map (·.2.2)) ∧ b.length - u < k ∧ rs.length ≤ u) (μ := fun a' _ => b.length - (intOf (a'.eval (.tmp 6))).toNat) ⟨0, b.length + 1, none, 0, [], Nat.zero_le _, h63, HB3.out, RecsP.nil _ _, B3.out, rfl, by omega, Nat.le_refl _⟩ ?_
  clear HB3 B3 h63
  rintro aL wL ⟨u, k, ra, rc, rs, hu, hK, hB, hRS, hBL, hrd, huk, hru⟩
  have HB := hid hB; have HRS := hid hRS; have HBL := hid hBL; have HRD := hid hrd; clear hB hRS hBL hrd
  obtain ⟨k, rfl⟩ : ∃ j, k = j + 1 := ⟨k - 1, by omega⟩
  by_cases hlt : u < b.length
  · have hd0 : decide ((u : Int) < (b.length : Int)) = true := decide_eq_true (by omega)
    iterate 4 go_step
    refine wmk hK rfl rfl rfl rfl 6 rfl (fun _ => rfl) fun a65 h64 => ?_
    refine wmk h64 rfl rfl rfl rfl 4 rfl (fun _ => rfl) fun a67 h66 => ?_
    refine wv h66 rfl rfl rfl rfl (.int .i64 (b.length : Int)) (run_lenBP rfl (h66.ev 34 rfl) _) fun a69 h68 => ?_
    refine wv h68 rfl rfl rfl rfl (.bool true) (by unfold execOp; simp only [h68.ev 33 rfl, h68.ev 35 rfl]; exact run_v (ltIP _ _ _ _ _ hd0)) fun a71 h70 => ?_
    have h72 := h70.subs (l' := [(36, _), (5, _), (6, _), (4, _), (0, _)]) rfl
    clear h70
    iterate 3 go_step
    refine wp_cond (t := true) (h72.ev 36 rfl) ?_
    simp only [if_true]
    have h73 := h72.subs (l' := [(5, _), (6, _), (4, _), (0, _)]) rfl
    clear h72
    iterate 6 go_step
    refine wmk h73 rfl rfl rfl rfl 4 rfl (fun _ => rfl) fun a75 h74 => ?_
    refine wmk h74 rfl rfl rfl rfl 6 rfl (fun _ => rfl) fun a77 h76 => ?_
    obtain ⟨dp, hsl, hrow⟩ := sliceL HB.out.row u hu
    have hyl : (b.drop u).length = b.length - u := by rw [List.length_drop]
    refine wv h76 rfl rfl rfl rfl (.slice dp (b.length - u) (bc - u)) (by unfold execOp; simp only [Option.map_some, Option.map_none, h76.ev 38 rfl, h76.ev 39 rfl]; exact run_v (hsl _)) fun a79 h78 => ?_
    have hdc := decodeR_any hrow (by omega); rw [hyl, ← decD_decR] at hdc
    refine wpk_call h78 (wanted_none rfl) rfl (by decide) (fr rfl) (fun args => callP_15 args _) rfl #[.slice dp (b.length - u) (bc - u)] (by simp only [List.map_toArray, List.map_cons, List.map_nil, h78.ev 40 rfl]) (R := fun v' w' => ∃ la lc, v' = .tuple #[.slice la (decD (b.drop u)).1.length lc, .int .i64 (decD (b.drop u)).2.1, .int .i64 (decD (b.drop u)).2.2] ∧ OwnPt w' wL.heap.size la lc (decD (b.drop u)).1 ∧ Below wL.heap.size wL w') (hdc) fun a81 v5 w5 r5 h80 => ?_
    obtain ⟨la, lc, rfl, o5, b5⟩ := r5
    obtain ⟨D, hD⟩ : ∃ D, D = decD (b.drop u) := ⟨_, rfl⟩
    rw [← hD] at o5 h80
    have HB5 := hid (Own.mono HB.out b5); have HRS5 := hid (HRS.out.mono b5); have HO5 := hid (Own.low o5 HBL.out.size); have HBL5 := hid (kept_trans HBL.out b5); have HDD := hid hD; clear o5 b5 hD hdc
    refine wmk h80 rfl rfl rfl rfl 41 rfl (fun _ => rfl) fun a83 h82 => ?_
    refine wv h82 rfl rfl rfl rfl (.slice la D.1.length lc) (by unfold execOp; simp only [h82.ev 37 rfl]; exact rfl) fun a85 h84 => ?_
    refine wv h84 rfl rfl rfl rfl (.int .i64 D.2.1) (by unfold execOp; simp only [h84.ev 37 rfl]; exact rfl) fun a87 h86 => ?_
    refine wv h86 rfl rfl rfl rfl (.int .i64 D.2.2) (by unfold execOp; simp only [h86.ev 37 rfl]; exact rfl) fun a89 h88 => ?_
    refine wmk h88 rfl rfl rfl rfl 42 rfl (fun _ => rfl) fun a91 h90 => ?_
    refine wmk h90 rfl rfl rfl rfl 43 rfl (fun _ => rfl) fun a93 h92 => ?_
    refine wmk h92 rfl rfl rfl rfl 44 rfl (fun _ => rfl) fun a95 h94 => ?_
    have h96 := h94.subs (l' := [(9, _), (8, _), (7, _), (5, _), (6, _), (4, _), (0, _)]) rfl
    clear h94
    iterate 4 go_step
    have HR1 : Hid (readL b = if D.2.2 = 0 then readR b k (u + D.2.1.toNat) (rs.map (·.2.2) ++ [D.1]) else (rs.map (·.2.2), u)) := hid (by rw [HRD.out, HDD.out]; rfl)
    by_cases hD0 : D.2.2 = 0
    · have hbad : (D.2.2 != 0) = false := by rw [hD0]; rfl
      obtain ⟨n, hn, hn1, hn2⟩ := decD_n (xs := b.drop u) (by rw [← HDD.out]; exact hD0)
      rw [← HDD.out] at hn
      rw [hyl] at hn2
      rw [hn] at h96
      iterate 2 go_step
      refine wmk h96 rfl rfl rfl rfl 9 rfl (fun _ => rfl) fun a98 h97 => ?_
      refine wv h97 rfl rfl rfl rfl (.bool false) (by unfold execOp; simp only [h97.ev 45 rfl]; exact run_v (neEP _ _ _ _ _ hbad)) fun a100 h99 => ?_
      have h101 := h99.subs (l' := [(46, _), (9, _), (8, _), (7, _), (5, _), (6, _), (4, _), (0, _)]) rfl
      clear h99
      iterate 3 go_step
      refine wp_cond (t := false) (h101.ev 46 rfl) ?_
      simp only [Bool.false_eq_true, if_false]
      have h102 := h101.subs (l' := [(9, _), (8, _), (7, _), (5, _), (6, _), (4, _), (0, _)]) rfl
      clear h101
      iterate 5 go_step
      refine wmk h102 rfl rfl rfl rfl 5 rfl (fun _ => rfl) fun a104 h103 => ?_
      refine wmk h103 rfl rfl rfl rfl 7 rfl (fun _ => rfl) fun a106 h105 => ?_
      refine wv h105 rfl rfl rfl rfl (.slice (some ⟨w5.heap.size, 0, none⟩) 1 1) (by unfold execOp; simp only [List.map_toArray, List.map_cons, List.map_nil, h105.ev 48 rfl]; exact run_v (buildRec _ _ _ _)) fun a108 h107 => ?_
      obtain ⟨w6, hw6⟩ : ∃ x, x = w5.alloc (.cells #[.slice la D.1.length lc] 44) := ⟨_, rfl⟩
      have b6 : Below w5.heap.size w5 w6 := by rw [hw6]; exact albO _ _
      have R6 : Row w6 1 (some ⟨w5.heap.size, 0, none⟩) 1 1 [.slice la D.1.length lc] := by rw [hw6]; exact row_new1P w5 _ _
      have HB6 := hid (Own.mono HB5.out b6); have HRS6 := hid (HRS5.out.mono b6); have HO6 := hid (Own.mono HO5.out b6); have HBL6 := hid (kept_trans HBL5.out b6); have HR6 := hid R6; clear b6 R6
      rw [← hw6]; clear hw6
      refine wpl_append rfl (.tmp 47) (.tmp 49) rfl ERec w.heap.size (h107.ev 47 rfl) (h107.ev 49 rfl) HRS6.out.o HR6.out (by intro x hx; simp only [List.mem_cons, List.not_mem_nil, or_false] at hx; subst hx; rfl) (by omega) (by omega) HBL6.out.size ?_
      intro ra2 rc2 w7 o7 g7 b7
      refine wpk_enter (h107.put (d := 50) (by decide) (fr rfl) (.slice ra2 (rs.length + 1) rc2)) fun a110 h109 => ?_
      have HB7 := hid (own_past HB6.out HRS6.out.o (by decide) g7); have HBL7 := hid (HBL6.out.trans b7)
      have HRS7 : Hid (RecsP w7 w.heap.size ra2 rc2 (rs ++ [(la, lc, D.1)])) := hid ⟨by rw [List.length_append, List.map_append]; exact o7, fun r hr => by rcases List.mem_append.1 hr with q | q; exact own_past (HRS6.out.i r q) HRS6.out.o (by decide) g7; rw [List.mem_singleton.1 q]; exact own_past HO6.out HRS6.out.o (by decide) g7⟩
      clear o7 g7 b7
      have h111 := h109.subs (l' := [(50, _), (49, _), (48, _), (47, _), (9, _), (8, _), (7, _), (6, _), (4, _), (0, _)]) rfl
      clear h109
      refine wmk h111 rfl rfl rfl rfl 50 rfl (fun _ => rfl) fun a113 h112 => ?_
      have h114 := h112.subs (l' := [(5, _), (9, _), (8, _), (7, _), (6, _), (4, _), (0, _)]) rfl
      clear h112
      iterate 4 go_step
      refine wmk h114 rfl rfl rfl rfl 6 rfl (fun _ => rfl) fun a116 h115 => ?_
      refine wmk h115 rfl rfl rfl rfl 8 rfl (fun _ => rfl) fun a118 h117 => ?_
      refine wv h117 rfl rfl rfl rfl (.int .i64 ((u + n : Nat) : Int)) (by unfold execOp; simp only [h117.ev 51 rfl, h117.ev 52 rfl]; exact run_v (addNP _ _ _ _ _ (by omega) (by omega) (by omega) _)) fun a120 h119 => ?_
      have h121 := h119.subs (l' := [(53, _), (52, _), (51, _), (5, _), (9, _), (8, _), (7, _), (4, _), (0, _)]) rfl
      clear h119
      refine wmk h121 rfl rfl rfl rfl 53 rfl (fun _ => rfl) fun a123 h122 => ?_
      have h124 := h122.subs (l' := [(6, _), (5, _), (9, _), (8, _), (7, _), (4, _), (0, _)]) rfl
      clear h122
      iterate 2 go_step
      refine ⟨⟨u + n, k, ra2, rc2, rs ++ [(la, lc, D.1)], by omega, ?_, HB7.out, HRS7.out, HBL7.out, ?_, by omega, by rw [List.length_append]; show rs.length + 1 ≤ _; omega⟩, ?_⟩
      · rw [List.length_append]; exact h124.subs rfl
      · rw [HR1.out, if_pos hD0, hn, Int.toNat_natCast, List.map_append]; rfl
      · rw [h124.ev 6 rfl, hK.ev 6 rfl]; simp [intOf]; omega
    · have hbad : (D.2.2 != 0) = true := by simp [bne, hD0]
      iterate 2 go_step
      refine wmk h96 rfl rfl rfl rfl 9 rfl (fun _ => rfl) fun a126 h125 => ?_
      refine wv h125 rfl rfl rfl rfl (.bool true) (by unfold execOp; simp only [h125.ev 45 rfl]; exact run_v (neEP _ _ _ _ _ hbad)) fun a128 h127 => ?_
      have h129 := h127.subs (l' := [(46, _), (9, _), (8, _), (7, _), (5, _), (6, _), (4, _), (0, _)]) rfl
      clear h127
      iterate 3 go_step
      refine wp_cond (t := true) (h129.ev 46 rfl) ?_
      simp only [if_true]
      have h130 := h129.subs (l' := [(9, _), (8, _), (7, _), (5, _), (6, _), (4, _), (0, _)]) rfl
      clear h129
      iterate 4 go_step
      have hfin := HR1.out.trans (if_neg hD0)
      iterate 3 go_step
      refine wmk h130 rfl rfl rfl rfl 5 rfl (fun _ => rfl) fun a132 h131 => ?_
      refine wmk h131 rfl rfl rfl rfl 6 rfl (fun _ => rfl) fun a134 h133 => ?_
      refine wmk h133 rfl rfl rfl rfl 54 rfl (fun _ => rfl) fun a136 h135 => ?_
      refine wmk h135 rfl rfl rfl rfl 55 rfl (fun _ => rfl) fun a138 h137 => ?_
      have h139 := h137.subs (l' := [(3, _), (2, _), (9, _), (8, _), (7, _), (5, _), (6, _), (4, _), (0, _)]) rfl
      clear h137
      iterate 4 go_step
      exact retRr h139.defs (h139.known (2, .slice ra rs.length rc) (by simp)) (h139.known (3, .int .i64 (u : Int)) (by simp)) hfin HBV2.out HRS5.out HBL5.out
  · have hd0 : decide ((u : Int) < (b.length : Int)) = false := decide_eq_false (by omega)
    iterate 4 go_step
    refine wmk hK rfl rfl rfl rfl 6 rfl (fun _ => rfl) fun a141 h140 => ?_
    refine wmk h140 rfl rfl rfl rfl 4 rfl (fun _ => rfl) fun a143 h142 => ?_
    refine wv h142 rfl rfl rfl rfl (.int .i64 (b.length : Int)) (run_lenBP rfl (h142.ev 34 rfl) _) fun a145 h144 => ?_
    refine wv h144 rfl rfl rfl rfl (.bool false) (by unfold execOp; simp only [h144.ev 33 rfl, h144.ev 35 rfl]; exact run_v (ltIP _ _ _ _ _ hd0)) fun a147 h146 => ?_
    have h148 := h146.subs (l' := [(36, _), (5, _), (6, _), (4, _), (0, _)]) rfl
    clear h146
    iterate 3 go_step
    refine wp_cond (t := false) (h148.ev 36 rfl) ?_
    simp only [Bool.false_eq_true, if_false]
    have h149 := h148.subs (l' := [(5, _), (6, _), (4, _), (0, _)]) rfl
    clear h148
    iterate 4 go_step
    have hfin : readL b = (rs.map (·.2.2), u) := by rw [HRD.out]; unfold readR; rw [List.drop_eq_nil_of_le (by omega), decD_nil]; rfl
    iterate 3 go_step
    refine wmk h149 rfl rfl rfl rfl 5 rfl (fun _ => rfl) fun a151 h150 => ?_
    refine wmk h150 rfl rfl rfl rfl 6 rfl (fun _ => rfl) fun a153 h152 => ?_
    refine wmk h152 rfl rfl rfl rfl 54 rfl (fun _ => rfl) fun a155 h154 => ?_
    refine wmk h154 rfl rfl rfl rfl 55 rfl (fun _ => rfl) fun a157 h156 => ?_
    have h158 := h156.subs (l' := [(3, _), (2, _), (5, _), (6, _), (4, _), (0, _)]) rfl
    clear h156
    iterate 4 go_step
    exact retRr h158.defs (h158.known (2, .slice ra rs.length rc) (by simp)) (h158.known (3, .int .i64 (u : Int)) (by simp)) hfin HBV2.out HRS.out HBL.out
end Go.Proofs.YtcackliabemecaaGreatDoor
/- Records compared; the document's Append. (genPlgLs.py) -/
namespace Go.Proofs.YtcackliabemecaaGreatDoor
open Go.RowKit
set_option linter.unusedSimpArgs false
set_option linter.unusedVariables false
set_option maxRecDepth 100000

theorem recs_at {w : World} {B : Nat} {ra : Option Addr} {rc : Nat} {rs : List (Option Addr × Nat × List PtM)} (h : RecsP w B ra rc rs) {j : Nat} (hj : j < rs.length) :
    ∃ pb po ad c L, ra = some ⟨pb, po, none⟩ ∧ w.cell? ⟨pb, po + j, none⟩ = some (.slice ad L.length c) ∧ RowPt w ad c L ∧ (rs.map (·.2.2))[j]? = some L := by
  obtain ⟨b, off, e, _, hc⟩ := h.o.row.2.2.2.2 (by omega)
  refine ⟨b, off, rs[j].1, rs[j].2.1, rs[j].2.2, e, ?_, (h.i _ (List.getElem_mem hj)).row, ?_⟩
  · exact hc j _ (by rw [List.getElem?_map, List.getElem?_eq_getElem hj]; rfl)
  · rw [List.getElem?_map, List.getElem?_eq_getElem hj]; rfl
theorem own_ge {w : World} {B : Nat} {e : TypeId} {sz : Nat} {a : Option Addr} {n c : Nat} {cs : List Value} {k off : Nat} (h : Own w B e sz a n c cs) (ha : a = some ⟨k, off, none⟩) : B ≤ k := by
  rcases h.2 with ⟨hv, _⟩ | ⟨b, cap, cur, hv, hB, hh, rest⟩
  · rw [ha] at hv; cases hv
  · rw [ha] at hv; cases hv; exact hB
theorem callP_11 (args : Array Value) (w : World) : (callFunc 51 args).run Tryz.prog w = .ok (.enter 51 args) w := by
  have h := Tryz.func51
  go_simp
theorem callP_56 (args : Array Value) (w : World) : (callFunc 52 args).run Tryz.prog w = .ok (.enter 52 args) w := by
  have h := Tryz.func52
  go_simp
theorem callP_57 (args : Array Value) (w : World) : (callFunc 53 args).run Tryz.prog w = .ok (.enter 53 args) w := by
  have h := Tryz.func53
  go_simp

theorem retAr {w W : World} {lg g v d a at_ size : Nat} {M : MemM} {L : List PtM} {act : Act} {E : Int} (hd : act.defers = []) (h4 : act.tmps[4]? = some (.int .i64 E)) (hE : appE M at_ size L = E) (hG : LogRP W lg g v d a at_ size (appM M at_ size L)) (hT : Turns (XM v d a) w W) :
    bodyPost Tryz.prog Tryz.f37 (fun e w' => ∃ x, e = .returned x ∧ x = .int .i64 (appE M at_ size L) ∧ LogRP w' lg g v d a at_ size (appM M at_ size L) ∧ Turns (XM v d a) w w') .ret act W := by
  rw [hE]
  exact bodyPost_ret (results_tmp1 rfl h4) hd ⟨_, rfl, rfl, hG, hT⟩
set_option maxHeartbeats 4000000 in
theorem appendR_any {w : World} {lg g v d a at_ size : Nat} {M : MemM} {sa : Option Addr} {sc : Nat} {L : List PtM} (hg0 : LogRP w lg g v d a at_ size M) (hok : LogOk at_ size M) (hrow : RowPt w sa sc L) (okP : okPts L) (hl : L.length ≤ 1000000) :
    Calls Tryz.prog 37 #[.pointer (some ⟨lg, 0, none⟩), .slice sa L.length sc] w fun e w' => ∃ x, e = .returned x ∧ x = .int .i64 (appE M at_ size L) ∧ LogRP w' lg g v d a at_ size (appM M at_ size L) ∧ Turns (XM v d a) w w' := by
  have HG0 := hid hg0
  have hok2 := hok
  obtain ⟨s1, s2, s3, s4⟩ := hok2
  obtain ⟨eb, heb⟩ : ∃ x, encL L = x := ⟨_, rfl⟩
  obtain ⟨ee, hee⟩ : ∃ x, encE L = x := ⟨_, rfl⟩
  obtain ⟨u, hu⟩ : ∃ x, (logR M.V at_ size).2 = x := ⟨_, rfl⟩
  have hel : eb.length ≤ 20000 := by rw [← heb]; exact encL_len
  have hul := logR_u M.V at_ size
  rw [hu] at hul
  have HEB := hid heb; have HEE := hid hee; have HU := hid hu
  clear hg0 heb hee hu
  go_enter Tryz.func37, Tryz.ntmps37
  iterate 3 go_step
  refine wpk_enter (N := 53) (l := [(0, .pointer (some ⟨lg, 0, none⟩)), (1, .slice sa L.length sc)]) ⟨rfl, (by intro x hx; simp only [List.mem_cons, List.not_mem_nil, or_false] at hx; rcases hx with rfl | rfl <;> rfl), rfl⟩ fun a2 h1 => ?_
  refine wv h1 rfl rfl rfl rfl (.int .i64 0) rfl fun a4 h3 => ?_
  iterate 5 go_step
  refine wmk h3 rfl rfl rfl rfl 1 rfl (fun _ => rfl) fun a6 h5 => ?_
  refine wpk_call h5 (wanted_none rfl) rfl (by decide) (fr rfl) (fun args => callP_11 args _) rfl #[.slice sa L.length sc] (by simp only [List.map_toArray, List.map_cons, List.map_nil, h5.ev 10 rfl]) (R := fun xv w' => ∃ ba bc, xv = .tuple #[.slice ba (encL L).length bc, .int .i64 (encE L)] ∧ OwnB w' w.heap.size ba bc (encL L) ∧ Below w.heap.size w w') ((encodeR_any hrow okP (by omega)).mono fun e w' q => by obtain ⟨x, y, q1, q2, q3⟩ := q; exact ⟨_, q1, x, y, rfl, q2, q3⟩) fun a8 v2 w2 r2 h7 => ?_
  obtain ⟨ba, bc, rfl, o2, b2⟩ := r2
  rw [HEB.out] at o2 h7; rw [HEE.out] at h7
  have HG2 := hid (HG0.out.mono b2); have HO2 := hid o2; have HT2 : Hid (Turns (XM v d a) w w2) := hid (Turns.of_below b2); have HB2 := hid b2; clear o2 b2
  refine wmk h7 rfl rfl rfl rfl 11 rfl (fun _ => rfl) fun a10 h9 => ?_
  refine wv h9 rfl rfl rfl rfl (.slice ba eb.length bc) (by unfold execOp; simp only [h9.ev 9 rfl]; exact rfl) fun a12 h11 => ?_
  refine wv h11 rfl rfl rfl rfl (.int .i64 ee) (by unfold execOp; simp only [h11.ev 9 rfl]; exact rfl) fun a14 h13 => ?_
  refine wmk h13 rfl rfl rfl rfl 12 rfl (fun _ => rfl) fun a16 h15 => ?_
  refine wmk h15 rfl rfl rfl rfl 13 rfl (fun _ => rfl) fun a18 h17 => ?_
  have h19 := h17.subs (l' := [(6, _), (5, _), (4, _), (0, _), (1, _)]) rfl
  clear h17
  iterate 4 go_step
  by_cases he : ee = 0
  case neg =>
    have hbad : (ee != 0) = true := by simp [bne, he]
    iterate 2 go_step
    refine wmk h19 rfl rfl rfl rfl 6 rfl (fun _ => rfl) fun a21 h20 => ?_
    refine wv h20 rfl rfl rfl rfl (.bool true) (by unfold execOp; simp only [h20.ev 14 rfl]; exact run_v (neEP _ _ _ _ _ hbad)) fun a23 h22 => ?_
    have h24 := h22.subs (l' := [(15, _), (6, _), (5, _), (4, _), (0, _), (1, _)]) rfl
    clear h22
    iterate 3 go_step
    refine wp_cond (t := true) (h24.ev 15 rfl) ?_
    simp only [if_true]
    have h25 := h24.subs (l' := [(6, _), (5, _), (4, _), (0, _), (1, _)]) rfl
    clear h24
    iterate 2 go_step
    refine wmk h25 rfl rfl rfl rfl 6 rfl (fun _ => rfl) fun a27 h26 => ?_
    have h28 := h26.subs (l' := [(16, _), (6, _), (5, _), (0, _), (1, _)]) rfl
    clear h26
    refine wmk h28 rfl rfl rfl rfl 16 rfl (fun _ => rfl) fun a30 h29 => ?_
    have h31 := h29.subs (l' := [(4, _), (6, _), (5, _), (0, _), (1, _)]) rfl
    clear h29
    iterate 4 go_step
    simp only [Exit.then, Exit.inBlock]
    exact retAr h31.defs (h31.known (4, .int .i64 ee) (by simp)) (by unfold appE; rw [HEE.out, if_neg he]) (by have z := HG2.out; unfold appM; rw [HEE.out, if_neg (fun q => he q.1)]; exact z) HT2.out
  have hbad : (ee != 0) = false := by rw [he]; rfl
  iterate 2 go_step
  refine wmk h19 rfl rfl rfl rfl 6 rfl (fun _ => rfl) fun a33 h32 => ?_
  refine wv h32 rfl rfl rfl rfl (.bool false) (by unfold execOp; simp only [h32.ev 14 rfl]; exact run_v (neEP _ _ _ _ _ hbad)) fun a35 h34 => ?_
  have h36 := h34.subs (l' := [(15, _), (6, _), (5, _), (4, _), (0, _), (1, _)]) rfl
  clear h34
  iterate 3 go_step
  refine wp_cond (t := false) (h36.ev 15 rfl) ?_
  simp only [Bool.false_eq_true, if_false]
  have h37 := h36.subs (l' := [(6, _), (5, _), (4, _), (0, _), (1, _)]) rfl
  clear h36
  iterate 5 go_step
  refine wmk h37 rfl rfl rfl rfl 0 rfl (fun _ => rfl) fun a39 h38 => ?_
  refine wpk_call h38 (wanted_none rfl) rfl (by decide) (fr rfl) (fun args => callP_56 args _) rfl #[.pointer (some ⟨lg, 0, none⟩)] (by simp only [List.map_toArray, List.map_cons, List.map_nil, h38.ev 18 rfl]) (R := fun xv w' => ∃ ra rc rs, xv = .tuple #[.slice ra rs.length rc, .int .i64 ((logR M.V at_ size).2 : Int)] ∧ rs.map (·.2.2) = (logR M.V at_ size).1 ∧ RecsP w' w2.heap.size ra rc rs ∧ Below w2.heap.size w2 w') (readR_any HG2.out hok) fun a41 v3 w3 r3 h40 => ?_
  obtain ⟨ra, rc, rs, rfl, _, _, b3⟩ := r3
  rw [HU.out] at h40
  have HG3 := hid (HG2.out.mono b3); have HO3 := hid (Own.mono HO2.out b3); have HT3 : Hid (Turns (XM v d a) w w3) := hid (HT2.out.trans (Turns.of_below b3)); have HB3 := hid (kept_trans HB2.out b3); clear b3
  refine wmk h40 rfl rfl rfl rfl 19 rfl (fun _ => rfl) fun a43 h42 => ?_
  refine wv h42 rfl rfl rfl rfl (.slice ra rs.length rc) (by unfold execOp; simp only [h42.ev 17 rfl]; exact rfl) fun a45 h44 => ?_
  refine wv h44 rfl rfl rfl rfl (.int .i64 (u : Int)) (by unfold execOp; simp only [h44.ev 17 rfl]; exact rfl) fun a47 h46 => ?_
  refine wmk h46 rfl rfl rfl rfl 20 rfl (fun _ => rfl) fun a49 h48 => ?_
  refine wmk h48 rfl rfl rfl rfl 21 rfl (fun _ => rfl) fun a51 h50 => ?_
  have h52 := h50.subs (l' := [(8, _), (6, _), (5, _), (4, _), (0, _), (1, _)]) rfl
  clear h50
  iterate 4 go_step
  by_cases hf : size - 8 < u + eb.length
  case pos =>
    have hfull : decide (((size - 8 : Nat) : Int) < ((u + eb.length : Nat) : Int)) = true := decide_eq_true (by omega)
    iterate 2 go_step
    refine wmk h52 rfl rfl rfl rfl 8 rfl (fun _ => rfl) fun a54 h53 => ?_
    refine wmk h53 rfl rfl rfl rfl 5 rfl (fun _ => rfl) fun a56 h55 => ?_
    refine wv h55 rfl rfl rfl rfl (.int .i64 (eb.length : Int)) (run_lenBP rfl (h55.ev 23 rfl) _) fun a58 h57 => ?_
    refine wv h57 rfl rfl rfl rfl (.int .i64 ((u + eb.length : Nat) : Int)) (by unfold execOp; simp only [h57.ev 22 rfl, h57.ev 24 rfl]; exact run_v (addNP _ _ _ _ _ (by omega) (by omega) (by omega) _)) fun a60 h59 => ?_
    refine wmk h59 rfl rfl rfl rfl 0 rfl (fun _ => rfl) fun a62 h61 => ?_
    refine wv h61 rfl rfl rfl rfl (.pointer (some ⟨lg, 0, none⟩)) (by unfold execOp; simp only [h61.ev 26 rfl]; exact rfl) fun a64 h63 => ?_
    refine wv h63 rfl rfl rfl rfl (.pointer (some ⟨lg, 2, none⟩)) (by unfold execOp; simp only [h63.ev 27 rfl]; exact run_v (fa_76_0_2 (lg) _)) fun a66 h65 => ?_
    refine wv h65 rfl rfl rfl rfl (.int .i64 (size : Int)) (by unfold execOp; simp only [h65.ev 28 rfl]; exact run_v (loadIP (HG3.out.l.cell (i := 2) (by show 2 < 3; omega)))) fun a68 h67 => ?_
    refine wv h67 rfl rfl rfl rfl (.int .i64 ((size - 8 : Nat) : Int)) (by unfold execOp; simp only [h67.ev 29 rfl]; exact run_v (subIP _ _ _ _ _ (by omega) (by omega) (by omega) _)) fun a70 h69 => ?_
    refine wv h69 rfl rfl rfl rfl (.bool true) (by unfold execOp; simp only [h69.ev 25 rfl, h69.ev 30 rfl]; exact run_v (gtIP _ _ _ _ _ hfull)) fun a72 h71 => ?_
    have h73 := h71.subs (l' := [(31, _), (8, _), (6, _), (5, _), (4, _), (0, _), (1, _)]) rfl
    clear h71
    iterate 3 go_step
    refine wp_cond (t := true) (h73.ev 31 rfl) ?_
    simp only [if_true]
    have h74 := h73.subs (l' := [(8, _), (6, _), (5, _), (4, _), (0, _), (1, _)]) rfl
    clear h73
    iterate 2 go_step
    have h75 := h74.subs (l' := [(8, _), (6, _), (5, _), (0, _), (1, _)]) rfl
    clear h74
    refine wv h75 rfl rfl rfl rfl (.int .i64 5) rfl fun a77 h76 => ?_
    iterate 4 go_step
    simp only [Exit.then, Exit.inBlock]
    exact retAr h76.defs (h76.known (4, .int .i64 5) (by simp)) (by unfold appE; rw [HEE.out, if_pos he, HU.out, HEB.out, if_pos hf]) (by have z := HG3.out; unfold appM; rw [HU.out, HEB.out, if_neg (fun q => q.2 hf)]; exact z) HT3.out
  have hfull : decide (((size - 8 : Nat) : Int) < ((u + eb.length : Nat) : Int)) = false := decide_eq_false (by omega)
  have hlt0 := HG0.out.lt
  iterate 2 go_step
  refine wmk h52 rfl rfl rfl rfl 8 rfl (fun _ => rfl) fun a79 h78 => ?_
  refine wmk h78 rfl rfl rfl rfl 5 rfl (fun _ => rfl) fun a81 h80 => ?_
  refine wv h80 rfl rfl rfl rfl (.int .i64 (eb.length : Int)) (run_lenBP rfl (h80.ev 23 rfl) _) fun a83 h82 => ?_
  refine wv h82 rfl rfl rfl rfl (.int .i64 ((u + eb.length : Nat) : Int)) (by unfold execOp; simp only [h82.ev 22 rfl, h82.ev 24 rfl]; exact run_v (addNP _ _ _ _ _ (by omega) (by omega) (by omega) _)) fun a85 h84 => ?_
  refine wmk h84 rfl rfl rfl rfl 0 rfl (fun _ => rfl) fun a87 h86 => ?_
  refine wv h86 rfl rfl rfl rfl (.pointer (some ⟨lg, 0, none⟩)) (by unfold execOp; simp only [h86.ev 26 rfl]; exact rfl) fun a89 h88 => ?_
  refine wv h88 rfl rfl rfl rfl (.pointer (some ⟨lg, 2, none⟩)) (by unfold execOp; simp only [h88.ev 27 rfl]; exact run_v (fa_76_0_2 (lg) _)) fun a91 h90 => ?_
  refine wv h90 rfl rfl rfl rfl (.int .i64 (size : Int)) (by unfold execOp; simp only [h90.ev 28 rfl]; exact run_v (loadIP (HG3.out.l.cell (i := 2) (by show 2 < 3; omega)))) fun a93 h92 => ?_
  refine wv h92 rfl rfl rfl rfl (.int .i64 ((size - 8 : Nat) : Int)) (by unfold execOp; simp only [h92.ev 29 rfl]; exact run_v (subIP _ _ _ _ _ (by omega) (by omega) (by omega) _)) fun a95 h94 => ?_
  refine wv h94 rfl rfl rfl rfl (.bool false) (by unfold execOp; simp only [h94.ev 25 rfl, h94.ev 30 rfl]; exact run_v (gtIP _ _ _ _ _ hfull)) fun a97 h96 => ?_
  have h98 := h96.subs (l' := [(31, _), (8, _), (6, _), (5, _), (4, _), (0, _), (1, _)]) rfl
  clear h96
  iterate 3 go_step
  refine wp_cond (t := false) (h98.ev 31 rfl) ?_
  simp only [Bool.false_eq_true, if_false]
  have h99 := h98.subs (l' := [(8, _), (6, _), (5, _), (4, _), (0, _), (1, _)]) rfl
  clear h98
  iterate 5 go_step
  refine wmk h99 rfl rfl rfl rfl 0 rfl (fun _ => rfl) fun a101 h100 => ?_
  refine wmk h100 rfl rfl rfl rfl 0 rfl (fun _ => rfl) fun a103 h102 => ?_
  refine wv h102 rfl rfl rfl rfl (.pointer (some ⟨lg, 0, none⟩)) (by unfold execOp; simp only [h102.ev 33 rfl]; exact rfl) fun a105 h104 => ?_
  refine wv h104 rfl rfl rfl rfl (.pointer (some ⟨lg, 1, none⟩)) (by unfold execOp; simp only [h104.ev 34 rfl]; exact run_v (fa_76_0_1 (lg) _)) fun a107 h106 => ?_
  refine wv h106 rfl rfl rfl rfl (.int .i64 (at_ : Int)) (by unfold execOp; simp only [h106.ev 35 rfl]; exact run_v (loadIP (HG3.out.l.cell (i := 1) (by show 1 < 3; omega)))) fun a109 h108 => ?_
  refine wv h108 rfl rfl rfl rfl (.int .i64 ((at_ + 8 : Nat) : Int)) (by unfold execOp; simp only [h108.ev 36 rfl]; exact run_v (addNP _ _ _ _ _ (by omega) (by omega) (by omega) _)) fun a111 h110 => ?_
  refine wmk h110 rfl rfl rfl rfl 8 rfl (fun _ => rfl) fun a113 h112 => ?_
  refine wv h112 rfl rfl rfl rfl (.int .i64 ((at_ + 8 + u : Nat) : Int)) (by unfold execOp; simp only [h112.ev 37 rfl, h112.ev 38 rfl]; exact run_v (addNP _ _ _ _ _ (by omega) (by omega) (by omega) _)) fun a115 h114 => ?_
  refine wmk h114 rfl rfl rfl rfl 5 rfl (fun _ => rfl) fun a117 h116 => ?_
  refine wpk_call h116 (wanted_none rfl) rfl (by decide) (fr rfl) (fun args => callP_57 args _) rfl #[.pointer (some ⟨lg, 0, none⟩), .int .i64 ((at_ + 8 + u : Nat) : Int), .slice ba eb.length bc] (by simp only [List.map_toArray, List.map_cons, List.map_nil, h116.ev 32 rfl, h116.ev 39 rfl, h116.ev 40 rfl]) (R := fun xv w' => LogRP w' lg g v d a at_ size (writeM M [⟨((at_ + 8 + u : Nat) : Int), eb⟩]) ∧ Turns (XM v d a) w3 w') ((logKeepR_any HG3.out (at_ + 8 + u) ba bc eb HO3.out.row (fun _ k hk => by obtain ⟨off, e⟩ := hk; have := own_ge HO3.out e; omega) (by omega)).mono fun e w' q => by obtain ⟨⟨x, q1⟩, q2⟩ := q; exact ⟨x, q1, q2⟩) fun a119 v4 w4 r4 h118 => ?_
  have HG4 := hid r4.1; have HT4 : Hid (Turns (XM v d a) w w4) := hid (HT3.out.trans r4.2); clear r4
  have h120 := h118.subs (l' := [(8, _), (6, _), (5, _), (4, _), (0, _), (1, _)]) rfl
  clear h118
  iterate 4 go_step
  have HG5 := hid (HG4.out.mono (Below.refl _ _).drew); have HT5 : Hid (Turns (XM v d a) w w4.drew) := hid HT4.out.drew
  refine wp_region_held_drew (S := fun w' => Blk w' lg 54 (logC g at_ size)) (by kernel_rfl) HG5.out.l (fun hS1 => ?_)
  refine wpk_take hS1 h120 0 rfl rfl (by decide) (fr rfl) (by kernel_rfl) (by kernel_rfl) (by kernel_rfl) (fun _ _ _ _ h => h) (.pointer (some ⟨lg, 0, none⟩)) (Or.inl ⟨Eq.refl true, fun w1 hSw => (by show (execOp _ (⟨_, .move (.tmp 0), _, _, _, _⟩ : Oper)).run _ _ = _; exact (by unfold execOp; simp only [h120.ev 0 rfl]; exact rfl))⟩) fun a122 h121 => ?_
  refine wpk_take hS1 h121 1 rfl rfl (by decide) (fr rfl) (by kernel_rfl) (by kernel_rfl) (by kernel_rfl) (fun _ _ _ _ h => h) (.pointer (some ⟨lg, 0, none⟩)) (Or.inl ⟨Eq.refl true, fun w1 hSw => (by show (execOp _ (⟨_, .move (.tmp 0), _, _, _, _⟩ : Oper)).run _ _ = _; exact (by unfold execOp; simp only [h121.ev 0 rfl]; exact rfl))⟩) fun a124 h123 => ?_
  refine wpk_take hS1 h123 2 rfl rfl (by decide) (fr rfl) (by kernel_rfl) (by kernel_rfl) (by kernel_rfl) (fun _ _ _ _ h => h) (.pointer (some ⟨lg, 0, none⟩)) (Or.inl ⟨Eq.refl true, fun w1 hSw => (by show (execOp _ (⟨_, .nilCheck (.tmp 43), _, _, _, _⟩ : Oper)).run _ _ = _; exact (by unfold execOp; simp only [h123.ev 43 rfl]; exact rfl))⟩) fun a126 h125 => ?_
  refine wpk_take hS1 h125 3 rfl rfl (by decide) (fr rfl) (by kernel_rfl) (by kernel_rfl) (by kernel_rfl) (fun _ _ _ _ h => h) (.pointer (some ⟨lg, 1, none⟩)) (Or.inl ⟨Eq.refl true, fun w1 hSw => (by show (execOp _ (⟨_, .fieldAddr 54 (.tmp 44) 1, _, _, _, _⟩ : Oper)).run _ _ = _; exact (by unfold execOp; simp only [h125.ev 44 rfl]; exact run_v (fa_76_0_1 (lg) _)))⟩) fun a128 h127 => ?_
  refine wpk_take hS1 h127 4 rfl rfl (by decide) (fr rfl) (by kernel_rfl) (by kernel_rfl) (by kernel_rfl) (fun _ _ _ _ h => h) (.int .i64 (at_ : Int)) (Or.inl ⟨Eq.refl true, fun w1 hSw => (by show (execOp _ (⟨_, .load 3 (.tmp 45), _, _, _, _⟩ : Oper)).run _ _ = _; exact (by unfold execOp; simp only [h127.ev 45 rfl]; exact run_v (loadIP (hSw.cell (i := 1) (by show 1 < 3; omega)))))⟩) fun a130 h129 => ?_
  refine wpk_take hS1 h129 5 rfl rfl (by decide) (fr rfl) (by kernel_rfl) (by kernel_rfl) (by kernel_rfl) (fun _ _ _ _ h => h) (.int .i64 (u : Int)) (Or.inl ⟨Eq.refl true, fun w1 hSw => (by show (execOp _ (⟨_, .move (.tmp 8), _, _, _, _⟩ : Oper)).run _ _ = _; exact (by unfold execOp; simp only [h129.ev 8 rfl]; exact rfl))⟩) fun a132 h131 => ?_
  refine wpk_take hS1 h131 6 rfl rfl (by decide) (fr rfl) (by kernel_rfl) (by kernel_rfl) (by kernel_rfl) (fun _ _ _ _ h => h) (.slice ba eb.length bc) (Or.inl ⟨Eq.refl true, fun w1 hSw => (by show (execOp _ (⟨_, .move (.tmp 5), _, _, _, _⟩ : Oper)).run _ _ = _; exact (by unfold execOp; simp only [h131.ev 5 rfl]; exact rfl))⟩) fun a134 h133 => ?_
  refine wpk_take hS1 h133 7 rfl rfl (by decide) (fr rfl) (by kernel_rfl) (by kernel_rfl) (by kernel_rfl) (fun _ _ _ _ h => h) (.int .i64 (eb.length : Int)) (Or.inl ⟨Eq.refl true, fun w1 hSw => (by show (execOp _ (⟨_, .call { callee := .builtin .len, args := #[(.tmp 48)], argTypes := #[26] }, _, _, _, _⟩ : Oper)).run _ _ = _; exact (run_lenBP rfl (h133.ev 48 rfl) _))⟩) fun a136 h135 => ?_
  refine wpk_take hS1 h135 8 rfl rfl (by decide) (fr rfl) (by kernel_rfl) (by kernel_rfl) (by kernel_rfl) (fun _ _ _ _ h => h) (.int .i64 ((u + eb.length : Nat) : Int)) (Or.inl ⟨Eq.refl true, fun w1 hSw => (by show (execOp _ (⟨_, .binOp .add 3 (.tmp 47) (.tmp 49) 3, _, _, _, _⟩ : Oper)).run _ _ = _; exact (by unfold execOp; simp only [h135.ev 47 rfl, h135.ev 49 rfl]; exact run_v (addNP _ _ _ _ _ (by omega) (by omega) (by omega) _)))⟩) fun a138 h137 => ?_
  refine wpk_only 9 rfl rfl (by kernel_rfl) fun K hK => op_call h137 rfl (by decide) (fr rfl) (fun args => callP_35 args _) rfl #[.slice none 0 0, .int .i64 ((u + eb.length : Nat) : Int), .int .i64 8] (by simp only [List.map_toArray, List.map_cons, List.map_nil, h137.ev 50 rfl]; rfl) (R := fun v' w' => ∃ x y, v' = .slice x (putF [] ((u + eb.length : Nat) : Int) 8).length y ∧ OwnB w' w4.drew.heap.size x y (putF [] ((u + eb.length : Nat) : Int) 8) ∧ Below w4.drew.heap.size w4.drew w') ((putRef_any none 0 [] ((u + eb.length : Nat) : Int) 8 w4.drew (Row.nil _ _) (by simp) (by omega)).mono fun e w' q => by obtain ⟨x, y, q1, q2, q3⟩ := q; exact ⟨_, q1, x, y, rfl, q2, q3⟩) fun a140 v6 w6 r6 h139 => hK _ _ (by obtain ⟨x, y, _, _, q⟩ := r6; exact HG5.out.l.mono q) fun hS2 => ?_
  clear hK K
  obtain ⟨pa, pc, rfl, o6, b6⟩ := r6
  have HG6 := hid (HG5.out.mono b6); have HT6 : Hid (Turns (XM v d a) w w6) := hid (HT5.out.trans (Turns.of_below b6)); have hlt5 := HG5.out.lt
  have h8 := putF8_len ((u + eb.length : Nat) : Int)
  refine wpk_only 10 rfl rfl (by kernel_rfl) fun K hK => op_call h139 rfl (by decide) (fr rfl) (fun args => callP_57 args _) rfl #[.pointer (some ⟨lg, 0, none⟩), .int .i64 (at_ : Int), .slice pa (putF [] ((u + eb.length : Nat) : Int) 8).length pc] (by simp only [List.map_toArray, List.map_cons, List.map_nil, h139.ev 42 rfl, h139.ev 46 rfl, h139.ev 51 rfl]) (R := fun xv w' => LogRP w' lg g v d a at_ size (setM (writeM M [⟨((at_ + 8 + u : Nat) : Int), eb⟩]) at_ ((u + eb.length : Nat) : Int)) ∧ Turns (XM v d a) w6 w') ((logKeepR_any HG6.out at_ pa pc (putF [] ((u + eb.length : Nat) : Int) 8) o6.row (fun _ k hk => by obtain ⟨off, e⟩ := hk; have := own_ge o6 e; omega) (by rw [writeM_len]; omega)).mono fun e w' q => by obtain ⟨⟨x, q1⟩, q2⟩ := q; exact ⟨x, q1, q2⟩) fun a142 v7 w7 r7 h141 => hK _ _ (r7.1.l) fun hS3 => ?_
  clear hK K
  refine wpAnyH_done (by kernel_rfl) ?_ _
  have h143 := h141.subs (l' := [(8, _), (6, _), (5, _), (4, _), (0, _), (1, _)]) rfl
  clear h141
  iterate 4 go_step
  have h144 := h143.subs (l' := [(8, _), (6, _), (5, _), (0, _), (1, _)]) rfl
  clear h143
  refine wv h144 rfl rfl rfl rfl (.int .i64 0) rfl fun a146 h145 => ?_
  iterate 4 go_step
  exact retAr h145.defs (h145.known (4, .int .i64 0) (by simp)) (by unfold appE; rw [HEE.out, if_pos he, HU.out, HEB.out, if_neg hf]) (by unfold appM; rw [HEE.out, HU.out, HEB.out, if_pos ⟨he, hf⟩]; exact r7.1) (HT6.out.trans r7.2)
end Go.Proofs.YtcackliabemecaaGreatDoor
/- A pair of logs: begin, like; Records. (genPlgPr.py) -/
namespace Go.Proofs.YtcackliabemecaaGreatDoor
open Go.RowKit
set_option linter.unusedSimpArgs false
set_option linter.unusedVariables false
set_option maxRecDepth 100000

/-- the blocks of a pair -/
structure PK where
  g : Nat
  v : Nat
  d : Nat
  p : Nat
  lg : Nat
  gr : Nat
  vr : Nat
  dr : Nat
  ar : Nat
  lr : Nat
  pp : Nat
def pairC (K : PK) : List Value := [.pointer (some ⟨K.g, 0, none⟩), .pointer (some ⟨K.lg, 0, none⟩), .pointer (some ⟨K.gr, 0, none⟩), .pointer (some ⟨K.lr, 0, none⟩)]
def PK.from (K : PK) (B : Nat) : Prop := B ≤ K.g ∧ B ≤ K.v ∧ B ≤ K.d ∧ B ≤ K.p ∧ B ≤ K.lg ∧ B ≤ K.gr ∧ B ≤ K.vr ∧ B ≤ K.dr ∧ B ≤ K.ar ∧ B ≤ K.lr ∧ B ≤ K.pp
def PK.all (K : PK) (k : Nat) : Prop := XM K.v K.d K.p k ∨ XM K.vr K.dr K.ar k
theorem make8 (w : World) : ∃ w', (Instr.makeSlice 26 (.int .i64 8) (.int .i64 8)).run Tryz.prog w = .ok (.slice (some ⟨w.heap.size, 0, none⟩) 8 8) w' ∧ OwnB w' w.heap.size (some ⟨w.heap.size, 0, none⟩) 8 (List.replicate 8 0) ∧ Below w.heap.size w w' := by
  obtain ⟨i, h0, h1, h2, h3⟩ := info_parts (P := Tryz.prog) (e := 5) (bytes := 1) (z := .int .u8 0) (by kernel_rfl)
  obtain ⟨w', hrun, r1, r2⟩ := run_make_full (P := Tryz.prog) w w.heap.size 26 5 i (.int .u8 0) 1 Tryz.underlying26 h0 h1 h2 .i64 .i64 8 (by rw [h3]; omega) (by unfold maxLen; omega) (Nat.le_refl _)
  have e : (madeCells (Value.int .u8 0).cells (8 * 1)).toList = (List.replicate 8 (0 : UInt8)).map byteV := by kernel_rfl
  rw [e] at r1
  exact ⟨w', hrun, r1, (Below.refl _ w).grown r2 (Nat.le_refl _) (fun k hk => by cases hk)⟩
theorem fenceM_V (M : MemM) : (fenceM M).V = M.V := by unfold fenceM; rfl
theorem cellT {w w' : World} {X : Nat → Prop} (t : Turns X w w') {x : Addr} {v : Value} (h : w.cell? x = some v) (hx : ¬ X x.block) : w'.cell? x = some v := by
  have hb := t.block x.block (World.block_lt_of_cell? w _ h) hx
  unfold World.cell? at *
  rw [hb]
  exact h
theorem rangeT {w w' : World} {X : Nat → Prop} (t : Turns X w w') {b off : Nat} {L : List Value} (h : w.rangeAt b off L) (hx : ¬ X b) : w'.rangeAt b off L := fun j u hu => cellT t (h j u hu) hx
theorem recs_ge {w : World} {B : Nat} {ra : Option Addr} {rc : Nat} {rs : List (Option Addr × Nat × List PtM)} (h : RecsP w B ra rc rs) {j pb po : Nat} (hj : j < rs.length) (ha : ra = some ⟨pb, po, none⟩) {ad : Option Addr} {n c : Nat} (hc : w.cell? ⟨pb, po + j, none⟩ = some (.slice ad n c)) {qb qo : Nat} (hq : ad = some ⟨qb, qo, none⟩) : B ≤ qb := by
  obtain ⟨b, off, e, _, hcell⟩ := h.o.row.2.2.2.2 (by omega)
  rw [ha] at e
  cases e
  have h2 := hcell j (recV rs[j]) (by rw [List.getElem?_map, List.getElem?_eq_getElem hj]; rfl)
  rw [h2] at hc
  unfold recV at hc
  injection hc with hc
  injection hc with e1 e2 e3
  have o := h.i _ (List.getElem_mem hj)
  exact own_ge o (e1.trans hq)
theorem storeR_u {w : World} {g v d a : Nat} {M : MemM} (h : MemR w g v d a M) (at_ : Int) (hat : -9223372036854775808 ≤ at_ ∧ at_ ≤ 9223372036854775807) (ab : Option Addr) (c : Nat) (b : List UInt8) (hr : RowB w ab c b) (hs : 0 < b.length → ∀ k, (∃ off, ab = some ⟨k, off, none⟩) → k ≠ v ∧ k ≠ a) :
    Calls Tryz.prog 26 #[.pointer (some ⟨g, 0, none⟩), .int .i64 at_, .slice ab b.length c] w fun e w' => e = .returned (.int .i64 (errM M at_ b.length)) ∧ MemR w' g v d a (storeU M at_ b) ∧ Turns (fun k => k = v ∨ k = a) w w' := by
  refine (storeR_any h at_ hat ab c b hr hs).mono ?_
  intro e w' z
  unfold StoreR at z
  unfold storeU errM
  by_cases hi : inM M at_ b.length = true
  · rw [if_pos hi] at z; simp only [if_pos hi]; exact z
  · rw [if_neg hi] at z; simp only [if_neg hi]; obtain ⟨rfl, rfl⟩ := z; exact ⟨rfl, h, Turns.refl _ _⟩
theorem flushR_u {w : World} {g v d a : Nat} {M : MemM} (h : MemR w g v d a M) (at_ n : Int) (hat : -9223372036854775808 ≤ at_ ∧ at_ ≤ 9223372036854775807) (hn : -9223372036854775808 ≤ n ∧ n ≤ 9223372036854775807) :
    Calls Tryz.prog 55 #[.pointer (some ⟨g, 0, none⟩), .int .i64 at_, .int .i64 n] w fun e w' => e = .returned (.int .i64 (errM M at_ n)) ∧ MemR w' g v d a (flushU M at_ n) ∧ Turns (fun k => k = a) w w' := by
  refine (flushR_any h at_ n hat hn).mono ?_
  intro e w' z
  unfold FlushR at z
  unfold flushU errM
  by_cases hi : inM M at_ n = true
  · rw [if_pos hi] at z; simp only [if_pos hi]; exact z
  · rw [if_neg hi] at z; simp only [if_neg hi]; obtain ⟨rfl, rfl⟩ := z; exact ⟨rfl, h, Turns.refl _ _⟩
theorem callP_120 (args : Array Value) (w : World) : (callFunc 57 args).run Tryz.prog w = .ok (.enter 57 args) w := by
  have h := Tryz.func57
  go_simp

set_option maxHeartbeats 4000000 in
theorem clearR_any {w : World} {lg g v d a at_ size : Nat} {M : MemM} (hg0 : LogRP w lg g v d a at_ size M) (hok : LogOk at_ size M) :
    Calls Tryz.prog 57 #[.pointer (some ⟨lg, 0, none⟩)] w fun e w' => ∃ x, e = .returned x ∧ LogRP w' lg g v d a at_ size (setM M at_ 0) ∧ Turns (XM v d a) w w' := by
  have HG0 := hid hg0
  obtain ⟨s1, s2, s3, s4⟩ := hok
  clear hg0
  go_enter Tryz.func57, Tryz.ntmps57
  obtain ⟨ac, hac⟩ : ∃ x : Act, x = { tmps := #[.pointer (some ⟨lg, 0, none⟩), undef, undef, undef, undef, undef, undef, undef, undef], defers := [] } := ⟨_, rfl⟩
  have h0 : Kn 9 [(0, .pointer (some ⟨lg, 0, none⟩))] ac := ⟨by rw [hac]; rfl, (by intro x hx; rw [hac]; simp only [List.mem_cons, List.not_mem_nil, or_false] at hx; rcases hx with rfl; rfl), by rw [hac]⟩
  rw [← hac]
  clear hac
  have HG1 := hid (HG0.out.mono (Below.refl _ _).drew)
  refine wp_region_held_drew (S := fun w' => Blk w' lg 54 (logC g at_ size)) (by kernel_rfl) HG1.out.l (fun hS1 => ?_)
  refine wpk_take hS1 h0 0 rfl rfl (by decide) (fr rfl) (by kernel_rfl) (by kernel_rfl) (by kernel_rfl) (fun _ _ _ _ h => h) (.pointer (some ⟨lg, 0, none⟩)) (Or.inl ⟨Eq.refl true, fun w1 hSw => (by show (execOp _ (⟨_, .move (.tmp 0), _, _, _, _⟩ : Oper)).run _ _ = _; exact (by unfold execOp; simp only [h0.ev 0 rfl]; exact rfl))⟩) fun a2 h1 => ?_
  refine wpk_take hS1 h1 1 rfl rfl (by decide) (fr rfl) (by kernel_rfl) (by kernel_rfl) (by kernel_rfl) (fun _ _ _ _ h => h) (.pointer (some ⟨lg, 0, none⟩)) (Or.inl ⟨Eq.refl true, fun w1 hSw => (by show (execOp _ (⟨_, .move (.tmp 0), _, _, _, _⟩ : Oper)).run _ _ = _; exact (by unfold execOp; simp only [h1.ev 0 rfl]; exact rfl))⟩) fun a4 h3 => ?_
  refine wpk_take hS1 h3 2 rfl rfl (by decide) (fr rfl) (by kernel_rfl) (by kernel_rfl) (by kernel_rfl) (fun _ _ _ _ h => h) (.pointer (some ⟨lg, 0, none⟩)) (Or.inl ⟨Eq.refl true, fun w1 hSw => (by show (execOp _ (⟨_, .nilCheck (.tmp 3), _, _, _, _⟩ : Oper)).run _ _ = _; exact (by unfold execOp; simp only [h3.ev 3 rfl]; exact rfl))⟩) fun a6 h5 => ?_
  refine wpk_take hS1 h5 3 rfl rfl (by decide) (fr rfl) (by kernel_rfl) (by kernel_rfl) (by kernel_rfl) (fun _ _ _ _ h => h) (.pointer (some ⟨lg, 1, none⟩)) (Or.inl ⟨Eq.refl true, fun w1 hSw => (by show (execOp _ (⟨_, .fieldAddr 54 (.tmp 4) 1, _, _, _, _⟩ : Oper)).run _ _ = _; exact (by unfold execOp; simp only [h5.ev 4 rfl]; exact run_v (fa_76_0_1 (lg) _)))⟩) fun a8 h7 => ?_
  refine wpk_take hS1 h7 4 rfl rfl (by decide) (fr rfl) (by kernel_rfl) (by kernel_rfl) (by kernel_rfl) (fun _ _ _ _ h => h) (.int .i64 (at_ : Int)) (Or.inl ⟨Eq.refl true, fun w1 hSw => (by show (execOp _ (⟨_, .load 3 (.tmp 5), _, _, _, _⟩ : Oper)).run _ _ = _; exact (by unfold execOp; simp only [h7.ev 5 rfl]; exact run_v (loadIP (hSw.cell (i := 1) (by show 1 < 3; omega)))))⟩) fun a10 h9 => ?_
  obtain ⟨w2, hmk, o2, b2⟩ := make8 w.drew
  refine wpk_only 5 rfl rfl (by kernel_rfl) fun KK hK => op_val (w' := w2) h9 rfl (by decide) (fr rfl) (.slice (some ⟨w.drew.heap.size, 0, none⟩) 8 8) (by show (execOp _ (⟨_, .makeSlice 26 (.const (.int .i64 8)) (.const (.int .i64 8)), _, _, _, _⟩ : Oper)).run _ _ = _; exact (by unfold execOp; exact run_v hmk)) fun a12 h11 => hK _ _ (hS1.mono b2) fun hS2 => ?_
  clear hK KK
  have HG2 := hid (HG1.out.mono b2); have hlt1 := HG1.out.lt
  refine wpk_only 6 rfl rfl (by kernel_rfl) fun KK hK => op_call h11 rfl (by decide) (fr rfl) (fun args => callP_57 args _) rfl #[.pointer (some ⟨lg, 0, none⟩), .int .i64 (at_ : Int), .slice (some ⟨w.drew.heap.size, 0, none⟩) 8 8] (by simp only [List.map_toArray, List.map_cons, List.map_nil, h11.ev 2 rfl, h11.ev 6 rfl, h11.ev 7 rfl]) (R := fun xv w' => LogRP w' lg g v d a at_ size (setM M at_ 0) ∧ Turns (XM v d a) w2 w') ((logKeepR_any HG2.out at_ (some ⟨w.drew.heap.size, 0, none⟩) 8 (List.replicate 8 0) o2.row (fun _ k hk => by obtain ⟨off, e⟩ := hk; cases e; omega) (by show at_ + 8 ≤ _; omega)).mono fun e w' q => by obtain ⟨⟨x, q1⟩, q2⟩ := q; exact ⟨x, q1, q2⟩) fun a14 v3 w3 r3 h13 => hK _ _ (r3.1.l) fun hS3 => ?_
  clear hK KK
  refine wpAnyH_done (by kernel_rfl) ?_ _
  have h15 := h13.subs (l' := [(0, _)]) rfl
  clear h13
  exact bodyPost_normP (results_none rfl _ _ _) h15.defs ⟨_, rfl, r3.1, ((Turns.refl _ _).drew.trans (Turns.of_below b2)).trans r3.2⟩

set_option maxHeartbeats 8000000 in
theorem redoR_any {w : World} {lg g v d a at_ size : Nat} {M : MemM} (hg0 : LogRP w lg g v d a at_ size M) (hok : LogOk at_ size M) :
    Calls Tryz.prog 38 #[.pointer (some ⟨lg, 0, none⟩)] w fun e w' => ∃ x, e = .returned x ∧ x = .int .i64 ((logR M.V at_ size).1.length : Int) ∧ LogRP w' lg g v d a at_ size (redoM M at_ size) ∧ Turns (XM v d a) w w' := by
  have HG0 := hid hg0
  have hok2 := hok
  obtain ⟨s1, s2, s3, s4⟩ := hok2
  clear hg0
  go_enter Tryz.func38, Tryz.ntmps38
  iterate 3 go_step
  refine wpk_enter (N := 65) (l := [(0, .pointer (some ⟨lg, 0, none⟩))]) ⟨rfl, (by intro x hx; simp only [List.mem_cons, List.not_mem_nil, or_false] at hx; rcases hx with rfl <;> rfl), rfl⟩ fun a2 h1 => ?_
  refine wv h1 rfl rfl rfl rfl (.int .i64 0) rfl fun a4 h3 => ?_
  iterate 5 go_step
  refine wmk h3 rfl rfl rfl rfl 0 rfl (fun _ => rfl) fun a6 h5 => ?_
  refine wpk_call h5 (wanted_none rfl) rfl (by decide) (fr rfl) (fun args => callP_56 args _) rfl #[.pointer (some ⟨lg, 0, none⟩)] (by simp only [List.map_toArray, List.map_cons, List.map_nil, h5.ev 9 rfl]) (R := fun xv w' => ∃ ra rc rs, xv = .tuple #[.slice ra rs.length rc, .int .i64 ((logR M.V at_ size).2 : Int)] ∧ rs.map (·.2.2) = (logR M.V at_ size).1 ∧ RecsP w' w.heap.size ra rc rs ∧ Below w.heap.size w w') (readR_any HG0.out hok) fun a8 v1 w1 r1 h7 => ?_
  obtain ⟨ra, rc, rs, rfl, hrs, hrec, b1⟩ := r1
  have HG1 := hid (HG0.out.mono b1); have HREC := hid hrec; have HRS := hid hrs; have HB1 := hid b1; have hlt0 := HG0.out.lt; have hn1 : rs.length ≤ 65536 := by have z := congrArg List.length hrs; rw [List.length_map] at z; have z2 := logR_n M.V at_ size; omega
  have hptk : ∀ r ∈ rs, ptOk r.2.2 := fun r hr => logR_ok (by rw [← hrs]; exact List.mem_map.2 ⟨r, hr, rfl⟩)
  clear hrec hrs b1
  refine wmk h7 rfl rfl rfl rfl 10 rfl (fun _ => rfl) fun a10 h9 => ?_
  refine wv h9 rfl rfl rfl rfl (.slice ra rs.length rc) (by unfold execOp; simp only [h9.ev 8 rfl]; exact rfl) fun a12 h11 => ?_
  refine wv h11 rfl rfl rfl rfl (.int .i64 ((logR M.V at_ size).2 : Int)) (by unfold execOp; simp only [h11.ev 8 rfl]; exact rfl) fun a14 h13 => ?_
  refine wmk h13 rfl rfl rfl rfl 11 rfl (fun _ => rfl) fun a16 h15 => ?_
  refine wmk h15 rfl rfl rfl rfl 12 rfl (fun _ => rfl) fun a18 h17 => ?_
  have h19 := h17.subs (l' := [(3, _), (2, _), (0, _)]) rfl
  clear h17
  iterate 6 go_step
  refine wv h19 rfl rfl rfl rfl (.int .i64 0) rfl fun a21 h20 => ?_
  iterate 4 go_step
  have h22 := h20.subs (l' := [(5, _), (3, _), (0, _)]) rfl
  clear h20
  refine wp_loop (I := fun a' w' => ∃ (i : Nat) (Mo : MemM), i ≤ rs.length ∧ Kn 65 [(5, .int .i64 (i : Int)), (3, .slice ra rs.length rc), (0, .pointer (some ⟨lg, 0, none⟩))] a' ∧ LogRP w' lg g v d a at_ size Mo ∧ Turns (XM v d a) w1 w' ∧ Mo = ((rs.map (·.2.2)).take i).flatten.foldl wStep M) (μ := fun a' _ => rs.length - (intOf (a'.eval (.tmp 5))).toNat) ⟨0, M, by omega, h22, HG1.out, Turns.refl _ _, rfl⟩ ?_
  clear HG1 h22
  rintro aL wm ⟨i, Mo, hi, hK, hgm, htm, hmo⟩
  have HGm := hid hgm; have HTm := hid htm; have HMo := hid hmo; clear hgm htm hmo
  by_cases hlt : i < rs.length
  case pos =>
    have hd0 : decide ((i : Int) < (rs.length : Int)) = true := decide_eq_true (by omega)
    obtain ⟨pb, po, ad, cc, L, ha0, hcell0, hrow0, hLi⟩ := recs_at HREC.out hlt
    have hpo := hptk rs[i] (List.getElem_mem hlt)
    have hLe : rs[i].2.2 = L := by rw [List.getElem?_map, List.getElem?_eq_getElem hlt] at hLi; injection hLi
    rw [hLe] at hpo
    have hL64 := hpo.2.2
    have hpbX : ¬ XM v d a pb := by have z := own_ge HREC.out.o ha0; intro e; rcases e with e | e | e <;> omega
    iterate 4 go_step
    refine wmk hK rfl rfl rfl rfl 5 rfl (fun _ => rfl) fun a24 h23 => ?_
    refine wmk h23 rfl rfl rfl rfl 3 rfl (fun _ => rfl) fun a26 h25 => ?_
    refine wv h25 rfl rfl rfl rfl (.int .i64 (rs.length : Int)) (run_lenRP rfl (h25.ev 14 rfl) _) fun a28 h27 => ?_
    refine wv h27 rfl rfl rfl rfl (.bool true) (by unfold execOp; simp only [h27.ev 13 rfl, h27.ev 15 rfl]; exact run_v (ltIP _ _ _ _ _ hd0)) fun a30 h29 => ?_
    have h31 := h29.subs (l' := [(16, _), (5, _), (3, _), (0, _)]) rfl
    clear h29
    iterate 3 go_step
    refine wp_cond (t := true) (h31.ev 16 rfl) ?_
    simp only [if_true]
    have h32 := h31.subs (l' := [(5, _), (3, _), (0, _)]) rfl
    clear h31
    iterate 7 go_step
    refine wv h32 rfl rfl rfl rfl (.int .i64 0) rfl fun a34 h33 => ?_
    iterate 4 go_step
    refine wp_loop (I := fun a' w' => ∃ (k : Nat) (Mk : MemM), k ≤ L.length ∧ Kn 65 [(6, .int .i64 (k : Int)), (5, .int .i64 (i : Int)), (3, .slice ra rs.length rc), (0, .pointer (some ⟨lg, 0, none⟩))] a' ∧ LogRP w' lg g v d a at_ size Mk ∧ Turns (XM v d a) w1 w' ∧ Mk = (L.take k).foldl wStep Mo) (μ := fun a' _ => L.length - (intOf (a'.eval (.tmp 6))).toNat) ⟨0, Mo, by omega, h33, HGm.out, HTm.out, rfl⟩ ?_
    clear HGm HTm h33
    rintro aL2 wn ⟨k, Mk, hk, hK2, hgn, htn, hmk⟩
    have HGn := hid hgn; have HTn := hid htn; have HMk := hid hmk; clear hgn htn hmk
    by_cases hltk : k < L.length
    case pos =>
      have hdk : decide ((k : Int) < (L.length : Int)) = true := decide_eq_true (by omega)
      obtain ⟨qb, qo, hqa, hrgs⟩ := rowPt_at hrow0 (by omega)
      have hrg0 := hrgs k hltk
      have hqi := hpo.1 L[k] (List.getElem_mem hltk); have hqd := hpo.2.1 L[k] (List.getElem_mem hltk)
      have hqbX : ¬ XM v d a qb := by have z := recs_ge HREC.out hlt ha0 hcell0 hqa; intro e; rcases e with e | e | e <;> omega
      obtain ⟨q, hq⟩ : ∃ q, q = L[k] := ⟨_, rfl⟩
      rw [← hq] at hrg0 hqi hqd; unfold okI at hqi; have HQ := hid hq; clear hq hrgs
      have hstep : (L.take (k + 1)).foldl wStep Mo = wStep Mk q := by rw [List.take_add_one, List.getElem?_eq_getElem hltk, Option.toList_some, List.foldl_append, ← HMk.out, ← HQ.out]; rfl
      by_cases hin : inM Mk q.at_ q.d.length = true
      case pos =>
        have herr : errM Mk q.at_ q.d.length = 0 := if_pos hin
        iterate 4 go_step
        refine wmk hK2 rfl rfl rfl rfl 6 rfl (fun _ => rfl) fun a36 h35 => ?_
        refine wmk h35 rfl rfl rfl rfl 3 rfl (fun _ => rfl) fun a38 h37 => ?_
        refine wmk h37 rfl rfl rfl rfl 5 rfl (fun _ => rfl) fun a40 h39 => ?_
        refine wv h39 rfl rfl rfl rfl (.pointer (some ⟨pb, po + i, none⟩)) (by unfold execOp; simp only [h39.ev 20 rfl, h39.ev 21 rfl]; exact run_v (by rw [ha0]; exact ixRP pb po _ rc i hlt _)) fun a42 h41 => ?_
        refine wv h41 rfl rfl rfl rfl (.slice ad L.length cc) (by unfold execOp; simp only [h41.ev 22 rfl]; exact run_v (loadRP (cellT HTn.out hcell0 hpbX))) fun a44 h43 => ?_
        refine wv h43 rfl rfl rfl rfl (.int .i64 (L.length : Int)) (run_lenP rfl (h43.ev 23 rfl) _) fun a46 h45 => ?_
        refine wv h45 rfl rfl rfl rfl (.bool true) (by unfold execOp; simp only [h45.ev 19 rfl, h45.ev 24 rfl]; exact run_v (ltIP _ _ _ _ _ hdk)) fun a48 h47 => ?_
        have h49 := h47.subs (l' := [(25, _), (6, _), (5, _), (3, _), (0, _)]) rfl
        clear h47
        iterate 3 go_step
        refine wp_cond (t := true) (h49.ev 25 rfl) ?_
        simp only [if_true]
        have h50 := h49.subs (l' := [(6, _), (5, _), (3, _), (0, _)]) rfl
        clear h49
        iterate 7 go_step
        refine wmk h50 rfl rfl rfl rfl 3 rfl (fun _ => rfl) fun a52 h51 => ?_
        refine wmk h51 rfl rfl rfl rfl 5 rfl (fun _ => rfl) fun a54 h53 => ?_
        refine wv h53 rfl rfl rfl rfl (.pointer (some ⟨pb, po + i, none⟩)) (by unfold execOp; simp only [h53.ev 28 rfl, h53.ev 29 rfl]; exact run_v (by rw [ha0]; exact ixRP pb po _ rc i hlt _)) fun a56 h55 => ?_
        refine wv h55 rfl rfl rfl rfl (.slice ad L.length cc) (by unfold execOp; simp only [h55.ev 30 rfl]; exact run_v (loadRP (cellT HTn.out hcell0 hpbX))) fun a58 h57 => ?_
        refine wmk h57 rfl rfl rfl rfl 6 rfl (fun _ => rfl) fun a60 h59 => ?_
        refine wv h59 rfl rfl rfl rfl (.pointer (some ⟨qb, qo + k * 2, none⟩)) (by unfold execOp; simp only [h59.ev 31 rfl, h59.ev 32 rfl]; exact run_v (by rw [hqa]; exact ixP qb qo _ cc k hltk _)) fun a62 h61 => ?_
        refine wv h61 rfl rfl rfl rfl (ptV q) (by unfold execOp; simp only [h61.ev 33 rfl]; exact run_v (run_loadAt_mid _ _ _ _ (ptC q) _ (rangeT HTn.out hrg0 hqbX) Tryz.underlying47 rfl (by rw [infoPt]; rfl))) fun a64 h63 => ?_
        refine wv h63 rfl rfl rfl rfl (.pointer (some ⟨wn.heap.size, 0, none⟩)) (run_allocPt rfl _ wn) fun a66 h65 => ?_
        obtain ⟨wp, hwp⟩ : ∃ x, x = wn.alloc (.cells (ptC ⟨0, []⟩).toArray 47) := ⟨_, rfl⟩
        obtain ⟨gp, hgp⟩ : ∃ x, x = wn.heap.size := ⟨_, rfl⟩
        have hk0 : Blk wp gp 47 (ptC ⟨0, []⟩) := by rw [hwp, hgp]; exact blk_newO rfl _ _
        have bp : Below wn.heap.size wn wp := by rw [hwp]; exact albO _ _
        have hgn : gp = wn.heap.size := hgp
        rw [← hgp] at h65; rw [← hwp]; clear hwp hgp
        refine wpk_storeP h65 rfl rfl rfl gp 0 (h65.ev 7 rfl) (ptC q) (h65.ev 34 rfl) (by rw [infoPt]; rfl) (ptC_one _) hk0 (by show 0 + 2 ≤ 2; omega) fun a68 wq h67 kq gq => ?_
        rw [splice_all (by rfl)] at kq
        have bq : Below wn.heap.size wn wq := below_grownS bp gq (by omega) bp.size
        have HP := hid kq; have HGq := hid (HGn.out.mono bq); have HTq : Hid (Turns (XM v d a) w1 wq) := hid (HTn.out.trans (Turns.of_below bq))
        clear kq gq hk0 bp bq
        have h69 := h67.subs (l' := [(7, _), (6, _), (5, _), (3, _), (0, _)]) rfl
        clear h67
        iterate 4 go_step
        have HGd := hid (HGq.out.mono (Below.refl _ _).drew); have HTd : Hid (Turns (XM v d a) w1 wq.drew) := hid HTq.out.drew; have HPd := hid (HP.out.mono (Below.refl _ _).drew); have hgd : gp < wq.drew.heap.size := HPd.out.lt
        refine wp_region_held_drew (S := fun w' => Blk w' lg 54 (logC g at_ size) ∧ Blk w' gp 47 (ptC q)) (by kernel_rfl) ⟨HGd.out.l, HPd.out⟩ (fun hS1 => ?_)
        refine wpk_take hS1 h69 0 rfl rfl (by decide) (fr rfl) (by kernel_rfl) (by kernel_rfl) (by kernel_rfl) (fun _ _ _ _ h => h) (.pointer (some ⟨lg, 0, none⟩)) (Or.inl ⟨Eq.refl true, fun w1 hSw => (by show (execOp _ (⟨_, .move (.tmp 0), _, _, _, _⟩ : Oper)).run _ _ = _; exact (by unfold execOp; simp only [h69.ev 0 rfl]; exact rfl))⟩) fun a71 h70 => ?_
        refine wpk_take hS1 h70 1 rfl rfl (by decide) (fr rfl) (by kernel_rfl) (by kernel_rfl) (by kernel_rfl) (fun _ _ _ _ h => h) (.pointer (some ⟨lg, 0, none⟩)) (Or.inl ⟨Eq.refl true, fun w1 hSw => (by show (execOp _ (⟨_, .nilCheck (.tmp 35), _, _, _, _⟩ : Oper)).run _ _ = _; exact (by unfold execOp; simp only [h70.ev 35 rfl]; exact rfl))⟩) fun a73 h72 => ?_
        refine wpk_take hS1 h72 2 rfl rfl (by decide) (fr rfl) (by kernel_rfl) (by kernel_rfl) (by kernel_rfl) (fun _ _ _ _ h => h) (.pointer (some ⟨lg, 0, none⟩)) (Or.inl ⟨Eq.refl true, fun w1 hSw => (by show (execOp _ (⟨_, .fieldAddr 54 (.tmp 36) 0, _, _, _, _⟩ : Oper)).run _ _ = _; exact (by unfold execOp; simp only [h72.ev 36 rfl]; exact run_v (fa_76_0_0 (lg) _)))⟩) fun a75 h74 => ?_
        refine wpk_take hS1 h74 3 rfl rfl (by decide) (fr rfl) (by kernel_rfl) (by kernel_rfl) (by kernel_rfl) (fun _ _ _ _ h => h) (.pointer (some ⟨g, 0, none⟩)) (Or.inl ⟨Eq.refl true, fun w1 hSw => (by show (execOp _ (⟨_, .load 37 (.tmp 37), _, _, _, _⟩ : Oper)).run _ _ = _; exact (by unfold execOp; simp only [h74.ev 37 rfl]; exact run_v (loadMR (hSw.1.cell (i := 0) (by show 0 < 3; omega)))))⟩) fun a77 h76 => ?_
        refine wpk_take hS1 h76 4 rfl rfl (by decide) (fr rfl) (by kernel_rfl) (by kernel_rfl) (by kernel_rfl) (fun _ _ _ _ h => h) (.pointer (some ⟨gp, 0, none⟩)) (Or.inl ⟨Eq.refl true, fun w1 hSw => (by show (execOp _ (⟨_, .fieldAddr 47 (.tmp 7) 0, _, _, _, _⟩ : Oper)).run _ _ = _; exact (by unfold execOp; simp only [h76.ev 7 rfl]; exact run_v (fa_46_0_0 (gp) _)))⟩) fun a79 h78 => ?_
        refine wpk_take hS1 h78 5 rfl rfl (by decide) (fr rfl) (by kernel_rfl) (by kernel_rfl) (by kernel_rfl) (fun _ _ _ _ h => h) (.int .i64 q.at_) (Or.inl ⟨Eq.refl true, fun w1 hSw => (by show (execOp _ (⟨_, .load 3 (.tmp 39), _, _, _, _⟩ : Oper)).run _ _ = _; exact (by unfold execOp; simp only [h78.ev 39 rfl]; exact run_v (loadIP (hSw.2.cell (i := 0) (by show 0 < 2; omega)))))⟩) fun a81 h80 => ?_
        refine wpk_take hS1 h80 6 rfl rfl (by decide) (fr rfl) (by kernel_rfl) (by kernel_rfl) (by kernel_rfl) (fun _ _ _ _ h => h) (.pointer (some ⟨gp, 1, none⟩)) (Or.inl ⟨Eq.refl true, fun w1 hSw => (by show (execOp _ (⟨_, .fieldAddr 47 (.tmp 7) 1, _, _, _, _⟩ : Oper)).run _ _ = _; exact (by unfold execOp; simp only [h80.ev 7 rfl]; exact run_v (fa_46_0_1 (gp) _)))⟩) fun a83 h82 => ?_
        refine wpk_take hS1 h82 7 rfl rfl (by decide) (fr rfl) (by kernel_rfl) (by kernel_rfl) (by kernel_rfl) (fun _ _ _ _ h => h) (strB q.d) (Or.inl ⟨Eq.refl true, fun w1 hSw => (by show (execOp _ (⟨_, .load 9 (.tmp 41), _, _, _, _⟩ : Oper)).run _ _ = _; exact (by unfold execOp; simp only [h82.ev 41 rfl]; exact run_v (loadSP (hSw.2.cell (i := 1) (by show 1 < 2; omega)))))⟩) fun a85 h84 => ?_
        obtain ⟨yc, w5, hcv, hry, b5⟩ := bytes_of_str wq.drew q.d hqd
        refine wpk_only 8 rfl rfl (by kernel_rfl) fun KK hK => op_val (w' := w5) h84 rfl (by decide) (fr rfl) (.slice (some ⟨wq.drew.heap.size, 0, none⟩) q.d.length yc) (by show (execOp _ (⟨_, .convert 9 26 (.tmp 42), _, _, _, _⟩ : Oper)).run _ _ = _; exact (by unfold execOp; simp only [h84.ev 42 rfl]; exact run_v hcv)) fun a87 h86 => hK _ _ (⟨hS1.1.mono b5, hS1.2.mono b5⟩) fun hS2 => ?_
        clear hK KK
        have HG5 := hid (HGd.out.mono b5); have HT5 : Hid (Turns (XM v d a) w1 w5) := hid (HTd.out.trans (Turns.of_below b5)); have HP5 := hid (HPd.out.mono b5); have hltd := HGd.out.lt
        refine wpk_only 9 rfl rfl (by kernel_rfl) fun KK hK => op_call h86 rfl (by decide) (fr rfl) (fun args => callP_79 args _) rfl #[.pointer (some ⟨g, 0, none⟩), .int .i64 q.at_, .slice (some ⟨wq.drew.heap.size, 0, none⟩) q.d.length yc] (by simp only [List.map_toArray, List.map_cons, List.map_nil, h86.ev 38 rfl, h86.ev 40 rfl, h86.ev 43 rfl]) (R := fun xv w' => xv = .int .i64 (errM Mk q.at_ q.d.length) ∧ MemR w' g v d a (storeU Mk q.at_ q.d) ∧ Turns (fun k => k = v ∨ k = a) w5 w') ((storeR_u HG5.out.m q.at_ hqi (some ⟨wq.drew.heap.size, 0, none⟩) yc q.d hry (fun _ k hk => by obtain ⟨off, e⟩ := hk; cases e; omega)).mono fun e w' q => ⟨_, q.1, rfl, q.2⟩) fun a89 v6 w6 r6 h88 => hK _ _ (⟨r6.2.2.blk hS2.1 (fun e => HG5.out.nX (by rcases e with e | e; exact .inl e; exact .inr (.inr e))), r6.2.2.blk hS2.2 (fun e => by rcases e with e | e; exact blk_ne hS2.2 HG5.out.m.2.2.2.1 (by decide) e; exact blk_ne hS2.2 HG5.out.m.2.2.2.2.2 (by decide) e)⟩) fun hS3 => ?_
        clear hK KK
        obtain ⟨rfl, m6, t6⟩ := r6
        have HG6 := hid (HG5.out.next m6 t6 (by intro k hk; rcases hk with e | e; exact .inl e; exact .inr (.inr e))); have HT6 : Hid (Turns (XM v d a) w1 w6) := hid (HT5.out.trans (t6.mono (by intro k hk; rcases hk with e | e; exact .inl e; exact .inr (.inr e)))); have HP6 := hid hS3.2; clear m6 t6
        rw [herr] at h88
        refine wpk_take hS3 h88 10 rfl rfl (by decide) (fr rfl) (by kernel_rfl) (by kernel_rfl) (by kernel_rfl) (fun _ _ _ _ h => h) (.bool true) (Or.inl ⟨Eq.refl true, fun w1 hSw => (by show (execOp _ (⟨_, .binOp .eql 32 (.tmp 44) (.const (.int .i64 0)) 32, _, _, _, _⟩ : Oper)).run _ _ = _; exact (by unfold execOp; simp only [h88.ev 44 rfl]; exact run_v (eqEP _ _ _ _ _ (by decide))))⟩) fun a91 h90 => ?_
        refine wpAnyH_done (by kernel_rfl) ?_ _
        have h92 := h90.subs (l' := [(45, _), (7, _), (6, _), (5, _), (3, _), (0, _)]) rfl
        clear h90
        iterate 2 go_step
        refine wp_cond (t := true) (h92.ev 45 rfl) ?_
        simp only [if_true]
        have h93 := h92.subs (l' := [(7, _), (6, _), (5, _), (3, _), (0, _)]) rfl
        clear h92
        have HGe := hid (HG6.out.mono (Below.refl _ _).drew); have HTe : Hid (Turns (XM v d a) w1 w6.drew) := hid HT6.out.drew; have HPe := hid (HP6.out.mono (Below.refl _ _).drew)
        refine wp_region_held_drew (S := fun w' => Blk w' lg 54 (logC g at_ size) ∧ Blk w' gp 47 (ptC q)) (by kernel_rfl) ⟨HGe.out.l, HPe.out⟩ (fun hS1 => ?_)
        refine wpk_take hS1 h93 0 rfl rfl (by decide) (fr rfl) (by kernel_rfl) (by kernel_rfl) (by kernel_rfl) (fun _ _ _ _ h => h) (.pointer (some ⟨lg, 0, none⟩)) (Or.inl ⟨Eq.refl true, fun w1 hSw => (by show (execOp _ (⟨_, .move (.tmp 0), _, _, _, _⟩ : Oper)).run _ _ = _; exact (by unfold execOp; simp only [h93.ev 0 rfl]; exact rfl))⟩) fun a95 h94 => ?_
        refine wpk_take hS1 h94 1 rfl rfl (by decide) (fr rfl) (by kernel_rfl) (by kernel_rfl) (by kernel_rfl) (fun _ _ _ _ h => h) (.pointer (some ⟨lg, 0, none⟩)) (Or.inl ⟨Eq.refl true, fun w1 hSw => (by show (execOp _ (⟨_, .nilCheck (.tmp 46), _, _, _, _⟩ : Oper)).run _ _ = _; exact (by unfold execOp; simp only [h94.ev 46 rfl]; exact rfl))⟩) fun a97 h96 => ?_
        refine wpk_take hS1 h96 2 rfl rfl (by decide) (fr rfl) (by kernel_rfl) (by kernel_rfl) (by kernel_rfl) (fun _ _ _ _ h => h) (.pointer (some ⟨lg, 0, none⟩)) (Or.inl ⟨Eq.refl true, fun w1 hSw => (by show (execOp _ (⟨_, .fieldAddr 54 (.tmp 47) 0, _, _, _, _⟩ : Oper)).run _ _ = _; exact (by unfold execOp; simp only [h96.ev 47 rfl]; exact run_v (fa_76_0_0 (lg) _)))⟩) fun a99 h98 => ?_
        refine wpk_take hS1 h98 3 rfl rfl (by decide) (fr rfl) (by kernel_rfl) (by kernel_rfl) (by kernel_rfl) (fun _ _ _ _ h => h) (.pointer (some ⟨g, 0, none⟩)) (Or.inl ⟨Eq.refl true, fun w1 hSw => (by show (execOp _ (⟨_, .load 37 (.tmp 48), _, _, _, _⟩ : Oper)).run _ _ = _; exact (by unfold execOp; simp only [h98.ev 48 rfl]; exact run_v (loadMR (hSw.1.cell (i := 0) (by show 0 < 3; omega)))))⟩) fun a101 h100 => ?_
        refine wpk_take hS1 h100 4 rfl rfl (by decide) (fr rfl) (by kernel_rfl) (by kernel_rfl) (by kernel_rfl) (fun _ _ _ _ h => h) (.pointer (some ⟨gp, 0, none⟩)) (Or.inl ⟨Eq.refl true, fun w1 hSw => (by show (execOp _ (⟨_, .fieldAddr 47 (.tmp 7) 0, _, _, _, _⟩ : Oper)).run _ _ = _; exact (by unfold execOp; simp only [h100.ev 7 rfl]; exact run_v (fa_46_0_0 (gp) _)))⟩) fun a103 h102 => ?_
        refine wpk_take hS1 h102 5 rfl rfl (by decide) (fr rfl) (by kernel_rfl) (by kernel_rfl) (by kernel_rfl) (fun _ _ _ _ h => h) (.int .i64 q.at_) (Or.inl ⟨Eq.refl true, fun w1 hSw => (by show (execOp _ (⟨_, .load 3 (.tmp 50), _, _, _, _⟩ : Oper)).run _ _ = _; exact (by unfold execOp; simp only [h102.ev 50 rfl]; exact run_v (loadIP (hSw.2.cell (i := 0) (by show 0 < 2; omega)))))⟩) fun a105 h104 => ?_
        refine wpk_take hS1 h104 6 rfl rfl (by decide) (fr rfl) (by kernel_rfl) (by kernel_rfl) (by kernel_rfl) (fun _ _ _ _ h => h) (.pointer (some ⟨gp, 1, none⟩)) (Or.inl ⟨Eq.refl true, fun w1 hSw => (by show (execOp _ (⟨_, .fieldAddr 47 (.tmp 7) 1, _, _, _, _⟩ : Oper)).run _ _ = _; exact (by unfold execOp; simp only [h104.ev 7 rfl]; exact run_v (fa_46_0_1 (gp) _)))⟩) fun a107 h106 => ?_
        refine wpk_take hS1 h106 7 rfl rfl (by decide) (fr rfl) (by kernel_rfl) (by kernel_rfl) (by kernel_rfl) (fun _ _ _ _ h => h) (strB q.d) (Or.inl ⟨Eq.refl true, fun w1 hSw => (by show (execOp _ (⟨_, .load 9 (.tmp 52), _, _, _, _⟩ : Oper)).run _ _ = _; exact (by unfold execOp; simp only [h106.ev 52 rfl]; exact run_v (loadSP (hSw.2.cell (i := 1) (by show 1 < 2; omega)))))⟩) fun a109 h108 => ?_
        refine wpk_take hS1 h108 8 rfl rfl (by decide) (fr rfl) (by kernel_rfl) (by kernel_rfl) (by kernel_rfl) (fun _ _ _ _ h => h) (.int .i64 (q.d.length : Int)) (Or.inl ⟨Eq.refl true, fun w1 hSw => (by show (execOp _ (⟨_, .call { callee := .builtin .len, args := #[(.tmp 53)], argTypes := #[9] }, _, _, _, _⟩ : Oper)).run _ _ = _; exact (run_lenSP rfl (h108.ev 53 rfl) _))⟩) fun a111 h110 => ?_
        refine wpk_only 9 rfl rfl (by kernel_rfl) fun KK hK => op_call h110 rfl (by decide) (fr rfl) (fun args => callP_80 args _) rfl #[.pointer (some ⟨g, 0, none⟩), .int .i64 q.at_, .int .i64 (q.d.length : Int)] (by simp only [List.map_toArray, List.map_cons, List.map_nil, h110.ev 49 rfl, h110.ev 51 rfl, h110.ev 54 rfl]) (R := fun xv w' => MemR w' g v d a (flushU (storeU Mk q.at_ q.d) q.at_ q.d.length) ∧ Turns (fun k => k = a) w6.drew w') ((flushR_u HGe.out.m q.at_ q.d.length hqi (by omega)).mono fun e w' q => ⟨_, q.1, q.2⟩) fun a113 v9 w9 r9 h112 => hK _ _ (⟨r9.2.blk hS1.1 (fun e => HGe.out.nX (.inr (.inr e))), r9.2.blk hS1.2 (fun e => blk_ne hS1.2 HGe.out.m.2.2.2.2.2 (by decide) e)⟩) fun hS9 => ?_
        clear hK KK
        have HG9 := hid (HGe.out.next r9.1 r9.2 (by intro k hk; exact .inr (.inr hk))); have HT9 : Hid (Turns (XM v d a) w1 w9) := hid (HTe.out.trans (r9.2.mono (by intro k hk; exact .inr (.inr hk)))); clear r9
        refine wpAnyH_done (by kernel_rfl) ?_ _
        have h114 := h112.subs (l' := [(7, _), (6, _), (5, _), (3, _), (0, _)]) rfl
        clear h112
        iterate 3 go_step
        refine wmk h114 rfl rfl rfl rfl 6 rfl (fun _ => rfl) fun a116 h115 => ?_
        refine wv h115 rfl rfl rfl rfl (.int .i64 ((k + 1 : Nat) : Int)) (by unfold execOp; simp only [h115.ev 26 rfl]; exact run_v (addIP _ _ k (by omega) _)) fun a118 h117 => ?_
        have h119 := h117.subs (l' := [(27, _), (26, _), (7, _), (5, _), (3, _), (0, _)]) rfl
        clear h117
        refine wmk h119 rfl rfl rfl rfl 27 rfl (fun _ => rfl) fun a121 h120 => ?_
        have h122 := h120.subs (l' := [(6, _), (7, _), (5, _), (3, _), (0, _)]) rfl
        clear h120
        iterate 2 go_step
        refine ⟨⟨k + 1, _, by omega, h122.subs rfl, HG9.out, HT9.out, ?_⟩, ?_⟩
        · rw [hstep]; unfold wStep; rw [if_pos hin]
        · rw [h122.ev 6 rfl, hK2.ev 6 rfl]; simp [intOf]; omega
      have herr : errM Mk q.at_ q.d.length = 1 := if_neg hin
      iterate 4 go_step
      refine wmk hK2 rfl rfl rfl rfl 6 rfl (fun _ => rfl) fun a124 h123 => ?_
      refine wmk h123 rfl rfl rfl rfl 3 rfl (fun _ => rfl) fun a126 h125 => ?_
      refine wmk h125 rfl rfl rfl rfl 5 rfl (fun _ => rfl) fun a128 h127 => ?_
      refine wv h127 rfl rfl rfl rfl (.pointer (some ⟨pb, po + i, none⟩)) (by unfold execOp; simp only [h127.ev 20 rfl, h127.ev 21 rfl]; exact run_v (by rw [ha0]; exact ixRP pb po _ rc i hlt _)) fun a130 h129 => ?_
      refine wv h129 rfl rfl rfl rfl (.slice ad L.length cc) (by unfold execOp; simp only [h129.ev 22 rfl]; exact run_v (loadRP (cellT HTn.out hcell0 hpbX))) fun a132 h131 => ?_
      refine wv h131 rfl rfl rfl rfl (.int .i64 (L.length : Int)) (run_lenP rfl (h131.ev 23 rfl) _) fun a134 h133 => ?_
      refine wv h133 rfl rfl rfl rfl (.bool true) (by unfold execOp; simp only [h133.ev 19 rfl, h133.ev 24 rfl]; exact run_v (ltIP _ _ _ _ _ hdk)) fun a136 h135 => ?_
      have h137 := h135.subs (l' := [(25, _), (6, _), (5, _), (3, _), (0, _)]) rfl
      clear h135
      iterate 3 go_step
      refine wp_cond (t := true) (h137.ev 25 rfl) ?_
      simp only [if_true]
      have h138 := h137.subs (l' := [(6, _), (5, _), (3, _), (0, _)]) rfl
      clear h137
      iterate 7 go_step
      refine wmk h138 rfl rfl rfl rfl 3 rfl (fun _ => rfl) fun a140 h139 => ?_
      refine wmk h139 rfl rfl rfl rfl 5 rfl (fun _ => rfl) fun a142 h141 => ?_
      refine wv h141 rfl rfl rfl rfl (.pointer (some ⟨pb, po + i, none⟩)) (by unfold execOp; simp only [h141.ev 28 rfl, h141.ev 29 rfl]; exact run_v (by rw [ha0]; exact ixRP pb po _ rc i hlt _)) fun a144 h143 => ?_
      refine wv h143 rfl rfl rfl rfl (.slice ad L.length cc) (by unfold execOp; simp only [h143.ev 30 rfl]; exact run_v (loadRP (cellT HTn.out hcell0 hpbX))) fun a146 h145 => ?_
      refine wmk h145 rfl rfl rfl rfl 6 rfl (fun _ => rfl) fun a148 h147 => ?_
      refine wv h147 rfl rfl rfl rfl (.pointer (some ⟨qb, qo + k * 2, none⟩)) (by unfold execOp; simp only [h147.ev 31 rfl, h147.ev 32 rfl]; exact run_v (by rw [hqa]; exact ixP qb qo _ cc k hltk _)) fun a150 h149 => ?_
      refine wv h149 rfl rfl rfl rfl (ptV q) (by unfold execOp; simp only [h149.ev 33 rfl]; exact run_v (run_loadAt_mid _ _ _ _ (ptC q) _ (rangeT HTn.out hrg0 hqbX) Tryz.underlying47 rfl (by rw [infoPt]; rfl))) fun a152 h151 => ?_
      refine wv h151 rfl rfl rfl rfl (.pointer (some ⟨wn.heap.size, 0, none⟩)) (run_allocPt rfl _ wn) fun a154 h153 => ?_
      obtain ⟨wp, hwp⟩ : ∃ x, x = wn.alloc (.cells (ptC ⟨0, []⟩).toArray 47) := ⟨_, rfl⟩
      obtain ⟨gp, hgp⟩ : ∃ x, x = wn.heap.size := ⟨_, rfl⟩
      have hk0 : Blk wp gp 47 (ptC ⟨0, []⟩) := by rw [hwp, hgp]; exact blk_newO rfl _ _
      have bp : Below wn.heap.size wn wp := by rw [hwp]; exact albO _ _
      have hgn : gp = wn.heap.size := hgp
      rw [← hgp] at h153; rw [← hwp]; clear hwp hgp
      refine wpk_storeP h153 rfl rfl rfl gp 0 (h153.ev 7 rfl) (ptC q) (h153.ev 34 rfl) (by rw [infoPt]; rfl) (ptC_one _) hk0 (by show 0 + 2 ≤ 2; omega) fun a156 wq h155 kq gq => ?_
      rw [splice_all (by rfl)] at kq
      have bq : Below wn.heap.size wn wq := below_grownS bp gq (by omega) bp.size
      have HP := hid kq; have HGq := hid (HGn.out.mono bq); have HTq : Hid (Turns (XM v d a) w1 wq) := hid (HTn.out.trans (Turns.of_below bq))
      clear kq gq hk0 bp bq
      have h157 := h155.subs (l' := [(7, _), (6, _), (5, _), (3, _), (0, _)]) rfl
      clear h155
      iterate 4 go_step
      have HGd := hid (HGq.out.mono (Below.refl _ _).drew); have HTd : Hid (Turns (XM v d a) w1 wq.drew) := hid HTq.out.drew; have HPd := hid (HP.out.mono (Below.refl _ _).drew); have hgd : gp < wq.drew.heap.size := HPd.out.lt
      refine wp_region_held_drew (S := fun w' => Blk w' lg 54 (logC g at_ size) ∧ Blk w' gp 47 (ptC q)) (by kernel_rfl) ⟨HGd.out.l, HPd.out⟩ (fun hS1 => ?_)
      refine wpk_take hS1 h157 0 rfl rfl (by decide) (fr rfl) (by kernel_rfl) (by kernel_rfl) (by kernel_rfl) (fun _ _ _ _ h => h) (.pointer (some ⟨lg, 0, none⟩)) (Or.inl ⟨Eq.refl true, fun w1 hSw => (by show (execOp _ (⟨_, .move (.tmp 0), _, _, _, _⟩ : Oper)).run _ _ = _; exact (by unfold execOp; simp only [h157.ev 0 rfl]; exact rfl))⟩) fun a159 h158 => ?_
      refine wpk_take hS1 h158 1 rfl rfl (by decide) (fr rfl) (by kernel_rfl) (by kernel_rfl) (by kernel_rfl) (fun _ _ _ _ h => h) (.pointer (some ⟨lg, 0, none⟩)) (Or.inl ⟨Eq.refl true, fun w1 hSw => (by show (execOp _ (⟨_, .nilCheck (.tmp 35), _, _, _, _⟩ : Oper)).run _ _ = _; exact (by unfold execOp; simp only [h158.ev 35 rfl]; exact rfl))⟩) fun a161 h160 => ?_
      refine wpk_take hS1 h160 2 rfl rfl (by decide) (fr rfl) (by kernel_rfl) (by kernel_rfl) (by kernel_rfl) (fun _ _ _ _ h => h) (.pointer (some ⟨lg, 0, none⟩)) (Or.inl ⟨Eq.refl true, fun w1 hSw => (by show (execOp _ (⟨_, .fieldAddr 54 (.tmp 36) 0, _, _, _, _⟩ : Oper)).run _ _ = _; exact (by unfold execOp; simp only [h160.ev 36 rfl]; exact run_v (fa_76_0_0 (lg) _)))⟩) fun a163 h162 => ?_
      refine wpk_take hS1 h162 3 rfl rfl (by decide) (fr rfl) (by kernel_rfl) (by kernel_rfl) (by kernel_rfl) (fun _ _ _ _ h => h) (.pointer (some ⟨g, 0, none⟩)) (Or.inl ⟨Eq.refl true, fun w1 hSw => (by show (execOp _ (⟨_, .load 37 (.tmp 37), _, _, _, _⟩ : Oper)).run _ _ = _; exact (by unfold execOp; simp only [h162.ev 37 rfl]; exact run_v (loadMR (hSw.1.cell (i := 0) (by show 0 < 3; omega)))))⟩) fun a165 h164 => ?_
      refine wpk_take hS1 h164 4 rfl rfl (by decide) (fr rfl) (by kernel_rfl) (by kernel_rfl) (by kernel_rfl) (fun _ _ _ _ h => h) (.pointer (some ⟨gp, 0, none⟩)) (Or.inl ⟨Eq.refl true, fun w1 hSw => (by show (execOp _ (⟨_, .fieldAddr 47 (.tmp 7) 0, _, _, _, _⟩ : Oper)).run _ _ = _; exact (by unfold execOp; simp only [h164.ev 7 rfl]; exact run_v (fa_46_0_0 (gp) _)))⟩) fun a167 h166 => ?_
      refine wpk_take hS1 h166 5 rfl rfl (by decide) (fr rfl) (by kernel_rfl) (by kernel_rfl) (by kernel_rfl) (fun _ _ _ _ h => h) (.int .i64 q.at_) (Or.inl ⟨Eq.refl true, fun w1 hSw => (by show (execOp _ (⟨_, .load 3 (.tmp 39), _, _, _, _⟩ : Oper)).run _ _ = _; exact (by unfold execOp; simp only [h166.ev 39 rfl]; exact run_v (loadIP (hSw.2.cell (i := 0) (by show 0 < 2; omega)))))⟩) fun a169 h168 => ?_
      refine wpk_take hS1 h168 6 rfl rfl (by decide) (fr rfl) (by kernel_rfl) (by kernel_rfl) (by kernel_rfl) (fun _ _ _ _ h => h) (.pointer (some ⟨gp, 1, none⟩)) (Or.inl ⟨Eq.refl true, fun w1 hSw => (by show (execOp _ (⟨_, .fieldAddr 47 (.tmp 7) 1, _, _, _, _⟩ : Oper)).run _ _ = _; exact (by unfold execOp; simp only [h168.ev 7 rfl]; exact run_v (fa_46_0_1 (gp) _)))⟩) fun a171 h170 => ?_
      refine wpk_take hS1 h170 7 rfl rfl (by decide) (fr rfl) (by kernel_rfl) (by kernel_rfl) (by kernel_rfl) (fun _ _ _ _ h => h) (strB q.d) (Or.inl ⟨Eq.refl true, fun w1 hSw => (by show (execOp _ (⟨_, .load 9 (.tmp 41), _, _, _, _⟩ : Oper)).run _ _ = _; exact (by unfold execOp; simp only [h170.ev 41 rfl]; exact run_v (loadSP (hSw.2.cell (i := 1) (by show 1 < 2; omega)))))⟩) fun a173 h172 => ?_
      obtain ⟨yc, w5, hcv, hry, b5⟩ := bytes_of_str wq.drew q.d hqd
      refine wpk_only 8 rfl rfl (by kernel_rfl) fun KK hK => op_val (w' := w5) h172 rfl (by decide) (fr rfl) (.slice (some ⟨wq.drew.heap.size, 0, none⟩) q.d.length yc) (by show (execOp _ (⟨_, .convert 9 26 (.tmp 42), _, _, _, _⟩ : Oper)).run _ _ = _; exact (by unfold execOp; simp only [h172.ev 42 rfl]; exact run_v hcv)) fun a175 h174 => hK _ _ (⟨hS1.1.mono b5, hS1.2.mono b5⟩) fun hS2 => ?_
      clear hK KK
      have HG5 := hid (HGd.out.mono b5); have HT5 : Hid (Turns (XM v d a) w1 w5) := hid (HTd.out.trans (Turns.of_below b5)); have HP5 := hid (HPd.out.mono b5); have hltd := HGd.out.lt
      refine wpk_only 9 rfl rfl (by kernel_rfl) fun KK hK => op_call h174 rfl (by decide) (fr rfl) (fun args => callP_79 args _) rfl #[.pointer (some ⟨g, 0, none⟩), .int .i64 q.at_, .slice (some ⟨wq.drew.heap.size, 0, none⟩) q.d.length yc] (by simp only [List.map_toArray, List.map_cons, List.map_nil, h174.ev 38 rfl, h174.ev 40 rfl, h174.ev 43 rfl]) (R := fun xv w' => xv = .int .i64 (errM Mk q.at_ q.d.length) ∧ MemR w' g v d a (storeU Mk q.at_ q.d) ∧ Turns (fun k => k = v ∨ k = a) w5 w') ((storeR_u HG5.out.m q.at_ hqi (some ⟨wq.drew.heap.size, 0, none⟩) yc q.d hry (fun _ k hk => by obtain ⟨off, e⟩ := hk; cases e; omega)).mono fun e w' q => ⟨_, q.1, rfl, q.2⟩) fun a177 v6 w6 r6 h176 => hK _ _ (⟨r6.2.2.blk hS2.1 (fun e => HG5.out.nX (by rcases e with e | e; exact .inl e; exact .inr (.inr e))), r6.2.2.blk hS2.2 (fun e => by rcases e with e | e; exact blk_ne hS2.2 HG5.out.m.2.2.2.1 (by decide) e; exact blk_ne hS2.2 HG5.out.m.2.2.2.2.2 (by decide) e)⟩) fun hS3 => ?_
      clear hK KK
      obtain ⟨rfl, m6, t6⟩ := r6
      have HG6 := hid (HG5.out.next m6 t6 (by intro k hk; rcases hk with e | e; exact .inl e; exact .inr (.inr e))); have HT6 : Hid (Turns (XM v d a) w1 w6) := hid (HT5.out.trans (t6.mono (by intro k hk; rcases hk with e | e; exact .inl e; exact .inr (.inr e)))); have HP6 := hid hS3.2; clear m6 t6
      rw [herr] at h176
      refine wpk_take hS3 h176 10 rfl rfl (by decide) (fr rfl) (by kernel_rfl) (by kernel_rfl) (by kernel_rfl) (fun _ _ _ _ h => h) (.bool false) (Or.inl ⟨Eq.refl true, fun w1 hSw => (by show (execOp _ (⟨_, .binOp .eql 32 (.tmp 44) (.const (.int .i64 0)) 32, _, _, _, _⟩ : Oper)).run _ _ = _; exact (by unfold execOp; simp only [h176.ev 44 rfl]; exact run_v (eqEP _ _ _ _ _ (by decide))))⟩) fun a179 h178 => ?_
      refine wpAnyH_done (by kernel_rfl) ?_ _
      have h180 := h178.subs (l' := [(45, _), (7, _), (6, _), (5, _), (3, _), (0, _)]) rfl
      clear h178
      iterate 2 go_step
      refine wp_cond (t := false) (h180.ev 45 rfl) ?_
      simp only [Bool.false_eq_true, if_false]
      have h181 := h180.subs (l' := [(7, _), (6, _), (5, _), (3, _), (0, _)]) rfl
      clear h180
      iterate 4 go_step
      refine wmk h181 rfl rfl rfl rfl 6 rfl (fun _ => rfl) fun a183 h182 => ?_
      refine wv h182 rfl rfl rfl rfl (.int .i64 ((k + 1 : Nat) : Int)) (by unfold execOp; simp only [h182.ev 26 rfl]; exact run_v (addIP _ _ k (by omega) _)) fun a185 h184 => ?_
      have h186 := h184.subs (l' := [(27, _), (26, _), (7, _), (5, _), (3, _), (0, _)]) rfl
      clear h184
      refine wmk h186 rfl rfl rfl rfl 27 rfl (fun _ => rfl) fun a188 h187 => ?_
      have h189 := h187.subs (l' := [(6, _), (7, _), (5, _), (3, _), (0, _)]) rfl
      clear h187
      iterate 2 go_step
      refine ⟨⟨k + 1, _, by omega, h189.subs rfl, HG6.out, HT6.out, ?_⟩, ?_⟩
      · rw [hstep]; unfold wStep; rw [if_neg hin]; unfold storeU; rw [if_neg hin]
      · rw [h189.ev 6 rfl, hK2.ev 6 rfl]; simp [intOf]; omega
    have hdk : decide ((k : Int) < (L.length : Int)) = false := decide_eq_false (by omega)
    iterate 4 go_step
    refine wmk hK2 rfl rfl rfl rfl 6 rfl (fun _ => rfl) fun a191 h190 => ?_
    refine wmk h190 rfl rfl rfl rfl 3 rfl (fun _ => rfl) fun a193 h192 => ?_
    refine wmk h192 rfl rfl rfl rfl 5 rfl (fun _ => rfl) fun a195 h194 => ?_
    refine wv h194 rfl rfl rfl rfl (.pointer (some ⟨pb, po + i, none⟩)) (by unfold execOp; simp only [h194.ev 20 rfl, h194.ev 21 rfl]; exact run_v (by rw [ha0]; exact ixRP pb po _ rc i hlt _)) fun a197 h196 => ?_
    refine wv h196 rfl rfl rfl rfl (.slice ad L.length cc) (by unfold execOp; simp only [h196.ev 22 rfl]; exact run_v (loadRP (cellT HTn.out hcell0 hpbX))) fun a199 h198 => ?_
    refine wv h198 rfl rfl rfl rfl (.int .i64 (L.length : Int)) (run_lenP rfl (h198.ev 23 rfl) _) fun a201 h200 => ?_
    refine wv h200 rfl rfl rfl rfl (.bool false) (by unfold execOp; simp only [h200.ev 19 rfl, h200.ev 24 rfl]; exact run_v (ltIP _ _ _ _ _ hdk)) fun a203 h202 => ?_
    have h204 := h202.subs (l' := [(25, _), (6, _), (5, _), (3, _), (0, _)]) rfl
    clear h202
    iterate 3 go_step
    refine wp_cond (t := false) (h204.ev 25 rfl) ?_
    simp only [Bool.false_eq_true, if_false]
    have h205 := h204.subs (l' := [(6, _), (5, _), (3, _), (0, _)]) rfl
    clear h204
    iterate 6 go_step
    refine wmk h205 rfl rfl rfl rfl 5 rfl (fun _ => rfl) fun a207 h206 => ?_
    refine wv h206 rfl rfl rfl rfl (.int .i64 ((i + 1 : Nat) : Int)) (by unfold execOp; simp only [h206.ev 17 rfl]; exact run_v (addIP _ _ i (by omega) _)) fun a209 h208 => ?_
    have h210 := h208.subs (l' := [(18, _), (17, _), (6, _), (3, _), (0, _)]) rfl
    clear h208
    refine wmk h210 rfl rfl rfl rfl 18 rfl (fun _ => rfl) fun a212 h211 => ?_
    have h213 := h211.subs (l' := [(5, _), (6, _), (3, _), (0, _)]) rfl
    clear h211
    iterate 2 go_step
    refine ⟨⟨i + 1, Mk, by omega, h213.subs rfl, HGn.out, HTn.out, ?_⟩, ?_⟩
    · rw [HMk.out, HMo.out, List.take_add_one, hLi, Option.toList_some, List.flatten_append, List.foldl_append, show k = L.length by omega, List.take_length]; simp
    · rw [h213.ev 5 rfl, hK.ev 5 rfl]; simp [intOf]; omega
  have hd0 : decide ((i : Int) < (rs.length : Int)) = false := decide_eq_false (by omega)
  iterate 4 go_step
  refine wmk hK rfl rfl rfl rfl 5 rfl (fun _ => rfl) fun a215 h214 => ?_
  refine wmk h214 rfl rfl rfl rfl 3 rfl (fun _ => rfl) fun a217 h216 => ?_
  refine wv h216 rfl rfl rfl rfl (.int .i64 (rs.length : Int)) (run_lenRP rfl (h216.ev 14 rfl) _) fun a219 h218 => ?_
  refine wv h218 rfl rfl rfl rfl (.bool false) (by unfold execOp; simp only [h218.ev 13 rfl, h218.ev 15 rfl]; exact run_v (ltIP _ _ _ _ _ hd0)) fun a221 h220 => ?_
  have h222 := h220.subs (l' := [(16, _), (5, _), (3, _), (0, _)]) rfl
  clear h220
  iterate 3 go_step
  refine wp_cond (t := false) (h222.ev 16 rfl) ?_
  simp only [Bool.false_eq_true, if_false]
  have h223 := h222.subs (l' := [(5, _), (3, _), (0, _)]) rfl
  clear h222
  iterate 7 go_step
  refine wmk h223 rfl rfl rfl rfl 0 rfl (fun _ => rfl) fun a225 h224 => ?_
  refine wv h224 rfl rfl rfl rfl (.pointer (some ⟨lg, 0, none⟩)) (by unfold execOp; simp only [h224.ev 56 rfl]; exact rfl) fun a227 h226 => ?_
  refine wv h226 rfl rfl rfl rfl (.pointer (some ⟨lg, 0, none⟩)) (by unfold execOp; simp only [h226.ev 57 rfl]; exact run_v (fa_76_0_0 (lg) _)) fun a229 h228 => ?_
  refine wv h228 rfl rfl rfl rfl (.pointer (some ⟨g, 0, none⟩)) (by unfold execOp; simp only [h228.ev 58 rfl]; exact run_v (loadMR (HGm.out.l.cell (i := 0) (by show 0 < 3; omega)))) fun a231 h230 => ?_
  refine wpk_call h230 (wanted_none rfl) rfl (by decide) (fr rfl) (fun args => callP_81 args _) rfl #[.pointer (some ⟨g, 0, none⟩)] (by simp only [List.map_toArray, List.map_cons, List.map_nil, h230.ev 59 rfl]) (R := fun xv w' => MemR w' g v d a (fenceM Mo) ∧ Turns (fun k => k = d ∨ k = a) wm w') ((fenceR_any HGm.out.m).mono fun e w' q => by obtain ⟨⟨x, q1⟩, q2⟩ := q; exact ⟨x, q1, q2⟩) fun a233 v7 w7 r7 h232 => ?_
  have HG7 := hid (HGm.out.next r7.1 r7.2 (by intro k hk; exact .inr hk)); have HT7 : Hid (Turns (XM v d a) w1 w7) := hid (HTm.out.trans (r7.2.mono (by intro k hk; exact .inr hk)))
  have h234 := h232.subs (l' := [(5, _), (3, _), (0, _)]) rfl
  clear h232
  iterate 5 go_step
  refine wmk h234 rfl rfl rfl rfl 0 rfl (fun _ => rfl) fun a236 h235 => ?_
  refine wpk_call h235 (wanted_none rfl) rfl (by decide) (fr rfl) (fun args => callP_120 args _) rfl #[.pointer (some ⟨lg, 0, none⟩)] (by simp only [List.map_toArray, List.map_cons, List.map_nil, h235.ev 61 rfl]) (R := fun xv w' => LogRP w' lg g v d a at_ size (setM (fenceM Mo) at_ 0) ∧ Turns (XM v d a) w7 w') (clearR_any HG7.out (logOk_congr hok (by show (fenceM Mo).V.length = _; rw [fenceM_V, HMo.out, foldW_V, foldV_len]))) fun a238 v8 w8 r8 h237 => ?_
  have h239 := h237.subs (l' := [(5, _), (3, _), (0, _)]) rfl
  clear h237
  iterate 5 go_step
  refine wmk h239 rfl rfl rfl rfl 3 rfl (fun _ => rfl) fun a241 h240 => ?_
  refine wv h240 rfl rfl rfl rfl (.int .i64 (rs.length : Int)) (run_lenRP rfl (h240.ev 63 rfl) _) fun a243 h242 => ?_
  refine wmk h242 rfl rfl rfl rfl 64 rfl (fun _ => rfl) fun a245 h244 => ?_
  have h246 := h244.subs (l' := [(2, _), (5, _), (3, _), (0, _)]) rfl
  clear h244
  iterate 4 go_step
  have hfin : setM (fenceM Mo) at_ 0 = redoM M at_ size := by unfold redoM writeM; rw [HMo.out, show i = rs.length by omega, ← List.length_map (f := fun r : Option Addr × Nat × List PtM => r.2.2), List.take_length, HRS.out]
  have hlr : rs.length = (logR M.V at_ size).1.length := by have z := congrArg List.length HRS.out; rwa [List.length_map] at z
  rw [hfin] at r8
  exact bodyPost_ret (results_tmp1 rfl (h246.known (2, .int .i64 (rs.length : Int)) (by simp))) h246.defs ⟨_, rfl, by rw [hlr], r8.1, (Turns.of_below HB1.out).trans (HT7.out.trans r8.2)⟩
end Go.Proofs.YtcackliabemecaaGreatDoor
