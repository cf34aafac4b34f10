/- The document's log: End, keep, Read. (genPlgLr.py) -/
import Derived.Test.YtkhhoognemjibaaDoorPlgDr
import Derived.Test.YtkhhoognemjibaaDoorPlgSp
import Derived.Test.YtkhhoognemjibaaDoorPlgMf
import Derived.Test.YtkhhoognemjibaaDoorPmT
namespace Go.Proofs.YtkhhoognemjibaaDoor
open Go.RowKit
set_option linter.unusedSimpArgs false
set_option linter.unusedVariables false
set_option maxRecDepth 100000

theorem loadMR {w : World} {g off : Nat} {q : Option Addr} (h : w.cell? ⟨g, off, none⟩ = some (.pointer q)) : (Instr.loadAt 47 (.pointer (some ⟨g, off, none⟩))).run Tryd.prog w = .ok (.pointer q) w := by
  have u3 := Tryd.underlying47
  have a3 := Tryd.isAgg47
  have z3 := Tryd.sizeOf47
  go_simp
/-- the document's log at lg, of its memory at g -/
structure LogRP (w : World) (lg g v d a at_ size : Nat) (M : MemM) : Prop where
  l : Blk w lg 76 (logC g at_ size)
  m : MemR w g v d a M
theorem LogRP.mono {w w' : World} {lg g v d a at_ size : Nat} {M : MemM} (h : LogRP w lg g v d a at_ size M) (b : Below w.heap.size w w') : LogRP w' lg g v d a at_ size M := ⟨h.l.mono b, h.m.mono b⟩
theorem LogRP.nX {w : World} {lg g v d a at_ size : Nat} {M : MemM} (h : LogRP w lg g v d a at_ size M) : ¬ XM v d a lg := by
  rintro (e | e | e)
  · exact blk_ne h.l h.m.2.2.2.1 (by decide) e
  · exact blk_ne h.l h.m.2.2.2.2.1 (by decide) e
  · exact blk_ne h.l h.m.2.2.2.2.2 (by decide) e
theorem LogRP.next {w w' : World} {lg g v d a at_ size : Nat} {M M' : MemM} {X : Nat → Prop} (h : LogRP w lg g v d a at_ size M) (hm : MemR w' g v d a M') (t : Turns X w w') (hX : ∀ k, X k → XM v d a k) : LogRP w' lg g v d a at_ size M' :=
  ⟨t.blk h.l (fun e => h.nX (hX _ e)), hm⟩
theorem LogRP.lt {w : World} {lg g v d a at_ size : Nat} {M : MemM} (h : LogRP w lg g v d a at_ size M) : lg < w.heap.size ∧ g < w.heap.size ∧ v < w.heap.size ∧ d < w.heap.size ∧ a < w.heap.size := by
  obtain ⟨av, ag1, ag2, ap1, ap2, ap3, gl, vl, dl, pl⟩ := ref_apart h.m
  exact ⟨h.l.lt, gl, vl, dl, pl⟩
theorem LogRP.below {w w' : World} {B lg g v d a at_ size : Nat} {M : MemM} (h : LogRP w lg g v d a at_ size M) (b : Below B w w') (hb : lg < B ∧ g < B ∧ v < B ∧ d < B ∧ a < B) : LogRP w' lg g v d a at_ size M := by
  have t : Turns (fun k => B ≤ k) w w' := ⟨b.os, b.tape, b.output, b.size, fun k _ hn => b.block k (by omega)⟩
  exact ⟨t.blk h.l (by omega), h.m.turns t (by omega) (by omega) (by omega) (by omega)⟩
theorem MemR.rowV {w : World} {g v d a : Nat} {M : MemM} (h : MemR w g v d a M) : RowB w (some ⟨v, 0, none⟩) M.V.length M.V :=
  row_blkO h.2.2.2.1 1 M.V.length (by simp) (by have := h.1.2.2.2.2; omega)
theorem MemR.rowD {w : World} {g v d a : Nat} {M : MemM} (h : MemR w g v d a M) : RowB w (some ⟨d, 0, none⟩) M.D.length M.D :=
  row_blkO h.2.2.2.2.1 1 M.D.length (by simp) (by have := h.1.2.2.2.2; have := h.1.1; omega)
/-- what is appended to nothing changes no older block -/
theorem LogRP.keep {w w' : World} {B lg g v d a at_ size n c : Nat} {M : MemM} (h : LogRP w lg g v d a at_ size M) (b : Below B w w') (G : w.grownBy w' (Value.slice none n c).ownBlock) : LogRP w' lg g v d a at_ size M := by
  have t : Turns (fun _ => False) w w' := ⟨G.os, G.tape, G.output, G.size, fun k hk _ => G.block k hk (by intro q; cases q)⟩
  exact ⟨t.blk h.l id, h.m.turns t id id id id⟩
theorem sliceV {w : World} {g v d a : Nat} {M : MemM} (h : MemR w g v d a M) (lo hi : Nat) (h1 : lo ≤ hi) (h2 : hi ≤ M.V.length) (h3 : lo < M.V.length) :
    ∃ ad, (∀ W, (Instr.sliceAt 24 (.slice (some ⟨v, 0, none⟩) M.V.length M.V.length) (some (.int .i64 (lo : Int))) (some (.int .i64 (hi : Int))) none).run Tryd.prog W = .ok (.slice (some ad) (hi - lo) (M.V.length - lo)) W) ∧ RowB w (some ad) (M.V.length - lo) ((M.V.drop lo).take (hi - lo)) := by
  obtain ⟨dp, z1, z2⟩ := sliceLH h.rowV lo hi h1 h2
  cases dp with
  | none => exact absurd (z2.2.2.2.1 rfl) (by omega)
  | some ad => exact ⟨ad, z1, z2⟩
theorem getF_at8 {V : List UInt8} {at_ : Nat} (h : at_ + 8 ≤ V.length) : getF V (at_ : Int) 8 = getF ((V.drop at_).take 8) 0 8 := by
  have hl : ((V.drop at_).take 8).length = 8 := by rw [List.length_take, List.length_drop]; omega
  have a1 : getF V (at_ : Int) 8 = (if ofLE ((V.drop ((at_ : Int)).toNat).take ((8 : Int)).toNat) ≤ 9223372036854775807 then some (ofLE ((V.drop ((at_ : Int)).toNat).take ((8 : Int)).toNat)) else none) := by
    unfold getF; exact if_pos ⟨rfl, by omega, by omega⟩
  have a2 : getF ((V.drop at_).take 8) 0 8 = (if ofLE ((((V.drop at_).take 8).drop ((0 : Int)).toNat).take ((8 : Int)).toNat) ≤ 9223372036854775807 then some (ofLE ((((V.drop at_).take 8).drop ((0 : Int)).toNat).take ((8 : Int)).toNat)) else none) := by
    unfold getF; exact if_pos ⟨rfl, by omega, by rw [hl]; omega⟩
  have e : (((V.drop at_).take 8).drop ((0 : Int)).toNat).take ((8 : Int)).toNat = (V.drop ((at_ : Int)).toNat).take ((8 : Int)).toNat := by
    show (((V.drop at_).take 8).drop 0).take 8 = (V.drop at_).take 8
    rw [List.drop_zero, List.take_take, Nat.min_self]
  rw [a1, a2, e]
theorem storeR_in {w : World} {g v d a : Nat} {M : MemM} (h : MemR w g v d a M) (q : Nat) (ab : Option Addr) (c : Nat) (b : List UInt8) (hr : RowB w ab c b) (hs : 0 < b.length → ∀ k, (∃ off, ab = some ⟨k, off, none⟩) → k ≠ v ∧ k ≠ a) (hin : q + b.length ≤ M.V.length) :
    Calls Tryd.prog 79 #[.pointer (some ⟨g, 0, none⟩), .int .i64 (q : Int), .slice ab b.length c] w fun e w' => e = .returned (.int .i64 0) ∧ MemR w' g v d a (storeM M q b) ∧ Turns (fun k => k = v ∨ k = a) w w' := by
  have h5 := h.1.2.2.2.2
  refine (storeR_any h (q : Int) (by omega) ab c b hr hs).mono ?_
  intro e w' z
  unfold StoreR at z
  rw [if_pos ((inM_iff M (q : Int) b.length).2 (by omega)), Int.toNat_natCast] at z
  exact z
theorem flushR_in {w : World} {g v d a : Nat} {M : MemM} (h : MemR w g v d a M) (q n : Nat) (hin : q + n ≤ M.V.length) :
    Calls Tryd.prog 80 #[.pointer (some ⟨g, 0, none⟩), .int .i64 (q : Int), .int .i64 (n : Int)] w fun e w' => e = .returned (.int .i64 0) ∧ MemR w' g v d a (flushM M q n) ∧ Turns (fun k => k = a) w w' := by
  have h5 := h.1.2.2.2.2
  refine (flushR_any h (q : Int) (n : Int) (by omega) (by omega)).mono ?_
  intro e w' z
  unfold FlushR at z
  rw [if_pos ((inM_iff M (q : Int) n).2 (by omega)), Int.toNat_natCast, Int.toNat_natCast] at z
  exact z
theorem storeM_len {M : MemM} {q : Nat} {b : List UInt8} (hin : q + b.length ≤ M.V.length) : (storeM M q b).V.length = M.V.length := length_splice _ _ _ hin
theorem writeM_one {M : MemM} {q : Nat} {b : List UInt8} (hin : q + b.length ≤ M.V.length) : writeM M [⟨(q : Int), b⟩] = fenceM (flushM (storeM M q b) q b.length) := by
  unfold writeM
  have h1 : inM M (q : Int) b.length = true := (inM_iff M _ _).2 (by omega)
  have hs : storeU M (q : Int) b = storeM M q b := by unfold storeU; rw [if_pos h1, Int.toNat_natCast]
  have h2 : inM (storeM M q b) (q : Int) b.length = true := (inM_iff _ _ _).2 (by rw [storeM_len hin]; omega)
  show fenceM (wStep M ⟨(q : Int), b⟩) = _
  unfold wStep
  dsimp only
  rw [if_pos h1, hs]
  unfold flushU
  rw [if_pos h2, Int.toNat_natCast, Int.toNat_natCast]
theorem retNr {w W : World} {act : Act} {n m : Nat} (hd : act.defers = []) (h2 : act.tmps[2]? = some (.int .i64 (m : Int))) (hn : n = m) (hb : Below w.heap.size w W) : bodyPost Tryd.prog Tryd.f59 (fun e w' => ∃ v, e = .returned v ∧ v = .int .i64 (n : Int) ∧ Below w.heap.size w w') .ret act W := by
  subst hn
  exact bodyPost_ret (results_tmp1 rfl h2) hd ⟨_, rfl, rfl, hb⟩
theorem retRr {w W : World} {act : Act} {M : MemM} {at_ size u : Nat} {b : List UInt8} {ra : Option Addr} {rc : Nat} {rs : List (Option Addr × Nat × List PtM)} (hd : act.defers = []) (h2 : act.tmps[2]? = some (.slice ra rs.length rc)) (h3 : act.tmps[3]? = some (.int .i64 (u : Int))) (hr : readL b = (rs.map (·.2.2), u)) (hb : b = bodyL M.V at_ size) (hR : RecsP W w.heap.size ra rc rs) (hB : Below w.heap.size w W) :
    bodyPost Tryd.prog Tryd.f56 (fun e w' => ∃ x, e = .returned x ∧ ∃ ra rc rs, x = .tuple #[.slice ra rs.length rc, .int .i64 ((logR M.V at_ size).2 : Int)] ∧ rs.map (·.2.2) = (logR M.V at_ size).1 ∧ RecsP w' w.heap.size ra rc rs ∧ Below w.heap.size w w') .ret act W := by
  refine bodyPost_ret (results_tmp2 rfl h2 h3) hd ?_
  have e : logR M.V at_ size = (rs.map (·.2.2), u) := by unfold logR; rw [← hb]; exact hr
  rw [e]
  exact ⟨_, rfl, ra, rc, rs, rfl, rfl, hR, hB⟩
theorem callP_15 (args : Array Value) (w : World) : (callFunc 15 args).run Tryd.prog w = .ok (.enter 15 args) w := by
  have h := Tryd.func15
  go_simp
theorem callP_59 (args : Array Value) (w : World) : (callFunc 59 args).run Tryd.prog w = .ok (.enter 59 args) w := by
  have h := Tryd.func59
  go_simp
theorem callP_79 (args : Array Value) (w : World) : (callFunc 79 args).run Tryd.prog w = .ok (.enter 79 args) w := by
  have h := Tryd.func79
  go_simp
theorem callP_80 (args : Array Value) (w : World) : (callFunc 80 args).run Tryd.prog w = .ok (.enter 80 args) w := by
  have h := Tryd.func80
  go_simp
theorem callP_81 (args : Array Value) (w : World) : (callFunc 81 args).run Tryd.prog w = .ok (.enter 81 args) w := by
  have h := Tryd.func81
  go_simp
theorem fa_76_0_0 (g : Nat) (w : World) : (Instr.fieldAt 76 (.pointer (some ⟨g, 0, none⟩)) 0).run Tryd.prog w = .ok (.pointer (some ⟨g, 0, none⟩)) w := rfl
theorem fa_76_0_1 (g : Nat) (w : World) : (Instr.fieldAt 76 (.pointer (some ⟨g, 0, none⟩)) 1).run Tryd.prog w = .ok (.pointer (some ⟨g, 1, none⟩)) w := rfl
theorem fa_76_0_2 (g : Nat) (w : World) : (Instr.fieldAt 76 (.pointer (some ⟨g, 0, none⟩)) 2).run Tryd.prog w = .ok (.pointer (some ⟨g, 2, none⟩)) w := rfl
theorem fa_90_0_0 (g : Nat) (w : World) : (Instr.fieldAt 90 (.pointer (some ⟨g, 0, none⟩)) 0).run Tryd.prog w = .ok (.pointer (some ⟨g, 0, none⟩)) w := rfl

set_option maxHeartbeats 4000000 in
theorem endR_any {w : World} {lg g v d a at_ size : Nat} {M : MemM} (hg0 : LogRP w lg g v d a at_ size M) (hok : LogOk at_ size M) :
    Calls Tryd.prog 59 #[.pointer (some ⟨lg, 0, none⟩)] w fun e w' => ∃ x, e = .returned x ∧ x = .int .i64 (endL M.V at_ size : Int) ∧ Below w.heap.size w w' := by
  have HG0 := hid hg0
  obtain ⟨s1, s2, s3, s4⟩ := hok
  have hEq := getF_at8 (V := M.V) (at_ := at_) (by omega)
  clear hg0
  go_enter Tryd.func59, Tryd.ntmps59
  iterate 3 go_step
  refine wpk_enter (N := 32) (l := [(0, .pointer (some ⟨lg, 0, none⟩))]) ⟨rfl, (by intro x hx; simp only [List.mem_cons, List.not_mem_nil, or_false] at hx; rcases hx with rfl <;> rfl), rfl⟩ fun a2 h1 => ?_
  refine wv h1 rfl rfl rfl rfl (.int .i64 0) rfl fun a4 h3 => ?_
  iterate 4 go_step
  have HG1 := hid (HG0.out.mono (Below.refl _ _).drew)
  refine wp_region_held_drew (S := fun w' => LogRP w' lg g v d a at_ size M) (by kernel_rfl) HG1.out (fun hS1 => ?_)
  refine wpk_take hS1 h3 0 rfl rfl (by decide) (fr rfl) (by kernel_rfl) (by kernel_rfl) (by kernel_rfl) (fun _ _ _ _ h => h) (.pointer (some ⟨lg, 0, none⟩)) (Or.inl ⟨Eq.refl true, fun w1 hSw => (by show (execOp _ (⟨_, .move (.tmp 0), _, _, _, _⟩ : Oper)).run _ _ = _; exact (by unfold execOp; simp only [h3.ev 0 rfl]; exact rfl))⟩) fun a6 h5 => ?_
  refine wpk_take hS1 h5 1 rfl rfl (by decide) (fr rfl) (by kernel_rfl) (by kernel_rfl) (by kernel_rfl) (fun _ _ _ _ h => h) (.pointer (some ⟨lg, 0, none⟩)) (Or.inl ⟨Eq.refl true, fun w1 hSw => (by show (execOp _ (⟨_, .nilCheck (.tmp 6), _, _, _, _⟩ : Oper)).run _ _ = _; exact (by unfold execOp; simp only [h5.ev 6 rfl]; exact rfl))⟩) fun a8 h7 => ?_
  refine wpk_take hS1 h7 2 rfl rfl (by decide) (fr rfl) (by kernel_rfl) (by kernel_rfl) (by kernel_rfl) (fun _ _ _ _ h => h) (.pointer (some ⟨lg, 0, none⟩)) (Or.inl ⟨Eq.refl true, fun w1 hSw => (by show (execOp _ (⟨_, .fieldAddr 76 (.tmp 7) 0, _, _, _, _⟩ : Oper)).run _ _ = _; exact (by unfold execOp; simp only [h7.ev 7 rfl]; exact run_v (fa_76_0_0 (lg) _)))⟩) fun a10 h9 => ?_
  refine wpk_take hS1 h9 3 rfl rfl (by decide) (fr rfl) (by kernel_rfl) (by kernel_rfl) (by kernel_rfl) (fun _ _ _ _ h => h) (.pointer (some ⟨g, 0, none⟩)) (Or.inl ⟨Eq.refl true, fun w1 hSw => (by show (execOp _ (⟨_, .load 47 (.tmp 8), _, _, _, _⟩ : Oper)).run _ _ = _; exact (by unfold execOp; simp only [h9.ev 8 rfl]; exact run_v (loadMR (hSw.l.cell (i := 0) (by show 0 < 3; omega)))))⟩) fun a12 h11 => ?_
  refine wpk_take hS1 h11 4 rfl rfl (by decide) (fr rfl) (by kernel_rfl) (by kernel_rfl) (by kernel_rfl) (fun _ _ _ _ h => h) (.pointer (some ⟨g, 0, none⟩)) (Or.inl ⟨Eq.refl true, fun w1 hSw => (by show (execOp _ (⟨_, .nilCheck (.tmp 9), _, _, _, _⟩ : Oper)).run _ _ = _; exact (by unfold execOp; simp only [h11.ev 9 rfl]; exact rfl))⟩) fun a14 h13 => ?_
  refine wpk_take hS1 h13 5 rfl rfl (by decide) (fr rfl) (by kernel_rfl) (by kernel_rfl) (by kernel_rfl) (fun _ _ _ _ h => h) (.pointer (some ⟨g, 0, none⟩)) (Or.inl ⟨Eq.refl true, fun w1 hSw => (by show (execOp _ (⟨_, .fieldAddr 90 (.tmp 10) 0, _, _, _, _⟩ : Oper)).run _ _ = _; exact (by unfold execOp; simp only [h13.ev 10 rfl]; exact run_v (fa_90_0_0 (g) _)))⟩) fun a16 h15 => ?_
  refine wpk_take hS1 h15 6 rfl rfl (by decide) (fr rfl) (by kernel_rfl) (by kernel_rfl) (by kernel_rfl) (fun _ _ _ _ h => h) (.slice (some ⟨v, 0, none⟩) M.V.length M.V.length) (Or.inl ⟨Eq.refl true, fun w1 hSw => (by show (execOp _ (⟨_, .load 24 (.tmp 11), _, _, _, _⟩ : Oper)).run _ _ = _; exact (by unfold execOp; simp only [h15.ev 11 rfl]; exact run_v (loadYP hSw.m.cells.1)))⟩) fun a18 h17 => ?_
  refine wpk_take hS1 h17 7 rfl rfl (by decide) (fr rfl) (by kernel_rfl) (by kernel_rfl) (by kernel_rfl) (fun _ _ _ _ h => h) (.pointer (some ⟨lg, 0, none⟩)) (Or.inl ⟨Eq.refl true, fun w1 hSw => (by show (execOp _ (⟨_, .move (.tmp 0), _, _, _, _⟩ : Oper)).run _ _ = _; exact (by unfold execOp; simp only [h17.ev 0 rfl]; exact rfl))⟩) fun a20 h19 => ?_
  refine wpk_take hS1 h19 8 rfl rfl (by decide) (fr rfl) (by kernel_rfl) (by kernel_rfl) (by kernel_rfl) (fun _ _ _ _ h => h) (.pointer (some ⟨lg, 0, none⟩)) (Or.inl ⟨Eq.refl true, fun w1 hSw => (by show (execOp _ (⟨_, .nilCheck (.tmp 13), _, _, _, _⟩ : Oper)).run _ _ = _; exact (by unfold execOp; simp only [h19.ev 13 rfl]; exact rfl))⟩) fun a22 h21 => ?_
  refine wpk_take hS1 h21 9 rfl rfl (by decide) (fr rfl) (by kernel_rfl) (by kernel_rfl) (by kernel_rfl) (fun _ _ _ _ h => h) (.pointer (some ⟨lg, 1, none⟩)) (Or.inl ⟨Eq.refl true, fun w1 hSw => (by show (execOp _ (⟨_, .fieldAddr 76 (.tmp 14) 1, _, _, _, _⟩ : Oper)).run _ _ = _; exact (by unfold execOp; simp only [h21.ev 14 rfl]; exact run_v (fa_76_0_1 (lg) _)))⟩) fun a24 h23 => ?_
  refine wpk_take hS1 h23 10 rfl rfl (by decide) (fr rfl) (by kernel_rfl) (by kernel_rfl) (by kernel_rfl) (fun _ _ _ _ h => h) (.int .i64 (at_ : Int)) (Or.inl ⟨Eq.refl true, fun w1 hSw => (by show (execOp _ (⟨_, .load 3 (.tmp 15), _, _, _, _⟩ : Oper)).run _ _ = _; exact (by unfold execOp; simp only [h23.ev 15 rfl]; exact run_v (loadIP (hSw.l.cell (i := 1) (by show 1 < 3; omega)))))⟩) fun a26 h25 => ?_
  refine wpk_only 11 rfl rfl (by kernel_rfl) fun K hK => op_call h25 rfl (by decide) (fr rfl) (fun args => callP_42 args _) rfl #[.slice (some ⟨v, 0, none⟩) M.V.length M.V.length, .int .i64 (at_ : Int), .int .i64 8] (by simp only [List.map_toArray, List.map_cons, List.map_nil, h25.ev 12 rfl, h25.ev 16 rfl]; rfl) (R := fun v' w' => v' = getV (getF M.V (at_ : Int) 8) ∧ w.drew = w') ((getRef_any (some ⟨v, 0, none⟩) M.V.length M.V (at_ : Int) 8 w.drew HG1.out.m.rowV (by omega) (by omega)).mono fun e w' q => ⟨_, q.1, rfl, q.2⟩) fun a28 v2 w2 r2 h27 => hK _ _ (by rw [← r2.2]; exact hS1) fun hS2 => ?_
  clear hK K
  obtain ⟨rfl, rfl⟩ := r2
  refine wpk_take hS2 h27 12 rfl rfl (by decide) (fr rfl) (by kernel_rfl) (by kernel_rfl) (by kernel_rfl) (fun _ _ _ _ h => h) (getV (getF M.V (at_ : Int) 8)) (Or.inl ⟨Eq.refl true, fun w1 hSw => (by show (execOp _ (⟨_, .move (.tmp 17), _, _, _, _⟩ : Oper)).run _ _ = _; exact (by unfold execOp; simp only [h27.ev 17 rfl]; exact rfl))⟩) fun a30 h29 => ?_
  refine wpk_take hS2 h29 13 rfl rfl (by decide) (fr rfl) (by kernel_rfl) (by kernel_rfl) (by kernel_rfl) (fun _ _ _ _ h => h) (.int .i64 (((getF M.V (at_ : Int) 8).getD 0 : Nat) : Int)) (Or.inl ⟨Eq.refl true, fun w1 hSw => (by show (execOp _ (⟨_, .extract (.tmp 5) 0, _, _, _, _⟩ : Oper)).run _ _ = _; exact (by unfold execOp; simp only [h29.ev 5 rfl]; exact rfl))⟩) fun a32 h31 => ?_
  refine wpk_take hS2 h31 14 rfl rfl (by decide) (fr rfl) (by kernel_rfl) (by kernel_rfl) (by kernel_rfl) (fun _ _ _ _ h => h) (.bool (getF M.V (at_ : Int) 8).isSome) (Or.inl ⟨Eq.refl true, fun w1 hSw => (by show (execOp _ (⟨_, .extract (.tmp 5) 1, _, _, _, _⟩ : Oper)).run _ _ = _; exact (by unfold execOp; simp only [h31.ev 5 rfl]; exact rfl))⟩) fun a34 h33 => ?_
  refine wpk_take hS2 h33 15 rfl rfl (by decide) (fr rfl) (by kernel_rfl) (by kernel_rfl) (by kernel_rfl) (fun _ _ _ _ h => h) (.int .i64 (((getF M.V (at_ : Int) 8).getD 0 : Nat) : Int)) (Or.inl ⟨Eq.refl true, fun w1 hSw => (by show (execOp _ (⟨_, .assign (.tmp 18), _, _, _, _⟩ : Oper)).run _ _ = _; exact (by unfold execOp; simp only [h33.ev 18 rfl]; exact rfl))⟩) fun a36 h35 => ?_
  refine wpk_take hS2 h35 16 rfl rfl (by decide) (fr rfl) (by kernel_rfl) (by kernel_rfl) (by kernel_rfl) (fun _ _ _ _ h => h) (.bool (getF M.V (at_ : Int) 8).isSome) (Or.inl ⟨Eq.refl true, fun w1 hSw => (by show (execOp _ (⟨_, .assign (.tmp 19), _, _, _, _⟩ : Oper)).run _ _ = _; exact (by unfold execOp; simp only [h35.ev 19 rfl]; exact rfl))⟩) fun a38 h37 => ?_
  refine wpAnyH_done (by kernel_rfl) ?_ _
  have h39 := h37.subs (l' := [(4, _), (3, _), (2, _), (0, _)]) rfl
  clear h37
  iterate 2 go_step
  cases hg : getF M.V (at_ : Int) 8 with
  | none =>
    have hok : (getF M.V (at_ : Int) 8).isSome = false := by rw [hg]; rfl
    have hEnd : endL M.V at_ size = 0 := by unfold endL; rw [← hEq, hg]
    have h40 := h39; rw [hok] at h40
    iterate 3 go_step
    refine wmk h40 rfl rfl rfl rfl 4 rfl (fun _ => rfl) fun a42 h41 => ?_
    refine wv h41 rfl rfl rfl rfl (.bool true) (run_not rfl (h41.ev 20 rfl)) fun a44 h43 => ?_
    refine wmk h43 rfl rfl rfl rfl 21 rfl (fun _ => rfl) fun a46 h45 => ?_
    refine wpk_skip h45 (by rw [wanted_of (g := 2) (want := false) (b := true) rfl (h45.yields (prev := 22) rfl (by simp))]; rfl) rfl (by decide) (fr rfl) fun a48 h47 => ?_
    refine wpk_skip h47 (by rw [wanted_of (g := 2) (want := false) (b := true) rfl (h47.yields (prev := 22) rfl (by simp))]; rfl) rfl (by decide) (fr rfl) fun a50 h49 => ?_
    refine wpk_skip h49 (by rw [wanted_of (g := 2) (want := false) (b := true) rfl (h49.yields (prev := 22) rfl (by simp))]; rfl) rfl (by decide) (fr rfl) fun a52 h51 => ?_
    refine wpk_skip h51 (by rw [wanted_of (g := 2) (want := false) (b := true) rfl (h51.yields (prev := 22) rfl (by simp))]; rfl) rfl (by decide) (fr rfl) fun a54 h53 => ?_
    refine wpk_skip h53 (by rw [wanted_of (g := 2) (want := false) (b := true) rfl (h53.yields (prev := 22) rfl (by simp))]; rfl) rfl (by decide) (fr rfl) fun a56 h55 => ?_
    refine wpk_skip h55 (by rw [wanted_of (g := 2) (want := false) (b := true) rfl (h55.yields (prev := 22) rfl (by simp))]; rfl) rfl (by decide) (fr rfl) fun a58 h57 => ?_
    refine wpk_skip h57 (by rw [wanted_of (g := 2) (want := false) (b := true) rfl (h57.yields (prev := 22) rfl (by simp))]; rfl) rfl (by decide) (fr rfl) fun a60 h59 => ?_
    refine wv h59 rfl rfl rfl rfl (.bool true) (run_pick rfl (h59.ev 22 rfl) rfl) fun a62 h61 => ?_
    have h63 := h61.subs (l' := [(30, _), (4, _), (3, _), (2, _), (0, _)]) rfl
    clear h61
    iterate 3 go_step
    refine wp_cond (t := true) (h63.ev 30 rfl) ?_
    simp only [if_true]
    have h64 := h63.subs (l' := [(4, _), (3, _), (2, _), (0, _)]) rfl
    clear h63
    iterate 2 go_step
    have h65 := h64.subs (l' := [(4, _), (3, _), (0, _)]) rfl
    clear h64
    refine wv h65 rfl rfl rfl rfl (.int .i64 0) rfl fun a67 h66 => ?_
    iterate 4 go_step
    simp only [Exit.then, Exit.inBlock]
    exact retNr h66.defs (h66.known (2, .int .i64 0) (by simp)) hEnd (Below.refl _ _).drew
  | some n =>
    have hok : (getF M.V (at_ : Int) 8).isSome = true := by rw [hg]; rfl
    have hn : (getF M.V (at_ : Int) 8).getD 0 = n := by rw [hg]; rfl
    by_cases hle : n ≤ size - 8
    · have hEnd : endL M.V at_ size = (getF M.V (at_ : Int) 8).getD 0 := by rw [hn]; unfold endL; rw [← hEq, hg]; exact if_pos hle
      have hgt : decide (((size - 8 : Nat) : Int) < (((getF M.V (at_ : Int) 8).getD 0 : Nat) : Int)) = false := decide_eq_false (by rw [hn]; omega)
      have h68 := h39; rw [hok] at h68
      iterate 3 go_step
      refine wmk h68 rfl rfl rfl rfl 4 rfl (fun _ => rfl) fun a70 h69 => ?_
      refine wv h69 rfl rfl rfl rfl (.bool false) (run_not rfl (h69.ev 20 rfl)) fun a72 h71 => ?_
      refine wmk h71 rfl rfl rfl rfl 21 rfl (fun _ => rfl) fun a74 h73 => ?_
      refine wpk_val h73 (by rw [wanted_of (g := 2) (want := false) (b := false) rfl (h73.yields (prev := 22) rfl (by simp))]; rfl) rfl (by decide) (fr rfl) (.int .i64 (((getF M.V (at_ : Int) 8).getD 0 : Nat) : Int)) (by unfold execOp; simp only [h73.ev 3 rfl]; rfl) fun a76 h75 => ?_
      refine wpk_val h75 (by rw [wanted_of (g := 2) (want := false) (b := false) rfl (h75.yields (prev := 22) rfl (by simp))]; rfl) rfl (by decide) (fr rfl) (.pointer (some ⟨lg, 0, none⟩)) (by unfold execOp; simp only [h75.ev 0 rfl]; rfl) fun a78 h77 => ?_
      refine wpk_val h77 (by rw [wanted_of (g := 2) (want := false) (b := false) rfl (h77.yields (prev := 22) rfl (by simp))]; rfl) rfl (by decide) (fr rfl) (.pointer (some ⟨lg, 0, none⟩)) (by unfold execOp; simp only [h77.ev 24 rfl]; exact rfl) fun a80 h79 => ?_
      refine wpk_val h79 (by rw [wanted_of (g := 2) (want := false) (b := false) rfl (h79.yields (prev := 22) rfl (by simp))]; rfl) rfl (by decide) (fr rfl) (.pointer (some ⟨lg, 2, none⟩)) (by unfold execOp; simp only [h79.ev 25 rfl]; exact run_v (fa_76_0_2 (lg) _)) fun a82 h81 => ?_
      refine wpk_val h81 (by rw [wanted_of (g := 2) (want := false) (b := false) rfl (h81.yields (prev := 22) rfl (by simp))]; rfl) rfl (by decide) (fr rfl) (.int .i64 (size : Int)) (by unfold execOp; simp only [h81.ev 26 rfl]; exact run_v (loadIP (HG1.out.l.cell (i := 2) (by show 2 < 3; omega)))) fun a84 h83 => ?_
      refine wpk_val h83 (by rw [wanted_of (g := 2) (want := false) (b := false) rfl (h83.yields (prev := 22) rfl (by simp))]; rfl) rfl (by decide) (fr rfl) (.int .i64 ((size - 8 : Nat) : Int)) (by unfold execOp; simp only [h83.ev 27 rfl]; exact run_v (subIP _ _ _ _ _ (by omega) (by omega) (by omega) _)) fun a86 h85 => ?_
      refine wpk_val h85 (by rw [wanted_of (g := 2) (want := false) (b := false) rfl (h85.yields (prev := 22) rfl (by simp))]; rfl) rfl (by decide) (fr rfl) (.bool false) (by unfold execOp; simp only [h85.ev 23 rfl, h85.ev 28 rfl]; exact run_v (gtIP _ _ _ _ _ hgt)) fun a88 h87 => ?_
      refine wv h87 rfl rfl rfl rfl (.bool false) (run_pick rfl (h87.ev 22 rfl) (by rw [if_neg (by simp)]; exact h87.ev 29 rfl)) fun a90 h89 => ?_
      have h91 := h89.subs (l' := [(30, _), (4, _), (3, _), (2, _), (0, _)]) rfl
      clear h89
      iterate 3 go_step
      refine wp_cond (t := false) (h91.ev 30 rfl) ?_
      simp only [Bool.false_eq_true, if_false]
      have h92 := h91.subs (l' := [(4, _), (3, _), (2, _), (0, _)]) rfl
      clear h91
      iterate 5 go_step
      refine wmk h92 rfl rfl rfl rfl 3 rfl (fun _ => rfl) fun a94 h93 => ?_
      have h95 := h93.subs (l' := [(31, _), (4, _), (3, _), (0, _)]) rfl
      clear h93
      refine wmk h95 rfl rfl rfl rfl 31 rfl (fun _ => rfl) fun a97 h96 => ?_
      have h98 := h96.subs (l' := [(2, _), (4, _), (3, _), (0, _)]) rfl
      clear h96
      iterate 4 go_step
      exact retNr h98.defs (h98.known (2, .int .i64 (((getF M.V (at_ : Int) 8).getD 0 : Nat) : Int)) (by simp)) hEnd (Below.refl _ _).drew
    · have hEnd : endL M.V at_ size = 0 := by unfold endL; rw [← hEq, hg]; exact if_neg hle
      have hgt : decide (((size - 8 : Nat) : Int) < (((getF M.V (at_ : Int) 8).getD 0 : Nat) : Int)) = true := decide_eq_true (by rw [hn]; omega)
      have h99 := h39; rw [hok] at h99
      iterate 3 go_step
      refine wmk h99 rfl rfl rfl rfl 4 rfl (fun _ => rfl) fun a101 h100 => ?_
      refine wv h100 rfl rfl rfl rfl (.bool false) (run_not rfl (h100.ev 20 rfl)) fun a103 h102 => ?_
      refine wmk h102 rfl rfl rfl rfl 21 rfl (fun _ => rfl) fun a105 h104 => ?_
      refine wpk_val h104 (by rw [wanted_of (g := 2) (want := false) (b := false) rfl (h104.yields (prev := 22) rfl (by simp))]; rfl) rfl (by decide) (fr rfl) (.int .i64 (((getF M.V (at_ : Int) 8).getD 0 : Nat) : Int)) (by unfold execOp; simp only [h104.ev 3 rfl]; rfl) fun a107 h106 => ?_
      refine wpk_val h106 (by rw [wanted_of (g := 2) (want := false) (b := false) rfl (h106.yields (prev := 22) rfl (by simp))]; rfl) rfl (by decide) (fr rfl) (.pointer (some ⟨lg, 0, none⟩)) (by unfold execOp; simp only [h106.ev 0 rfl]; rfl) fun a109 h108 => ?_
      refine wpk_val h108 (by rw [wanted_of (g := 2) (want := false) (b := false) rfl (h108.yields (prev := 22) rfl (by simp))]; rfl) rfl (by decide) (fr rfl) (.pointer (some ⟨lg, 0, none⟩)) (by unfold execOp; simp only [h108.ev 24 rfl]; exact rfl) fun a111 h110 => ?_
      refine wpk_val h110 (by rw [wanted_of (g := 2) (want := false) (b := false) rfl (h110.yields (prev := 22) rfl (by simp))]; rfl) rfl (by decide) (fr rfl) (.pointer (some ⟨lg, 2, none⟩)) (by unfold execOp; simp only [h110.ev 25 rfl]; exact run_v (fa_76_0_2 (lg) _)) fun a113 h112 => ?_
      refine wpk_val h112 (by rw [wanted_of (g := 2) (want := false) (b := false) rfl (h112.yields (prev := 22) rfl (by simp))]; rfl) rfl (by decide) (fr rfl) (.int .i64 (size : Int)) (by unfold execOp; simp only [h112.ev 26 rfl]; exact run_v (loadIP (HG1.out.l.cell (i := 2) (by show 2 < 3; omega)))) fun a115 h114 => ?_
      refine wpk_val h114 (by rw [wanted_of (g := 2) (want := false) (b := false) rfl (h114.yields (prev := 22) rfl (by simp))]; rfl) rfl (by decide) (fr rfl) (.int .i64 ((size - 8 : Nat) : Int)) (by unfold execOp; simp only [h114.ev 27 rfl]; exact run_v (subIP _ _ _ _ _ (by omega) (by omega) (by omega) _)) fun a117 h116 => ?_
      refine wpk_val h116 (by rw [wanted_of (g := 2) (want := false) (b := false) rfl (h116.yields (prev := 22) rfl (by simp))]; rfl) rfl (by decide) (fr rfl) (.bool true) (by unfold execOp; simp only [h116.ev 23 rfl, h116.ev 28 rfl]; exact run_v (gtIP _ _ _ _ _ hgt)) fun a119 h118 => ?_
      refine wv h118 rfl rfl rfl rfl (.bool true) (run_pick rfl (h118.ev 22 rfl) (by rw [if_neg (by simp)]; exact h118.ev 29 rfl)) fun a121 h120 => ?_
      have h122 := h120.subs (l' := [(30, _), (4, _), (3, _), (2, _), (0, _)]) rfl
      clear h120
      iterate 3 go_step
      refine wp_cond (t := true) (h122.ev 30 rfl) ?_
      simp only [if_true]
      have h123 := h122.subs (l' := [(4, _), (3, _), (2, _), (0, _)]) rfl
      clear h122
      iterate 2 go_step
      have h124 := h123.subs (l' := [(4, _), (3, _), (0, _)]) rfl
      clear h123
      refine wv h124 rfl rfl rfl rfl (.int .i64 0) rfl fun a126 h125 => ?_
      iterate 4 go_step
      simp only [Exit.then, Exit.inBlock]
      exact retNr h125.defs (h125.known (2, .int .i64 0) (by simp)) hEnd (Below.refl _ _).drew

set_option maxHeartbeats 4000000 in
theorem logKeepR_any {w : World} {lg g v d a at_ size : Nat} {M : MemM} (hg0 : LogRP w lg g v d a at_ size M) (q : Nat) (ab : Option Addr) (c : Nat) (b : List UInt8) (hr : RowB w ab c b) (hap : 0 < b.length → ∀ k, (∃ off, ab = some ⟨k, off, none⟩) → k ≠ v ∧ k ≠ a) (hin : q + b.length ≤ M.V.length) :
    Calls Tryd.prog 57 #[.pointer (some ⟨lg, 0, none⟩), .int .i64 (q : Int), .slice ab b.length c] w fun e w' => (∃ x, e = .returned x) ∧ LogRP w' lg g v d a at_ size (writeM M [⟨(q : Int), b⟩]) ∧ Turns (XM v d a) w w' := by
  have HG0 := hid hg0
  have hrow := hid hr
  clear hg0 hr
  go_enter Tryd.func57, Tryd.ntmps57
  iterate 3 go_step
  refine wpk_enter (N := 26) (l := [(0, .pointer (some ⟨lg, 0, none⟩)), (1, .int .i64 (q : Int)), (2, .slice ab b.length c)]) ⟨rfl, (by intro x hx; simp only [List.mem_cons, List.not_mem_nil, or_false] at hx; rcases hx with rfl | rfl | rfl <;> rfl), rfl⟩ fun a2 h1 => ?_
  refine wmk h1 rfl rfl rfl rfl 0 rfl (fun _ => rfl) fun a4 h3 => ?_
  refine wv h3 rfl rfl rfl rfl (.pointer (some ⟨lg, 0, none⟩)) (by unfold execOp; simp only [h3.ev 6 rfl]; exact rfl) fun a6 h5 => ?_
  refine wv h5 rfl rfl rfl rfl (.pointer (some ⟨lg, 0, none⟩)) (by unfold execOp; simp only [h5.ev 7 rfl]; exact run_v (fa_76_0_0 (lg) _)) fun a8 h7 => ?_
  refine wv h7 rfl rfl rfl rfl (.pointer (some ⟨g, 0, none⟩)) (by unfold execOp; simp only [h7.ev 8 rfl]; exact run_v (loadMR (HG0.out.l.cell (i := 0) (by show 0 < 3; omega)))) fun a10 h9 => ?_
  refine wmk h9 rfl rfl rfl rfl 1 rfl (fun _ => rfl) fun a12 h11 => ?_
  refine wmk h11 rfl rfl rfl rfl 2 rfl (fun _ => rfl) fun a14 h13 => ?_
  refine wpk_call h13 (wanted_none rfl) rfl (by decide) (fr rfl) (fun args => callP_79 args _) rfl #[.pointer (some ⟨g, 0, none⟩), .int .i64 (q : Int), .slice ab b.length c] (by simp only [List.map_toArray, List.map_cons, List.map_nil, h13.ev 9 rfl, h13.ev 10 rfl, h13.ev 11 rfl]) (R := fun xv w' => MemR w' g v d a (storeM M q b) ∧ Turns (fun k => k = v ∨ k = a) w w') ((storeR_in HG0.out.m q ab c b hrow.out hap hin).mono fun e w' q => ⟨_, q.1, q.2⟩) fun a16 v1 w1 r1 h15 => ?_
  have HG1 : Hid (LogRP w1 lg g v d a at_ size (storeM M q b)) := hid (HG0.out.next r1.1 r1.2 (by intro k hk; rcases hk with e | e; exact .inl e; exact .inr (.inr e)))
  have h17 := h15.subs (l' := [(0, _), (1, _), (2, _)]) rfl
  clear h15
  iterate 5 go_step
  refine wmk h17 rfl rfl rfl rfl 0 rfl (fun _ => rfl) fun a19 h18 => ?_
  refine wv h18 rfl rfl rfl rfl (.pointer (some ⟨lg, 0, none⟩)) (by unfold execOp; simp only [h18.ev 13 rfl]; exact rfl) fun a21 h20 => ?_
  refine wv h20 rfl rfl rfl rfl (.pointer (some ⟨lg, 0, none⟩)) (by unfold execOp; simp only [h20.ev 14 rfl]; exact run_v (fa_76_0_0 (lg) _)) fun a23 h22 => ?_
  refine wv h22 rfl rfl rfl rfl (.pointer (some ⟨g, 0, none⟩)) (by unfold execOp; simp only [h22.ev 15 rfl]; exact run_v (loadMR (HG1.out.l.cell (i := 0) (by show 0 < 3; omega)))) fun a25 h24 => ?_
  refine wmk h24 rfl rfl rfl rfl 1 rfl (fun _ => rfl) fun a27 h26 => ?_
  refine wmk h26 rfl rfl rfl rfl 2 rfl (fun _ => rfl) fun a29 h28 => ?_
  refine wv h28 rfl rfl rfl rfl (.int .i64 (b.length : Int)) (run_lenBP rfl (h28.ev 18 rfl) _) fun a31 h30 => ?_
  refine wpk_call h30 (wanted_none rfl) rfl (by decide) (fr rfl) (fun args => callP_80 args _) rfl #[.pointer (some ⟨g, 0, none⟩), .int .i64 (q : Int), .int .i64 (b.length : Int)] (by simp only [List.map_toArray, List.map_cons, List.map_nil, h30.ev 16 rfl, h30.ev 17 rfl, h30.ev 19 rfl]) (R := fun xv w' => MemR w' g v d a (flushM (storeM M q b) q b.length) ∧ Turns (fun k => k = a) w1 w') ((flushR_in HG1.out.m q b.length (by rw [storeM_len hin]; exact hin)).mono fun e w' q => ⟨_, q.1, q.2⟩) fun a33 v2 w2 r2 h32 => ?_
  have HG2 : Hid (LogRP w2 lg g v d a at_ size (flushM (storeM M q b) q b.length)) := hid (HG1.out.next r2.1 r2.2 (by intro k hk; exact .inr (.inr hk)))
  have h34 := h32.subs (l' := [(0, _), (1, _), (2, _)]) rfl
  clear h32
  iterate 4 go_step
  refine wmk h34 rfl rfl rfl rfl 0 rfl (fun _ => rfl) fun a36 h35 => ?_
  refine wv h35 rfl rfl rfl rfl (.pointer (some ⟨lg, 0, none⟩)) (by unfold execOp; simp only [h35.ev 21 rfl]; exact rfl) fun a38 h37 => ?_
  refine wv h37 rfl rfl rfl rfl (.pointer (some ⟨lg, 0, none⟩)) (by unfold execOp; simp only [h37.ev 22 rfl]; exact run_v (fa_76_0_0 (lg) _)) fun a40 h39 => ?_
  refine wv h39 rfl rfl rfl rfl (.pointer (some ⟨g, 0, none⟩)) (by unfold execOp; simp only [h39.ev 23 rfl]; exact run_v (loadMR (HG2.out.l.cell (i := 0) (by show 0 < 3; omega)))) fun a42 h41 => ?_
  refine wpk_call h41 (wanted_none rfl) rfl (by decide) (fr rfl) (fun args => callP_81 args _) rfl #[.pointer (some ⟨g, 0, none⟩)] (by simp only [List.map_toArray, List.map_cons, List.map_nil, h41.ev 24 rfl]) (R := fun xv w' => MemR w' g v d a (fenceM (flushM (storeM M q b) q b.length)) ∧ Turns (fun k => k = d ∨ k = a) w2 w') ((fenceR_any HG2.out.m).mono fun e w' q => by obtain ⟨⟨x, q1⟩, q2⟩ := q; exact ⟨x, q1, q2⟩) fun a44 v3 w3 r3 h43 => ?_
  have HG3 : Hid (LogRP w3 lg g v d a at_ size (fenceM (flushM (storeM M q b) q b.length))) := hid (HG2.out.next r3.1 r3.2 (by intro k hk; exact .inr hk))
  have h45 := h43.subs (l' := [(0, _), (1, _), (2, _)]) rfl
  clear h43
  iterate 2 go_step
  exact bodyPost_normP (results_none rfl _ _ _) h45.defs ⟨⟨_, rfl⟩, by rw [writeM_one hin]; exact HG3.out, (r1.2.mono (by intro k hk; rcases hk with e | e; exact .inl e; exact .inr (.inr e))).trans ((r2.2.mono (by intro k hk; exact .inr (.inr hk))).trans (r3.2.mono (by intro k hk; exact .inr hk)))⟩

set_option maxHeartbeats 4000000 in
theorem readR_any {w : World} {lg g v d a at_ size : Nat} {M : MemM} (hg0 : LogRP w lg g v d a at_ size M) (hok : LogOk at_ size M) :
    Calls Tryd.prog 56 #[.pointer (some ⟨lg, 0, none⟩)] w fun e w' => ∃ x, e = .returned x ∧ ∃ ra rc rs, x = .tuple #[.slice ra rs.length rc, .int .i64 ((logR M.V at_ size).2 : Int)] ∧ rs.map (·.2.2) = (logR M.V at_ size).1 ∧ RecsP w' w.heap.size ra rc rs ∧ Below w.heap.size w w' := by
  have HG0 := hid hg0
  have hok2 := hok
  obtain ⟨s1, s2, s3, s4⟩ := hok2
  obtain ⟨en, hen⟩ : ∃ x, endL M.V at_ size = x := ⟨_, rfl⟩
  have hel := endL_le M.V at_ size
  rw [hen] at hel
  obtain ⟨b, hb⟩ : ∃ b, (M.V.drop (at_ + 8)).take en = b := ⟨_, rfl⟩
  have hbl : b.length = en := by rw [← hb, List.length_take, List.length_drop]; omega
  have HBV := hid hb
  have HBV2 : Hid (b = bodyL M.V at_ size) := hid (by unfold bodyL; rw [hen]; exact hb.symm)
  have HEN := hid hen
  clear hg0 hb hen
  go_enter Tryd.func56, Tryd.ntmps56
  iterate 3 go_step
  refine wpk_enter (N := 56) (l := [(0, .pointer (some ⟨lg, 0, none⟩))]) ⟨rfl, (by intro x hx; simp only [List.mem_cons, List.not_mem_nil, or_false] at hx; rcases hx with rfl <;> rfl), rfl⟩ fun a2 h1 => ?_
  refine wv h1 rfl rfl rfl rfl (.slice none 0 0) rfl fun a4 h3 => ?_
  refine wv h3 rfl rfl rfl rfl (.int .i64 0) rfl fun a6 h5 => ?_
  iterate 5 go_step
  refine wv h5 rfl rfl rfl rfl (.slice none 0 0) rfl fun a8 h7 => ?_
  iterate 4 go_step
  have HG1 := hid (HG0.out.mono (Below.refl _ _).drew)
  refine wp_region_held_drew (S := fun w' => LogRP w' lg g v d a at_ size M) (by kernel_rfl) HG1.out (fun hS1 => ?_)
  refine wpk_take hS1 h7 0 rfl rfl (by decide) (fr rfl) (by kernel_rfl) (by kernel_rfl) (by kernel_rfl) (fun _ _ _ _ h => h) (.slice none 0 0) (Or.inl ⟨Eq.refl true, fun w1 hSw => (by show (execOp _ (⟨_, .move (.tmp 4), _, _, _, _⟩ : Oper)).run _ _ = _; exact (by unfold execOp; simp only [h7.ev 4 rfl]; exact rfl))⟩) fun a10 h9 => ?_
  refine wpk_take hS1 h9 1 rfl rfl (by decide) (fr rfl) (by kernel_rfl) (by kernel_rfl) (by kernel_rfl) (fun _ _ _ _ h => h) (.pointer (some ⟨lg, 0, none⟩)) (Or.inl ⟨Eq.refl true, fun w1 hSw => (by show (execOp _ (⟨_, .move (.tmp 0), _, _, _, _⟩ : Oper)).run _ _ = _; exact (by unfold execOp; simp only [h9.ev 0 rfl]; exact rfl))⟩) fun a12 h11 => ?_
  refine wpk_take hS1 h11 2 rfl rfl (by decide) (fr rfl) (by kernel_rfl) (by kernel_rfl) (by kernel_rfl) (fun _ _ _ _ h => h) (.pointer (some ⟨lg, 0, none⟩)) (Or.inl ⟨Eq.refl true, fun w1 hSw => (by show (execOp _ (⟨_, .nilCheck (.tmp 11), _, _, _, _⟩ : Oper)).run _ _ = _; exact (by unfold execOp; simp only [h11.ev 11 rfl]; exact rfl))⟩) fun a14 h13 => ?_
  refine wpk_take hS1 h13 3 rfl rfl (by decide) (fr rfl) (by kernel_rfl) (by kernel_rfl) (by kernel_rfl) (fun _ _ _ _ h => h) (.pointer (some ⟨lg, 0, none⟩)) (Or.inl ⟨Eq.refl true, fun w1 hSw => (by show (execOp _ (⟨_, .fieldAddr 76 (.tmp 12) 0, _, _, _, _⟩ : Oper)).run _ _ = _; exact (by unfold execOp; simp only [h13.ev 12 rfl]; exact run_v (fa_76_0_0 (lg) _)))⟩) fun a16 h15 => ?_
  refine wpk_take hS1 h15 4 rfl rfl (by decide) (fr rfl) (by kernel_rfl) (by kernel_rfl) (by kernel_rfl) (fun _ _ _ _ h => h) (.pointer (some ⟨g, 0, none⟩)) (Or.inl ⟨Eq.refl true, fun w1 hSw => (by show (execOp _ (⟨_, .load 47 (.tmp 13), _, _, _, _⟩ : Oper)).run _ _ = _; exact (by unfold execOp; simp only [h15.ev 13 rfl]; exact run_v (loadMR (hSw.l.cell (i := 0) (by show 0 < 3; omega)))))⟩) fun a18 h17 => ?_
  refine wpk_take hS1 h17 5 rfl rfl (by decide) (fr rfl) (by kernel_rfl) (by kernel_rfl) (by kernel_rfl) (fun _ _ _ _ h => h) (.pointer (some ⟨g, 0, none⟩)) (Or.inl ⟨Eq.refl true, fun w1 hSw => (by show (execOp _ (⟨_, .nilCheck (.tmp 14), _, _, _, _⟩ : Oper)).run _ _ = _; exact (by unfold execOp; simp only [h17.ev 14 rfl]; exact rfl))⟩) fun a20 h19 => ?_
  refine wpk_take hS1 h19 6 rfl rfl (by decide) (fr rfl) (by kernel_rfl) (by kernel_rfl) (by kernel_rfl) (fun _ _ _ _ h => h) (.pointer (some ⟨g, 0, none⟩)) (Or.inl ⟨Eq.refl true, fun w1 hSw => (by show (execOp _ (⟨_, .fieldAddr 90 (.tmp 15) 0, _, _, _, _⟩ : Oper)).run _ _ = _; exact (by unfold execOp; simp only [h19.ev 15 rfl]; exact run_v (fa_90_0_0 (g) _)))⟩) fun a22 h21 => ?_
  refine wpk_take hS1 h21 7 rfl rfl (by decide) (fr rfl) (by kernel_rfl) (by kernel_rfl) (by kernel_rfl) (fun _ _ _ _ h => h) (.slice (some ⟨v, 0, none⟩) M.V.length M.V.length) (Or.inl ⟨Eq.refl true, fun w1 hSw => (by show (execOp _ (⟨_, .load 24 (.tmp 16), _, _, _, _⟩ : Oper)).run _ _ = _; exact (by unfold execOp; simp only [h21.ev 16 rfl]; exact run_v (loadYP hSw.m.cells.1)))⟩) fun a24 h23 => ?_
  refine wpk_take hS1 h23 8 rfl rfl (by decide) (fr rfl) (by kernel_rfl) (by kernel_rfl) (by kernel_rfl) (fun _ _ _ _ h => h) (.pointer (some ⟨lg, 0, none⟩)) (Or.inl ⟨Eq.refl true, fun w1 hSw => (by show (execOp _ (⟨_, .move (.tmp 0), _, _, _, _⟩ : Oper)).run _ _ = _; exact (by unfold execOp; simp only [h23.ev 0 rfl]; exact rfl))⟩) fun a26 h25 => ?_
  refine wpk_take hS1 h25 9 rfl rfl (by decide) (fr rfl) (by kernel_rfl) (by kernel_rfl) (by kernel_rfl) (fun _ _ _ _ h => h) (.pointer (some ⟨lg, 0, none⟩)) (Or.inl ⟨Eq.refl true, fun w1 hSw => (by show (execOp _ (⟨_, .nilCheck (.tmp 18), _, _, _, _⟩ : Oper)).run _ _ = _; exact (by unfold execOp; simp only [h25.ev 18 rfl]; exact rfl))⟩) fun a28 h27 => ?_
  refine wpk_take hS1 h27 10 rfl rfl (by decide) (fr rfl) (by kernel_rfl) (by kernel_rfl) (by kernel_rfl) (fun _ _ _ _ h => h) (.pointer (some ⟨lg, 1, none⟩)) (Or.inl ⟨Eq.refl true, fun w1 hSw => (by show (execOp _ (⟨_, .fieldAddr 76 (.tmp 19) 1, _, _, _, _⟩ : Oper)).run _ _ = _; exact (by unfold execOp; simp only [h27.ev 19 rfl]; exact run_v (fa_76_0_1 (lg) _)))⟩) fun a30 h29 => ?_
  refine wpk_take hS1 h29 11 rfl rfl (by decide) (fr rfl) (by kernel_rfl) (by kernel_rfl) (by kernel_rfl) (fun _ _ _ _ h => h) (.int .i64 (at_ : Int)) (Or.inl ⟨Eq.refl true, fun w1 hSw => (by show (execOp _ (⟨_, .load 3 (.tmp 20), _, _, _, _⟩ : Oper)).run _ _ = _; exact (by unfold execOp; simp only [h29.ev 20 rfl]; exact run_v (loadIP (hSw.l.cell (i := 1) (by show 1 < 3; omega)))))⟩) fun a32 h31 => ?_
  refine wpk_take hS1 h31 12 rfl rfl (by decide) (fr rfl) (by kernel_rfl) (by kernel_rfl) (by kernel_rfl) (fun _ _ _ _ h => h) (.int .i64 ((at_ + 8 : Nat) : Int)) (Or.inl ⟨Eq.refl true, fun w1 hSw => (by show (execOp _ (⟨_, .binOp .add 3 (.tmp 21) (.const (.int .i64 8)) 3, _, _, _, _⟩ : Oper)).run _ _ = _; exact (by unfold execOp; simp only [h31.ev 21 rfl]; exact run_v (addNP _ _ _ _ _ (by omega) (by omega) (by omega) _)))⟩) fun a34 h33 => ?_
  refine wpk_take hS1 h33 13 rfl rfl (by decide) (fr rfl) (by kernel_rfl) (by kernel_rfl) (by kernel_rfl) (fun _ _ _ _ h => h) (.pointer (some ⟨lg, 0, none⟩)) (Or.inl ⟨Eq.refl true, fun w1 hSw => (by show (execOp _ (⟨_, .move (.tmp 0), _, _, _, _⟩ : Oper)).run _ _ = _; exact (by unfold execOp; simp only [h33.ev 0 rfl]; exact rfl))⟩) fun a36 h35 => ?_
  refine wpk_take hS1 h35 14 rfl rfl (by decide) (fr rfl) (by kernel_rfl) (by kernel_rfl) (by kernel_rfl) (fun _ _ _ _ h => h) (.pointer (some ⟨lg, 0, none⟩)) (Or.inl ⟨Eq.refl true, fun w1 hSw => (by show (execOp _ (⟨_, .nilCheck (.tmp 23), _, _, _, _⟩ : Oper)).run _ _ = _; exact (by unfold execOp; simp only [h35.ev 23 rfl]; exact rfl))⟩) fun a38 h37 => ?_
  refine wpk_take hS1 h37 15 rfl rfl (by decide) (fr rfl) (by kernel_rfl) (by kernel_rfl) (by kernel_rfl) (fun _ _ _ _ h => h) (.pointer (some ⟨lg, 1, none⟩)) (Or.inl ⟨Eq.refl true, fun w1 hSw => (by show (execOp _ (⟨_, .fieldAddr 76 (.tmp 24) 1, _, _, _, _⟩ : Oper)).run _ _ = _; exact (by unfold execOp; simp only [h37.ev 24 rfl]; exact run_v (fa_76_0_1 (lg) _)))⟩) fun a40 h39 => ?_
  refine wpk_take hS1 h39 16 rfl rfl (by decide) (fr rfl) (by kernel_rfl) (by kernel_rfl) (by kernel_rfl) (fun _ _ _ _ h => h) (.int .i64 (at_ : Int)) (Or.inl ⟨Eq.refl true, fun w1 hSw => (by show (execOp _ (⟨_, .load 3 (.tmp 25), _, _, _, _⟩ : Oper)).run _ _ = _; exact (by unfold execOp; simp only [h39.ev 25 rfl]; exact run_v (loadIP (hSw.l.cell (i := 1) (by show 1 < 3; omega)))))⟩) fun a42 h41 => ?_
  refine wpk_take hS1 h41 17 rfl rfl (by decide) (fr rfl) (by kernel_rfl) (by kernel_rfl) (by kernel_rfl) (fun _ _ _ _ h => h) (.int .i64 ((at_ + 8 : Nat) : Int)) (Or.inl ⟨Eq.refl true, fun w1 hSw => (by show (execOp _ (⟨_, .binOp .add 3 (.tmp 26) (.const (.int .i64 8)) 3, _, _, _, _⟩ : Oper)).run _ _ = _; exact (by unfold execOp; simp only [h41.ev 26 rfl]; exact run_v (addNP _ _ _ _ _ (by omega) (by omega) (by omega) _)))⟩) fun a44 h43 => ?_
  refine wpk_take hS1 h43 18 rfl rfl (by decide) (fr rfl) (by kernel_rfl) (by kernel_rfl) (by kernel_rfl) (fun _ _ _ _ h => h) (.pointer (some ⟨lg, 0, none⟩)) (Or.inl ⟨Eq.refl true, fun w1 hSw => (by show (execOp _ (⟨_, .move (.tmp 0), _, _, _, _⟩ : Oper)).run _ _ = _; exact (by unfold execOp; simp only [h43.ev 0 rfl]; exact rfl))⟩) fun a46 h45 => ?_
  refine wpk_only 19 rfl rfl (by kernel_rfl) fun K hK => op_call h45 rfl (by decide) (fr rfl) (fun args => callP_59 args _) rfl #[.pointer (some ⟨lg, 0, none⟩)] (by simp only [List.map_toArray, List.map_cons, List.map_nil, h45.ev 28 rfl]) (R := fun v' w' => v' = .int .i64 (en : Int) ∧ Below w.drew.heap.size w.drew w') ((by have z := endR_any HG1.out hok; rw [HEN.out] at z; exact z)) fun a48 v2 w2 r2 h47 => hK _ _ (HG1.out.mono r2.2) fun hS2 => ?_
  clear hK K
  obtain ⟨rfl, b2⟩ := r2
  have HG2 := hid (HG1.out.mono b2); have B2 : Hid (Below w.heap.size w w2) := hid ((Below.refl _ w).drew.trans b2); clear b2
  refine wpk_take hS2 h47 20 rfl rfl (by decide) (fr rfl) (by kernel_rfl) (by kernel_rfl) (by kernel_rfl) (fun _ _ _ _ h => h) (.int .i64 ((at_ + 8 + en : Nat) : Int)) (Or.inl ⟨Eq.refl true, fun w1 hSw => (by show (execOp _ (⟨_, .binOp .add 3 (.tmp 27) (.tmp 29) 3, _, _, _, _⟩ : Oper)).run _ _ = _; exact (by unfold execOp; simp only [h47.ev 27 rfl, h47.ev 29 rfl]; exact run_v (addNP _ _ _ _ _ (by omega) (by omega) (by omega) _)))⟩) fun a50 h49 => ?_
  obtain ⟨ad, hsl, hrow⟩ := sliceV HG2.out.m (at_ + 8) (at_ + 8 + en) (by omega) (by omega) (by omega)
  rw [show at_ + 8 + en - (at_ + 8) = en by omega] at hsl hrow; rw [HBV.out] at hrow
  refine wpk_take hS2 h49 21 rfl rfl (by decide) (fr rfl) (by kernel_rfl) (by kernel_rfl) (by kernel_rfl) (fun _ _ _ _ h => h) (.slice (some ad) en (M.V.length - (at_ + 8))) (Or.inl ⟨Eq.refl true, fun w1 hSw => (by show (execOp _ (⟨_, .slice 24 (.tmp 17) (some (.tmp 22)) (some (.tmp 30)) none, _, _, _, _⟩ : Oper)).run _ _ = _; exact (by unfold execOp; simp only [Option.map_some, Option.map_none, h49.ev 17 rfl, h49.ev 22 rfl, h49.ev 30 rfl]; exact run_v (hsl _)))⟩) fun a52 h51 => ?_
  have hrow' : Row w2 1 (some ad) en (M.V.length - (at_ + 8)) (b.map byteV) := by have z := hrow; unfold RowB at z; rw [hbl] at z; exact z
  refine wpk_only 22 rfl rfl (by kernel_rfl) fun K hK => op_append h51 rfl (by decide) (fr rfl) (.tmp 10) (.tmp 31) rfl E8 w.heap.size (h51.ev 10 rfl) (h51.ev 31 rfl) (Own.nil _ _ _ _) hrow' (byteV_one b) (by omega) (by omega) B2.out.size fun a54 ba bc w3 o3 g3 b3 h53 => hK _ _ (HG2.out.keep b3 g3) fun hS3 => ?_
  clear hK K
  have HB3 : Hid (OwnB w3 w.heap.size ba bc b) := hid (by have z := o3; rw [Nat.zero_add, List.nil_append] at z; unfold OwnB; rw [hbl]; exact z)
  have B3 := hid (B2.out.trans b3); clear o3 g3 b3 hrow' hrow hsl
  rw [show 0 + en = b.length by omega] at h53
  have h55 := h53.subs (l' := [(32, _), (31, _), (30, _), (29, _), (28, _), (27, _), (26, _), (25, _), (24, _), (23, _), (22, _), (21, _), (20, _), (19, _), (18, _), (17, _), (16, _), (15, _), (14, _), (13, _), (12, _), (11, _), (10, _), (3, _), (2, _), (0, _)]) rfl
  clear h53
  refine wpk_take hS3 h55 23 rfl rfl (by decide) (fr rfl) (by kernel_rfl) (by kernel_rfl) (by kernel_rfl) (fun _ _ _ _ h => h) (.slice ba b.length bc) (Or.inl ⟨Eq.refl true, fun w1 hSw => (by show (execOp _ (⟨_, .assign (.tmp 32), _, _, _, _⟩ : Oper)).run _ _ = _; exact (by unfold execOp; simp only [h55.ev 32 rfl]; exact rfl))⟩) fun a57 h56 => ?_
  refine wpAnyH_done (by kernel_rfl) ?_ _
  have h58 := h56.subs (l' := [(4, _), (3, _), (2, _), (0, _)]) rfl
  clear h56
  iterate 4 go_step
  refine wv h58 rfl rfl rfl rfl (.slice none 0 0) rfl fun a60 h59 => ?_
  iterate 5 go_step
  refine wv h59 rfl rfl rfl rfl (.int .i64 0) rfl fun a62 h61 => ?_
  iterate 5 go_step
  have h63 := h61.subs (l' := [(5, _), (6, _), (4, _), (0, _)]) rfl
  clear h61
  refine wp_loop (I := fun a' w' => ∃ (u k : Nat) (ra : Option Addr) (rc : Nat) (rs : List (Option Addr × Nat × List PtM)), u ≤ b.length ∧ Kn 56 [(5, .slice ra rs.length rc), (6, .int .i64 (u : Int)), (4, .slice ba b.length bc), (0, .pointer (some ⟨lg, 0, none⟩))] a' ∧ OwnB w' w.heap.size ba bc b ∧ RecsP w' w.heap.size ra rc rs ∧ Below w.heap.size w w' ∧ readL b = readR b k u (rs.map (·.2.2)) ∧ b.length - u < k ∧ rs.length ≤ u) (μ := fun a' _ => b.length - (intOf (a'.eval (.tmp 6))).toNat) ⟨0, b.length + 1, none, 0, [], Nat.zero_le _, h63, HB3.out, RecsP.nil _ _, B3.out, rfl, by omega, Nat.le_refl _⟩ ?_
  clear HB3 B3 h63
  rintro aL wL ⟨u, k, ra, rc, rs, hu, hK, hB, hRS, hBL, hrd, huk, hru⟩
  have HB := hid hB; have HRS := hid hRS; have HBL := hid hBL; have HRD := hid hrd; clear hB hRS hBL hrd
  obtain ⟨k, rfl⟩ : ∃ j, k = j + 1 := ⟨k - 1, by omega⟩
  by_cases hlt : u < b.length
  · have hd0 : decide ((u : Int) < (b.length : Int)) = true := decide_eq_true (by omega)
    iterate 4 go_step
    refine wmk hK rfl rfl rfl rfl 6 rfl (fun _ => rfl) fun a65 h64 => ?_
    refine wmk h64 rfl rfl rfl rfl 4 rfl (fun _ => rfl) fun a67 h66 => ?_
    refine wv h66 rfl rfl rfl rfl (.int .i64 (b.length : Int)) (run_lenBP rfl (h66.ev 34 rfl) _) fun a69 h68 => ?_
    refine wv h68 rfl rfl rfl rfl (.bool true) (by unfold execOp; simp only [h68.ev 33 rfl, h68.ev 35 rfl]; exact run_v (ltIP _ _ _ _ _ hd0)) fun a71 h70 => ?_
    have h72 := h70.subs (l' := [(36, _), (5, _), (6, _), (4, _), (0, _)]) rfl
    clear h70
    iterate 3 go_step
    refine wp_cond (t := true) (h72.ev 36 rfl) ?_
    simp only [if_true]
    have h73 := h72.subs (l' := [(5, _), (6, _), (4, _), (0, _)]) rfl
    clear h72
    iterate 6 go_step
    refine wmk h73 rfl rfl rfl rfl 4 rfl (fun _ => rfl) fun a75 h74 => ?_
    refine wmk h74 rfl rfl rfl rfl 6 rfl (fun _ => rfl) fun a77 h76 => ?_
    obtain ⟨dp, hsl, hrow⟩ := sliceL HB.out.row u hu
    have hyl : (b.drop u).length = b.length - u := by rw [List.length_drop]
    refine wv h76 rfl rfl rfl rfl (.slice dp (b.length - u) (bc - u)) (by unfold execOp; simp only [Option.map_some, Option.map_none, h76.ev 38 rfl, h76.ev 39 rfl]; exact run_v (hsl _)) fun a79 h78 => ?_
    have hdc := decodeR_any hrow (by omega); rw [hyl, ← decD_decR] at hdc
    refine wpk_call h78 (wanted_none rfl) rfl (by decide) (fr rfl) (fun args => callP_15 args _) rfl #[.slice dp (b.length - u) (bc - u)] (by simp only [List.map_toArray, List.map_cons, List.map_nil, h78.ev 40 rfl]) (R := fun v' w' => ∃ la lc, v' = .tuple #[.slice la (decD (b.drop u)).1.length lc, .int .i64 (decD (b.drop u)).2.1, .int .i64 (decD (b.drop u)).2.2] ∧ OwnPt w' wL.heap.size la lc (decD (b.drop u)).1 ∧ Below wL.heap.size wL w') (hdc) fun a81 v5 w5 r5 h80 => ?_
    obtain ⟨la, lc, rfl, o5, b5⟩ := r5
    obtain ⟨D, hD⟩ : ∃ D, D = decD (b.drop u) := ⟨_, rfl⟩
    rw [← hD] at o5 h80
    have HB5 := hid (Own.mono HB.out b5); have HRS5 := hid (HRS.out.mono b5); have HO5 := hid (Own.low o5 HBL.out.size); have HBL5 := hid (kept_trans HBL.out b5); have HDD := hid hD; clear o5 b5 hD hdc
    refine wmk h80 rfl rfl rfl rfl 41 rfl (fun _ => rfl) fun a83 h82 => ?_
    refine wv h82 rfl rfl rfl rfl (.slice la D.1.length lc) (by unfold execOp; simp only [h82.ev 37 rfl]; exact rfl) fun a85 h84 => ?_
    refine wv h84 rfl rfl rfl rfl (.int .i64 D.2.1) (by unfold execOp; simp only [h84.ev 37 rfl]; exact rfl) fun a87 h86 => ?_
    refine wv h86 rfl rfl rfl rfl (.int .i64 D.2.2) (by unfold execOp; simp only [h86.ev 37 rfl]; exact rfl) fun a89 h88 => ?_
    refine wmk h88 rfl rfl rfl rfl 42 rfl (fun _ => rfl) fun a91 h90 => ?_
    refine wmk h90 rfl rfl rfl rfl 43 rfl (fun _ => rfl) fun a93 h92 => ?_
    refine wmk h92 rfl rfl rfl rfl 44 rfl (fun _ => rfl) fun a95 h94 => ?_
    have h96 := h94.subs (l' := [(9, _), (8, _), (7, _), (5, _), (6, _), (4, _), (0, _)]) rfl
    clear h94
    iterate 4 go_step
    have HR1 : Hid (readL b = if D.2.2 = 0 then readR b k (u + D.2.1.toNat) (rs.map (·.2.2) ++ [D.1]) else (rs.map (·.2.2), u)) := hid (by rw [HRD.out, HDD.out]; rfl)
    by_cases hD0 : D.2.2 = 0
    · have hbad : (D.2.2 != 0) = false := by rw [hD0]; rfl
      obtain ⟨n, hn, hn1, hn2⟩ := decD_n (xs := b.drop u) (by rw [← HDD.out]; exact hD0)
      rw [← HDD.out] at hn
      rw [hyl] at hn2
      rw [hn] at h96
      iterate 2 go_step
      refine wmk h96 rfl rfl rfl rfl 9 rfl (fun _ => rfl) fun a98 h97 => ?_
      refine wv h97 rfl rfl rfl rfl (.bool false) (by unfold execOp; simp only [h97.ev 45 rfl]; exact run_v (neEP _ _ _ _ _ hbad)) fun a100 h99 => ?_
      have h101 := h99.subs (l' := [(46, _), (9, _), (8, _), (7, _), (5, _), (6, _), (4, _), (0, _)]) rfl
      clear h99
      iterate 3 go_step
      refine wp_cond (t := false) (h101.ev 46 rfl) ?_
      simp only [Bool.false_eq_true, if_false]
      have h102 := h101.subs (l' := [(9, _), (8, _), (7, _), (5, _), (6, _), (4, _), (0, _)]) rfl
      clear h101
      iterate 5 go_step
      refine wmk h102 rfl rfl rfl rfl 5 rfl (fun _ => rfl) fun a104 h103 => ?_
      refine wmk h103 rfl rfl rfl rfl 7 rfl (fun _ => rfl) fun a106 h105 => ?_
      refine wv h105 rfl rfl rfl rfl (.slice (some ⟨w5.heap.size, 0, none⟩) 1 1) (by unfold execOp; simp only [List.map_toArray, List.map_cons, List.map_nil, h105.ev 48 rfl]; exact run_v (buildRec _ _ _ _)) fun a108 h107 => ?_
      obtain ⟨w6, hw6⟩ : ∃ x, x = w5.alloc (.cells #[.slice la D.1.length lc] 22) := ⟨_, rfl⟩
      have b6 : Below w5.heap.size w5 w6 := by rw [hw6]; exact albO _ _
      have R6 : Row w6 1 (some ⟨w5.heap.size, 0, none⟩) 1 1 [.slice la D.1.length lc] := by rw [hw6]; exact row_new1P w5 _ _
      have HB6 := hid (Own.mono HB5.out b6); have HRS6 := hid (HRS5.out.mono b6); have HO6 := hid (Own.mono HO5.out b6); have HBL6 := hid (kept_trans HBL5.out b6); have HR6 := hid R6; clear b6 R6
      rw [← hw6]; clear hw6
      refine wpl_append rfl (.tmp 47) (.tmp 49) rfl ERec w.heap.size (h107.ev 47 rfl) (h107.ev 49 rfl) HRS6.out.o HR6.out (by intro x hx; simp only [List.mem_cons, List.not_mem_nil, or_false] at hx; subst hx; rfl) (by omega) (by omega) HBL6.out.size ?_
      intro ra2 rc2 w7 o7 g7 b7
      refine wpk_enter (h107.put (d := 50) (by decide) (fr rfl) (.slice ra2 (rs.length + 1) rc2)) fun a110 h109 => ?_
      have HB7 := hid (own_past HB6.out HRS6.out.o (by decide) g7); have HBL7 := hid (HBL6.out.trans b7)
      have HRS7 : Hid (RecsP w7 w.heap.size ra2 rc2 (rs ++ [(la, lc, D.1)])) := hid ⟨by rw [List.length_append, List.map_append]; exact o7, fun r hr => by rcases List.mem_append.1 hr with q | q; exact own_past (HRS6.out.i r q) HRS6.out.o (by decide) g7; rw [List.mem_singleton.1 q]; exact own_past HO6.out HRS6.out.o (by decide) g7⟩
      clear o7 g7 b7
      have h111 := h109.subs (l' := [(50, _), (49, _), (48, _), (47, _), (9, _), (8, _), (7, _), (6, _), (4, _), (0, _)]) rfl
      clear h109
      refine wmk h111 rfl rfl rfl rfl 50 rfl (fun _ => rfl) fun a113 h112 => ?_
      have h114 := h112.subs (l' := [(5, _), (9, _), (8, _), (7, _), (6, _), (4, _), (0, _)]) rfl
      clear h112
      iterate 4 go_step
      refine wmk h114 rfl rfl rfl rfl 6 rfl (fun _ => rfl) fun a116 h115 => ?_
      refine wmk h115 rfl rfl rfl rfl 8 rfl (fun _ => rfl) fun a118 h117 => ?_
      refine wv h117 rfl rfl rfl rfl (.int .i64 ((u + n : Nat) : Int)) (by unfold execOp; simp only [h117.ev 51 rfl, h117.ev 52 rfl]; exact run_v (addNP _ _ _ _ _ (by omega) (by omega) (by omega) _)) fun a120 h119 => ?_
      have h121 := h119.subs (l' := [(53, _), (52, _), (51, _), (5, _), (9, _), (8, _), (7, _), (4, _), (0, _)]) rfl
      clear h119
      refine wmk h121 rfl rfl rfl rfl 53 rfl (fun _ => rfl) fun a123 h122 => ?_
      have h124 := h122.subs (l' := [(6, _), (5, _), (9, _), (8, _), (7, _), (4, _), (0, _)]) rfl
      clear h122
      iterate 2 go_step
      refine ⟨⟨u + n, k, ra2, rc2, rs ++ [(la, lc, D.1)], by omega, ?_, HB7.out, HRS7.out, HBL7.out, ?_, by omega, by rw [List.length_append]; show rs.length + 1 ≤ _; omega⟩, ?_⟩
      · rw [List.length_append]; exact h124.subs rfl
      · rw [HR1.out, if_pos hD0, hn, Int.toNat_natCast, List.map_append]; rfl
      · rw [h124.ev 6 rfl, hK.ev 6 rfl]; simp [intOf]; omega
    · have hbad : (D.2.2 != 0) = true := by simp [bne, hD0]
      iterate 2 go_step
      refine wmk h96 rfl rfl rfl rfl 9 rfl (fun _ => rfl) fun a126 h125 => ?_
      refine wv h125 rfl rfl rfl rfl (.bool true) (by unfold execOp; simp only [h125.ev 45 rfl]; exact run_v (neEP _ _ _ _ _ hbad)) fun a128 h127 => ?_
      have h129 := h127.subs (l' := [(46, _), (9, _), (8, _), (7, _), (5, _), (6, _), (4, _), (0, _)]) rfl
      clear h127
      iterate 3 go_step
      refine wp_cond (t := true) (h129.ev 46 rfl) ?_
      simp only [if_true]
      have h130 := h129.subs (l' := [(9, _), (8, _), (7, _), (5, _), (6, _), (4, _), (0, _)]) rfl
      clear h129
      iterate 4 go_step
      have hfin := HR1.out.trans (if_neg hD0)
      iterate 3 go_step
      refine wmk h130 rfl rfl rfl rfl 5 rfl (fun _ => rfl) fun a132 h131 => ?_
      refine wmk h131 rfl rfl rfl rfl 6 rfl (fun _ => rfl) fun a134 h133 => ?_
      refine wmk h133 rfl rfl rfl rfl 54 rfl (fun _ => rfl) fun a136 h135 => ?_
      refine wmk h135 rfl rfl rfl rfl 55 rfl (fun _ => rfl) fun a138 h137 => ?_
      have h139 := h137.subs (l' := [(3, _), (2, _), (9, _), (8, _), (7, _), (5, _), (6, _), (4, _), (0, _)]) rfl
      clear h137
      iterate 4 go_step
      exact retRr h139.defs (h139.known (2, .slice ra rs.length rc) (by simp)) (h139.known (3, .int .i64 (u : Int)) (by simp)) hfin HBV2.out HRS5.out HBL5.out
  · have hd0 : decide ((u : Int) < (b.length : Int)) = false := decide_eq_false (by omega)
    iterate 4 go_step
    refine wmk hK rfl rfl rfl rfl 6 rfl (fun _ => rfl) fun a141 h140 => ?_
    refine wmk h140 rfl rfl rfl rfl 4 rfl (fun _ => rfl) fun a143 h142 => ?_
    refine wv h142 rfl rfl rfl rfl (.int .i64 (b.length : Int)) (run_lenBP rfl (h142.ev 34 rfl) _) fun a145 h144 => ?_
    refine wv h144 rfl rfl rfl rfl (.bool false) (by unfold execOp; simp only [h144.ev 33 rfl, h144.ev 35 rfl]; exact run_v (ltIP _ _ _ _ _ hd0)) fun a147 h146 => ?_
    have h148 := h146.subs (l' := [(36, _), (5, _), (6, _), (4, _), (0, _)]) rfl
    clear h146
    iterate 3 go_step
    refine wp_cond (t := false) (h148.ev 36 rfl) ?_
    simp only [Bool.false_eq_true, if_false]
    have h149 := h148.subs (l' := [(5, _), (6, _), (4, _), (0, _)]) rfl
    clear h148
    iterate 4 go_step
    have hfin : readL b = (rs.map (·.2.2), u) := by rw [HRD.out]; unfold readR; rw [List.drop_eq_nil_of_le (by omega), decD_nil]; rfl
    iterate 3 go_step
    refine wmk h149 rfl rfl rfl rfl 5 rfl (fun _ => rfl) fun a151 h150 => ?_
    refine wmk h150 rfl rfl rfl rfl 6 rfl (fun _ => rfl) fun a153 h152 => ?_
    refine wmk h152 rfl rfl rfl rfl 54 rfl (fun _ => rfl) fun a155 h154 => ?_
    refine wmk h154 rfl rfl rfl rfl 55 rfl (fun _ => rfl) fun a157 h156 => ?_
    have h158 := h156.subs (l' := [(3, _), (2, _), (5, _), (6, _), (4, _), (0, _)]) rfl
    clear h156
    iterate 4 go_step
    exact retRr h158.defs (h158.known (2, .slice ra rs.length rc) (by simp)) (h158.known (3, .int .i64 (u : Int)) (by simp)) hfin HBV2.out HRS.out HBL.out
end Go.Proofs.YtkhhoognemjibaaDoor
