/- A pair of logs: begin, like; Records. (genPlgPr.py) -/
import Derived.Test.YtkhhoognemjibaaDoorPlgLs
namespace Go.Proofs.YtkhhoognemjibaaDoor
open Go.RowKit
set_option linter.unusedSimpArgs false
set_option linter.unusedVariables false
set_option maxRecDepth 100000

theorem wpk_onlyG {P : Program} {ops : Array Oper} {Q : Exit → Act → World → Prop} {md : Region.Mode} {S : World → Prop} {oi : Oper} {fuel : Nat} {listed : Array Bool} {a : Act} {w : World} (i : Nat) (hi : ops[i]? = some oi) (hg : Region.wanted oi (yielded ops a.tmps) = true) (hr : Region.ready md ops listed = [i])
    (k : ∀ K : Act → World → Prop, (∀ a' w', S w' → (S w' → wpAnyH P md ops Q S fuel (listed.setIfInBounds i true) a' w') → K a' w') → Oper.wp P oi a w K Q) : wpAnyH P md ops Q S (fuel + 1) listed a w :=
  wpAnyH_ready hr (by simp) (AllReadyH.cons hi (fun K hK => by
    rw [if_pos hg]
    exact k K (Shut.out hK)) AllReadyH.nil)
theorem loadLP {w : World} {g off : Nat} {q : Option Addr} (h : w.cell? ⟨g, off, none⟩ = some (.pointer q)) : (Instr.loadAt 38 (.pointer (some ⟨g, off, none⟩))).run Tryd.prog w = .ok (.pointer q) w := by
  have u3 := Tryd.underlying38
  have a3 := Tryd.isAgg38
  have z3 := Tryd.sizeOf38
  go_simp
theorem loadLR {w : World} {g off : Nat} {q : Option Addr} (h : w.cell? ⟨g, off, none⟩ = some (.pointer q)) : (Instr.loadAt 48 (.pointer (some ⟨g, off, none⟩))).run Tryd.prog w = .ok (.pointer q) w := by
  have u3 := Tryd.underlying48
  have a3 := Tryd.isAgg48
  have z3 := Tryd.sizeOf48
  go_simp
/-- the blocks of a pair -/
structure PK where
  g : Nat
  v : Nat
  d : Nat
  p : Nat
  lg : Nat
  gr : Nat
  vr : Nat
  dr : Nat
  ar : Nat
  lr : Nat
  pp : Nat
def pairC (K : PK) : List Value := [.pointer (some ⟨K.g, 0, none⟩), .pointer (some ⟨K.lg, 0, none⟩), .pointer (some ⟨K.gr, 0, none⟩), .pointer (some ⟨K.lr, 0, none⟩)]
def PK.from (K : PK) (B : Nat) : Prop := B ≤ K.g ∧ B ≤ K.v ∧ B ≤ K.d ∧ B ≤ K.p ∧ B ≤ K.lg ∧ B ≤ K.gr ∧ B ≤ K.vr ∧ B ≤ K.dr ∧ B ≤ K.ar ∧ B ≤ K.lr ∧ B ≤ K.pp
def PK.all (K : PK) (k : Nat) : Prop := XM K.v K.d K.p k ∨ XM K.vr K.dr K.ar k
/-- both logs, both memories with the same -/
structure PairP (w : World) (B : Nat) (K : PK) (M : MemM) : Prop where
  l : LogP w K.lg K.g K.v K.d K.p 512 512 M
  r : LogRP w K.lr K.gr K.vr K.dr K.ar 512 512 M
  b : Blk w K.pp 50 (pairC K)
  f : K.from B
  n : K.v ≠ K.vr ∧ K.v ≠ K.dr ∧ K.d ≠ K.vr ∧ K.d ≠ K.dr
theorem PairP.mono {w w' : World} {B : Nat} {K : PK} {M : MemM} (h : PairP w B K M) (b : Below w.heap.size w w') : PairP w' B K M := ⟨h.l.mono b, h.r.mono b, h.b.mono b, h.f, h.n⟩
theorem PairP.from_le {w : World} {B : Nat} {K : PK} {M : MemM} (h : PairP w B K M) (k : Nat) (hk : K.all k) : B ≤ k := by
  obtain ⟨h1, h2, h3, h4, h5, h6, h7, h8, h9, h10, h11⟩ := h.f
  rcases hk with (e | e | e) | (e | e | e) <;> rw [e] <;> assumption
theorem PairP.nL {w : World} {B : Nat} {K : PK} {M : MemM} (h : PairP w B K M) : ¬ XM K.v K.d K.p K.lr ∧ ¬ XM K.v K.d K.p K.gr ∧ ¬ XM K.v K.d K.p K.vr ∧ ¬ XM K.v K.d K.p K.dr ∧ ¬ XM K.v K.d K.p K.ar ∧ ¬ XM K.v K.d K.p K.pp := by
  obtain ⟨_, _, _, v1, d1, p1⟩ := h.l.m
  obtain ⟨_, _, g2, v2, d2, r2⟩ := h.r.m
  obtain ⟨n1, n2, n3, n4⟩ := h.n
  refine ⟨?_, ?_, ?_, ?_, ?_, ?_⟩ <;> rintro (e | e | e)
  · exact blk_ne h.r.l v1 (by decide) e
  · exact blk_ne h.r.l d1 (by decide) e
  · exact pend_neP p1 h.r.l e
  · exact blk_ne g2 v1 (by decide) e
  · exact blk_ne g2 d1 (by decide) e
  · exact pend_neP p1 g2 e
  · exact n1 e.symm
  · exact n3 e.symm
  · exact pend_neP p1 v2 e
  · exact n2 e.symm
  · exact n4 e.symm
  · exact pend_neP p1 d2 e
  · exact blk_ne r2 v1 (by decide) e
  · exact blk_ne r2 d1 (by decide) e
  · exact pend_neP p1 r2 e
  · exact blk_ne h.b v1 (by decide) e
  · exact blk_ne h.b d1 (by decide) e
  · exact pend_neP p1 h.b e
theorem PairP.nR {w : World} {B : Nat} {K : PK} {M : MemM} (h : PairP w B K M) : ¬ XM K.vr K.dr K.ar K.lg ∧ ¬ XM K.vr K.dr K.ar K.g ∧ ¬ XM K.vr K.dr K.ar K.v ∧ ¬ XM K.vr K.dr K.ar K.d ∧ ¬ XM K.vr K.dr K.ar K.p ∧ ¬ XM K.vr K.dr K.ar K.pp := by
  obtain ⟨_, _, g1, v1, d1, p1⟩ := h.l.m
  obtain ⟨_, _, g2, v2, d2, r2⟩ := h.r.m
  obtain ⟨n1, n2, n3, n4⟩ := h.n
  refine ⟨?_, ?_, ?_, ?_, ?_, ?_⟩ <;> rintro (e | e | e)
  · exact blk_ne h.l.l v2 (by decide) e
  · exact blk_ne h.l.l d2 (by decide) e
  · exact blk_ne h.l.l r2 (by decide) e
  · exact blk_ne g1 v2 (by decide) e
  · exact blk_ne g1 d2 (by decide) e
  · exact blk_ne g1 r2 (by decide) e
  · exact n1 e
  · exact n2 e
  · exact blk_ne v1 r2 (by decide) e
  · exact n3 e
  · exact n4 e
  · exact blk_ne d1 r2 (by decide) e
  · exact pend_neP p1 v2 e.symm
  · exact pend_neP p1 d2 e.symm
  · exact pend_neP p1 r2 e.symm
  · exact blk_ne h.b v2 (by decide) e
  · exact blk_ne h.b d2 (by decide) e
  · exact blk_ne h.b r2 (by decide) e
/-- the one log is changed -/
theorem PairP.left {w w' : World} {B : Nat} {K : PK} {M : MemM} (h : PairP w B K M) (t : Turns (XM K.v K.d K.p) w w') : LogRP w' K.lr K.gr K.vr K.dr K.ar 512 512 M ∧ Blk w' K.pp 50 (pairC K) := by
  obtain ⟨n1, n2, n3, n4, n5, n6⟩ := h.nL
  exact ⟨⟨t.blk h.r.l n1, h.r.m.turns t n2 n3 n4 n5⟩, t.blk h.b n6⟩
/-- both are, the one behind the other -/
theorem PairP.both {w w1 w2 : World} {B : Nat} {K : PK} {M M' : MemM} (h : PairP w B K M) (l1 : LogP w1 K.lg K.g K.v K.d K.p 512 512 M') (t1 : Turns (XM K.v K.d K.p) w w1) (r2 : LogRP w2 K.lr K.gr K.vr K.dr K.ar 512 512 M') (t2 : Turns (XM K.vr K.dr K.ar) w1 w2) : PairP w2 B K M' ∧ Turns K.all w w2 := by
  obtain ⟨n1, n2, n3, n4, n5, n6⟩ := h.nR
  refine ⟨⟨⟨t2.blk l1.l n1, l1.m.turns t2 n2 n3 n4 n5⟩, r2, t2.blk (h.left t1).2 n6, h.f, h.n⟩, (t1.mono fun k q => .inl q).trans (t2.mono fun k q => .inr q)⟩
/-- the one log alone is changed: the pair no more, but what it was of -/
theorem PairP.below {w w' : World} {B B' : Nat} {K : PK} {M : MemM} (h : PairP w B' K M) (t : Turns K.all w w') (hB : B ≤ w.heap.size) (hB' : B ≤ B') : Below B w w' :=
  t.below hB (fun k hk => Nat.le_trans hB' (h.from_le k hk))
theorem load_all {w : World} {g v d p : Nat} {M : MemM} (h : MemP w g v d p M) (hl : M.V.length = 1024) :
    Calls Tryd.prog 55 #[.pointer (some ⟨g, 0, none⟩), .int .i64 0, .int .i64 1024] w fun e w' => ∃ a c, e = .returned (.tuple #[.slice a M.V.length c, .int .i64 0]) ∧ RowB w' a c M.V ∧ Below w.heap.size w w' := by
  refine (load_any h 0 1024 (by omega) (by omega)).mono ?_
  intro e w' z
  unfold LoadP at z
  have hi : inM M 0 1024 = true := (inM_iff M 0 1024).2 (by omega)
  rw [if_pos hi] at z
  obtain ⟨a, c, rfl, o, b⟩ := z
  have hr := o.row
  rw [show ((0 : Int)).toNat = 0 from rfl, show ((1024 : Int)).toNat = 1024 from rfl, List.drop_zero, List.take_of_length_le (by omega)] at hr
  exact ⟨a, c, by rw [hl]; rfl, hr, b⟩
theorem lasts_all {w : World} {g v d p : Nat} {M : MemM} (h : MemP w g v d p M) (hl : M.V.length = 1024) :
    Calls Tryd.prog 26 #[.pointer (some ⟨g, 0, none⟩), .int .i64 0, .int .i64 1024] w fun e w' => ∃ a c, e = .returned (.tuple #[.slice a M.V.length c, .int .i64 0]) ∧ RowB w' a c M.D ∧ Below w.heap.size w w' := by
  have hd := h.1.1
  refine (lasts_any h 0 1024 (by omega) (by omega)).mono ?_
  intro e w' z
  unfold LoadP at z
  have hi : inM M 0 1024 = true := (inM_iff M 0 1024).2 (by omega)
  rw [if_pos hi] at z
  obtain ⟨a, c, rfl, o, b⟩ := z
  have hr := o.row
  rw [show ((0 : Int)).toNat = 0 from rfl, show ((1024 : Int)).toNat = 1024 from rfl, List.drop_zero, List.take_of_length_le (by omega)] at hr
  exact ⟨a, c, by rw [hl]; rfl, hr, b⟩
theorem same_true {w : World} {a b : Option Addr} {c d : Nat} {xs : List UInt8} (h1 : RowB w a c xs) (h2 : RowB w b d xs) (hl : xs.length ≤ 1000000) :
    Calls Tryd.prog 12 #[.slice a xs.length c, .slice b xs.length d] w fun e w' => e = .returned (.bool true) ∧ Below w.heap.size w w' :=
  (same_any a b c d xs xs w h1 h2 (by omega) (by omega)).mono fun e w' z => by rw [decide_eq_true rfl] at z; exact z
theorem sameD_true {w : World} {a b : Option Addr} {c : Nat} {xs ys : List UInt8} (h1 : RowB w a c xs) (h2 : RowB w b xs.length xs) (hl : ys.length ≤ 1000000) (hd : xs.length = ys.length) :
    Calls Tryd.prog 12 #[.slice a ys.length c, .slice b ys.length ys.length] w fun e w' => e = .returned (.bool true) ∧ Below w.heap.size w w' := by
  have := same_true h1 h2 (by omega)
  rw [hd] at this
  exact this
set_option maxHeartbeats 1000000 in
theorem records_any {w : World} {lg g v d p at_ size : Nat} {M : MemM} (hg : LogP w lg g v d p at_ size M) (hok : LogOk at_ size M) :
    Calls Tryd.prog 29 #[.pointer (some ⟨lg, 0, none⟩)] w fun e w' => ∃ ra rc rs, e = .returned (.slice ra rs.length rc) ∧ rs.map (·.2.2) = (logR M.V at_ size).1 ∧ RecsP w' w.heap.size ra rc rs ∧ Below w.heap.size w w' := by
  have HR := hid (read_any hg hok)
  clear hg hok
  go_enter Tryd.func29, Tryd.ntmps29
  go_wp2_with fail
  refine HR.out.mono ?_
  rintro e w1 ⟨x, rfl, ra, rc, rs, rfl, h1, h2, h3⟩
  go_wp2_with fail
  go_ret
  exact ⟨ra, rc, rs, rfl, h1, h2, h3⟩
theorem newR1024 (w : World) : Calls Tryd.prog 44 #[.int .i64 1024] w fun e w' => ∃ g v d a, e = .returned (.pointer (some ⟨g, 0, none⟩)) ∧ MemR w' g v d a mem0 ∧ (w.heap.size ≤ g ∧ w.heap.size ≤ v ∧ w.heap.size ≤ d ∧ w.heap.size ≤ a) ∧ Below w.heap.size w w' := by
  refine (newR_any 1024 w (by omega)).mono ?_
  intro e w' z
  unfold NewR at z
  rw [if_pos (by decide), mem0_eq] at z
  exact z
set_option maxHeartbeats 4000000 in
theorem beginPair_any (w : World) : Calls Tryd.prog 20 #[] w fun e w' => ∃ K : PK, e = .returned (.pointer (some ⟨K.pp, 0, none⟩)) ∧ PairP w' w.heap.size K mem0 ∧ Below w.heap.size w w' := by
  go_enter Tryd.func20, Tryd.ntmps20
  go_wp2_with fail
  refine (new1024 w).mono ?_
  rintro e w1 ⟨g, v, d, p, rfl, m1, ⟨hg, hv, hd, hp⟩, b1⟩
  have M1 := hid m1; have B1 := hid b1
  clear m1 b1
  go_wp2_with fail
  refine (newlog w1 M1.out).mono ?_
  rintro e w2 ⟨lg, rfl, l2, hlg, b2⟩
  have L2 := hid l2; have B2 := hid (kept_trans B1.out b2); have s1 := B1.out.size; have lt2 := l2.lt
  clear l2 b2
  go_wp2_with fail
  refine (newR1024 w2).mono ?_
  rintro e w3 ⟨gr, vr, dr, ar, rfl, m3, ⟨hgr, hvr, hdr, har⟩, b3⟩
  have M3 := hid m3; have B3 := hid (kept_trans B2.out b3); have L3 := hid (L2.out.mono b3); have s2 := B2.out.size; have s3 := b3.size
  clear m3 b3
  go_wp2_with fail
  go_ret
  obtain ⟨w4, hw4⟩ : ∃ x, x = w3.alloc (.cells #[.pointer (some ⟨gr, 0, none⟩), .int .i64 512, .int .i64 512] 76) := ⟨_, rfl⟩
  have b4 : Below w3.heap.size w3 w4 := by rw [hw4]; exact albO _ _
  have k4 : Blk w4 w3.heap.size 76 (logC gr 512 512) := by rw [hw4]; exact blk_newO rfl _ _
  have s4 : w4.heap.size = w3.heap.size + 1 := by rw [hw4]; simp
  rw [← hw4]
  have b5 := albO w4 (.cells #[.pointer (some ⟨g, 0, none⟩), .pointer (some ⟨lg, 0, none⟩), .pointer (some ⟨gr, 0, none⟩), .pointer (some ⟨w3.heap.size, 0, none⟩)] 50)
  refine ⟨⟨g, v, d, p, lg, gr, vr, dr, ar, w3.heap.size, w4.heap.size⟩, ?_, ⟨(L3.out.mono b4).mono b5, ⟨k4.mono b5, (M3.out.mono b4).mono b5⟩, blk_newO rfl _ _, ⟨?_, ?_, ?_, ?_, ?_, ?_, ?_, ?_, ?_, ?_, ?_⟩, ⟨?_, ?_, ?_, ?_⟩⟩, kept_trans (kept_trans B3.out b4) b5⟩
  case refine_1 => exact congrArg (fun n => Ending.returned (.pointer (some ⟨n, 0, none⟩))) s4.symm
  all_goals (dsimp only; omega)
theorem callP_12 (args : Array Value) (w : World) : (callFunc 12 args).run Tryd.prog w = .ok (.enter 12 args) w := by
  have h := Tryd.func12
  go_simp
theorem callP_26 (args : Array Value) (w : World) : (callFunc 26 args).run Tryd.prog w = .ok (.enter 26 args) w := by
  have h := Tryd.func26
  go_simp
theorem callP_29 (args : Array Value) (w : World) : (callFunc 29 args).run Tryd.prog w = .ok (.enter 29 args) w := by
  have h := Tryd.func29
  go_simp
theorem callP_58 (args : Array Value) (w : World) : (callFunc 58 args).run Tryd.prog w = .ok (.enter 58 args) w := by
  have h := Tryd.func58
  go_simp
theorem fa_50_0_0 (g : Nat) (w : World) : (Instr.fieldAt 50 (.pointer (some ⟨g, 0, none⟩)) 0).run Tryd.prog w = .ok (.pointer (some ⟨g, 0, none⟩)) w := rfl
theorem fa_50_0_1 (g : Nat) (w : World) : (Instr.fieldAt 50 (.pointer (some ⟨g, 0, none⟩)) 1).run Tryd.prog w = .ok (.pointer (some ⟨g, 1, none⟩)) w := rfl
theorem fa_50_0_2 (g : Nat) (w : World) : (Instr.fieldAt 50 (.pointer (some ⟨g, 0, none⟩)) 2).run Tryd.prog w = .ok (.pointer (some ⟨g, 2, none⟩)) w := rfl
theorem fa_50_0_3 (g : Nat) (w : World) : (Instr.fieldAt 50 (.pointer (some ⟨g, 0, none⟩)) 3).run Tryd.prog w = .ok (.pointer (some ⟨g, 3, none⟩)) w := rfl
theorem fa_90_0_1 (g : Nat) (w : World) : (Instr.fieldAt 90 (.pointer (some ⟨g, 0, none⟩)) 1).run Tryd.prog w = .ok (.pointer (some ⟨g, 1, none⟩)) w := rfl

set_option maxHeartbeats 8000000 in
theorem like_any {w : World} {B : Nat} {K : PK} {M : MemM} (hp : PairP w B K M) (hlen : M.V.length = 1024) :
    Calls Tryd.prog 30 #[.pointer (some ⟨K.pp, 0, none⟩)] w fun e w' => e = .returned (.bool true) ∧ Below w.heap.size w w' := by
  have HP0 := hid hp
  have hok : LogOk 512 512 M := ⟨by omega, by omega, by omega, by omega⟩
  have hDV : M.D.length = M.V.length := hp.l.m.1.1
  have hle : M.V.length ≤ 1000000 := by omega
  have HB0 := hid (Below.refl w.heap.size w)
  clear hp
  go_enter Tryd.func30, Tryd.ntmps30
  iterate 3 go_step
  refine wpk_enter (N := 81) (l := [(0, .pointer (some ⟨K.pp, 0, none⟩))]) ⟨rfl, (by intro x hx; simp only [List.mem_cons, List.not_mem_nil, or_false] at hx; rcases hx with rfl <;> rfl), rfl⟩ fun a2 h1 => ?_
  refine wv h1 rfl rfl rfl rfl (.bool false) rfl fun a4 h3 => ?_
  iterate 5 go_step
  refine wmk h3 rfl rfl rfl rfl 0 rfl (fun _ => rfl) fun a6 h5 => ?_
  refine wv h5 rfl rfl rfl rfl (.pointer (some ⟨K.pp, 0, none⟩)) (by unfold execOp; simp only [h5.ev 13 rfl]; exact rfl) fun a8 h7 => ?_
  refine wv h7 rfl rfl rfl rfl (.pointer (some ⟨K.pp, 0, none⟩)) (by unfold execOp; simp only [h7.ev 14 rfl]; exact run_v (fa_50_0_0 (K.pp) _)) fun a10 h9 => ?_
  refine wv h9 rfl rfl rfl rfl (.pointer (some ⟨K.g, 0, none⟩)) (by unfold execOp; simp only [h9.ev 15 rfl]; exact run_v (loadMP (HP0.out.b.cell (i := 0) (by show 0 < 4; omega)))) fun a12 h11 => ?_
  refine wpk_call h11 (wanted_none rfl) rfl (by decide) (fr rfl) (fun args => callP_55 args _) rfl #[.pointer (some ⟨K.g, 0, none⟩), .int .i64 0, .int .i64 1024] (by simp only [List.map_toArray, List.map_cons, List.map_nil, h11.ev 16 rfl]; rfl) (R := fun v' w' => ∃ x y, v' = .tuple #[.slice x M.V.length y, .int .i64 0] ∧ RowB w' x y M.V ∧ Below w.heap.size w w') ((load_all HP0.out.l.m hlen).mono fun e w' q => by obtain ⟨x, y, q1, q2, q3⟩ := q; exact ⟨_, q1, x, y, rfl, q2, q3⟩) fun a14 v1 w1 r1 h13 => ?_
  obtain ⟨lds, lcs, rfl, os, b1⟩ := r1
  have HP1 := hid (HP0.out.mono b1); have Rs := hid os; have HB1 := hid (kept_trans HB0.out b1)
  clear os b1
  refine wmk h13 rfl rfl rfl rfl 17 rfl (fun _ => rfl) fun a16 h15 => ?_
  refine wv h15 rfl rfl rfl rfl (.slice lds M.V.length lcs) (by unfold execOp; simp only [h15.ev 12 rfl]; exact rfl) fun a18 h17 => ?_
  refine wv h17 rfl rfl rfl rfl (.int .i64 0) (by unfold execOp; simp only [h17.ev 12 rfl]; exact rfl) fun a20 h19 => ?_
  refine wmk h19 rfl rfl rfl rfl 18 rfl (fun _ => rfl) fun a22 h21 => ?_
  refine wmk h21 rfl rfl rfl rfl 19 rfl (fun _ => rfl) fun a24 h23 => ?_
  have h25 := h23.subs (l' := [(3, _), (2, _), (0, _)]) rfl
  clear h23
  iterate 5 go_step
  refine wmk h25 rfl rfl rfl rfl 0 rfl (fun _ => rfl) fun a27 h26 => ?_
  refine wv h26 rfl rfl rfl rfl (.pointer (some ⟨K.pp, 0, none⟩)) (by unfold execOp; simp only [h26.ev 21 rfl]; exact rfl) fun a29 h28 => ?_
  refine wv h28 rfl rfl rfl rfl (.pointer (some ⟨K.pp, 0, none⟩)) (by unfold execOp; simp only [h28.ev 22 rfl]; exact run_v (fa_50_0_0 (K.pp) _)) fun a31 h30 => ?_
  refine wv h30 rfl rfl rfl rfl (.pointer (some ⟨K.g, 0, none⟩)) (by unfold execOp; simp only [h30.ev 23 rfl]; exact run_v (loadMP (HP1.out.b.cell (i := 0) (by show 0 < 4; omega)))) fun a33 h32 => ?_
  refine wpk_call h32 (wanted_none rfl) rfl (by decide) (fr rfl) (fun args => callP_26 args _) rfl #[.pointer (some ⟨K.g, 0, none⟩), .int .i64 0, .int .i64 1024] (by simp only [List.map_toArray, List.map_cons, List.map_nil, h32.ev 24 rfl]; rfl) (R := fun v' w' => ∃ x y, v' = .tuple #[.slice x M.V.length y, .int .i64 0] ∧ RowB w' x y M.D ∧ Below w1.heap.size w1 w') ((lasts_all HP1.out.l.m hlen).mono fun e w' q => by obtain ⟨x, y, q1, q2, q3⟩ := q; exact ⟨_, q1, x, y, rfl, q2, q3⟩) fun a35 v2 w2 r2 h34 => ?_
  obtain ⟨ldt, lct, rfl, ot, b2⟩ := r2
  have HP2 := hid (HP1.out.mono b2); have Rt := hid ot; have HB2 := hid (kept_trans HB1.out b2)
  have Rs := hid (Row.mono Rs.out b2)
  clear ot b2
  refine wmk h34 rfl rfl rfl rfl 25 rfl (fun _ => rfl) fun a37 h36 => ?_
  refine wv h36 rfl rfl rfl rfl (.slice ldt M.V.length lct) (by unfold execOp; simp only [h36.ev 20 rfl]; exact rfl) fun a39 h38 => ?_
  refine wv h38 rfl rfl rfl rfl (.int .i64 0) (by unfold execOp; simp only [h38.ev 20 rfl]; exact rfl) fun a41 h40 => ?_
  refine wmk h40 rfl rfl rfl rfl 26 rfl (fun _ => rfl) fun a43 h42 => ?_
  refine wmk h42 rfl rfl rfl rfl 27 rfl (fun _ => rfl) fun a45 h44 => ?_
  have h46 := h44.subs (l' := [(5, _), (3, _), (2, _), (0, _)]) rfl
  clear h44
  iterate 5 go_step
  refine wmk h46 rfl rfl rfl rfl 3 rfl (fun _ => rfl) fun a48 h47 => ?_
  refine wmk h47 rfl rfl rfl rfl 0 rfl (fun _ => rfl) fun a50 h49 => ?_
  refine wv h49 rfl rfl rfl rfl (.pointer (some ⟨K.pp, 0, none⟩)) (by unfold execOp; simp only [h49.ev 29 rfl]; exact rfl) fun a52 h51 => ?_
  refine wv h51 rfl rfl rfl rfl (.pointer (some ⟨K.pp, 2, none⟩)) (by unfold execOp; simp only [h51.ev 30 rfl]; exact run_v (fa_50_0_2 (K.pp) _)) fun a54 h53 => ?_
  refine wv h53 rfl rfl rfl rfl (.pointer (some ⟨K.gr, 0, none⟩)) (by unfold execOp; simp only [h53.ev 31 rfl]; exact run_v (loadMR (HP2.out.b.cell (i := 2) (by show 2 < 4; omega)))) fun a56 h55 => ?_
  refine wv h55 rfl rfl rfl rfl (.pointer (some ⟨K.gr, 0, none⟩)) (by unfold execOp; simp only [h55.ev 32 rfl]; exact rfl) fun a58 h57 => ?_
  refine wv h57 rfl rfl rfl rfl (.pointer (some ⟨K.gr, 0, none⟩)) (by unfold execOp; simp only [h57.ev 33 rfl]; exact run_v (fa_90_0_0 (K.gr) _)) fun a60 h59 => ?_
  refine wv h59 rfl rfl rfl rfl (.slice (some ⟨K.vr, 0, none⟩) M.V.length M.V.length) (by unfold execOp; simp only [h59.ev 34 rfl]; exact run_v (loadYP HP2.out.r.m.cells.1)) fun a62 h61 => ?_
  have hsm := (same_true Rs.out HP2.out.r.m.rowV hle)
  refine wpk_call h61 (wanted_none rfl) rfl (by decide) (fr rfl) (fun args => callP_12 args _) rfl #[.slice lds M.V.length lcs, .slice (some ⟨K.vr, 0, none⟩) M.V.length M.V.length] (by simp only [List.map_toArray, List.map_cons, List.map_nil, h61.ev 28 rfl, h61.ev 35 rfl]) (R := fun v' w' => v' = .bool true ∧ Below w2.heap.size w2 w') (hsm.mono fun e w' q => ⟨_, q.1, rfl, q.2⟩) fun a64 v3 w3 r3 h63 => ?_
  obtain ⟨rfl, b3⟩ := r3
  have HP3 := hid (HP2.out.mono b3); have HB3 := hid (kept_trans HB2.out b3); have Rt := hid (Row.mono Rt.out b3); clear b3 hsm
  refine wmk h63 rfl rfl rfl rfl 36 rfl (fun _ => rfl) fun a66 h65 => ?_
  have h67 := h65.subs (l' := [(7, _), (5, _), (3, _), (2, _), (0, _)]) rfl
  clear h65
  iterate 5 go_step
  refine wmk h67 rfl rfl rfl rfl 5 rfl (fun _ => rfl) fun a69 h68 => ?_
  refine wmk h68 rfl rfl rfl rfl 0 rfl (fun _ => rfl) fun a71 h70 => ?_
  refine wv h70 rfl rfl rfl rfl (.pointer (some ⟨K.pp, 0, none⟩)) (by unfold execOp; simp only [h70.ev 38 rfl]; exact rfl) fun a73 h72 => ?_
  refine wv h72 rfl rfl rfl rfl (.pointer (some ⟨K.pp, 2, none⟩)) (by unfold execOp; simp only [h72.ev 39 rfl]; exact run_v (fa_50_0_2 (K.pp) _)) fun a75 h74 => ?_
  refine wv h74 rfl rfl rfl rfl (.pointer (some ⟨K.gr, 0, none⟩)) (by unfold execOp; simp only [h74.ev 40 rfl]; exact run_v (loadMR (HP3.out.b.cell (i := 2) (by show 2 < 4; omega)))) fun a77 h76 => ?_
  refine wv h76 rfl rfl rfl rfl (.pointer (some ⟨K.gr, 0, none⟩)) (by unfold execOp; simp only [h76.ev 41 rfl]; exact rfl) fun a79 h78 => ?_
  refine wv h78 rfl rfl rfl rfl (.pointer (some ⟨K.gr, 1, none⟩)) (by unfold execOp; simp only [h78.ev 42 rfl]; exact run_v (fa_90_0_1 (K.gr) _)) fun a81 h80 => ?_
  refine wv h80 rfl rfl rfl rfl (.slice (some ⟨K.dr, 0, none⟩) M.V.length M.V.length) (by unfold execOp; simp only [h80.ev 43 rfl]; exact run_v (loadYP HP3.out.r.m.cells.2.1)) fun a83 h82 => ?_
  have hsm := (sameD_true Rt.out HP3.out.r.m.rowD hle hDV)
  refine wpk_call h82 (wanted_none rfl) rfl (by decide) (fr rfl) (fun args => callP_12 args _) rfl #[.slice ldt M.V.length lct, .slice (some ⟨K.dr, 0, none⟩) M.V.length M.V.length] (by simp only [List.map_toArray, List.map_cons, List.map_nil, h82.ev 37 rfl, h82.ev 44 rfl]) (R := fun v' w' => v' = .bool true ∧ Below w3.heap.size w3 w') (hsm.mono fun e w' q => ⟨_, q.1, rfl, q.2⟩) fun a85 v4 w4 r4 h84 => ?_
  obtain ⟨rfl, b4⟩ := r4
  have HP4 := hid (HP3.out.mono b4); have HB4 := hid (kept_trans HB3.out b4); have Rt := hid (Row.mono Rt.out b4); clear b4 hsm
  refine wmk h84 rfl rfl rfl rfl 45 rfl (fun _ => rfl) fun a87 h86 => ?_
  have h88 := h86.subs (l' := [(8, _), (7, _), (5, _), (3, _), (2, _), (0, _)]) rfl
  clear h86
  iterate 5 go_step
  refine wmk h88 rfl rfl rfl rfl 0 rfl (fun _ => rfl) fun a90 h89 => ?_
  refine wv h89 rfl rfl rfl rfl (.pointer (some ⟨K.pp, 0, none⟩)) (by unfold execOp; simp only [h89.ev 47 rfl]; exact rfl) fun a92 h91 => ?_
  refine wv h91 rfl rfl rfl rfl (.pointer (some ⟨K.pp, 3, none⟩)) (by unfold execOp; simp only [h91.ev 48 rfl]; exact run_v (fa_50_0_3 (K.pp) _)) fun a94 h93 => ?_
  refine wv h93 rfl rfl rfl rfl (.pointer (some ⟨K.lr, 0, none⟩)) (by unfold execOp; simp only [h93.ev 49 rfl]; exact run_v (loadLR (HP4.out.b.cell (i := 3) (by show 3 < 4; omega)))) fun a96 h95 => ?_
  refine wpk_call h95 (wanted_none rfl) rfl (by decide) (fr rfl) (fun args => callP_56 args _) rfl #[.pointer (some ⟨K.lr, 0, none⟩)] (by simp only [List.map_toArray, List.map_cons, List.map_nil, h95.ev 50 rfl]) (R := fun v' w' => ∃ ra rc rs, v' = .tuple #[.slice ra rs.length rc, .int .i64 ((logR M.V 512 512).2 : Int)] ∧ rs.map (·.2.2) = (logR M.V 512 512).1 ∧ RecsP w' w4.heap.size ra rc rs ∧ Below w4.heap.size w4 w') (readR_any HP4.out.r hok) fun a98 v5 w5 r5 h97 => ?_
  obtain ⟨ra, rc, rs, rfl, hrs, hrec, b5⟩ := r5
  have HP5 := hid (HP4.out.mono b5); have HB5 := hid (kept_trans HB4.out b5); have HRC := hid hrec; have HRS := hid hrs; clear b5 hrec hrs
  refine wmk h97 rfl rfl rfl rfl 51 rfl (fun _ => rfl) fun a100 h99 => ?_
  refine wv h99 rfl rfl rfl rfl (.slice ra rs.length rc) (by unfold execOp; simp only [h99.ev 46 rfl]; exact rfl) fun a102 h101 => ?_
  refine wv h101 rfl rfl rfl rfl (.int .i64 ((logR M.V 512 512).2 : Int)) (by unfold execOp; simp only [h101.ev 46 rfl]; exact rfl) fun a104 h103 => ?_
  refine wmk h103 rfl rfl rfl rfl 52 rfl (fun _ => rfl) fun a106 h105 => ?_
  refine wmk h105 rfl rfl rfl rfl 53 rfl (fun _ => rfl) fun a108 h107 => ?_
  have h109 := h107.subs (l' := [(9, _), (8, _), (7, _), (5, _), (3, _), (2, _), (0, _)]) rfl
  clear h107
  iterate 5 go_step
  refine wmk h109 rfl rfl rfl rfl 0 rfl (fun _ => rfl) fun a111 h110 => ?_
  refine wv h110 rfl rfl rfl rfl (.pointer (some ⟨K.pp, 0, none⟩)) (by unfold execOp; simp only [h110.ev 54 rfl]; exact rfl) fun a113 h112 => ?_
  refine wv h112 rfl rfl rfl rfl (.pointer (some ⟨K.pp, 1, none⟩)) (by unfold execOp; simp only [h112.ev 55 rfl]; exact run_v (fa_50_0_1 (K.pp) _)) fun a115 h114 => ?_
  refine wv h114 rfl rfl rfl rfl (.pointer (some ⟨K.lg, 0, none⟩)) (by unfold execOp; simp only [h114.ev 56 rfl]; exact run_v (loadLP (HP5.out.b.cell (i := 1) (by show 1 < 4; omega)))) fun a117 h116 => ?_
  refine wpk_call h116 (wanted_none rfl) rfl (by decide) (fr rfl) (fun args => callP_29 args _) rfl #[.pointer (some ⟨K.lg, 0, none⟩)] (by simp only [List.map_toArray, List.map_cons, List.map_nil, h116.ev 57 rfl]) (R := fun v' w' => ∃ ra2 rc2 rs2, v' = .slice ra2 rs2.length rc2 ∧ rs2.map (·.2.2) = (logR M.V 512 512).1 ∧ RecsP w' w5.heap.size ra2 rc2 rs2 ∧ Below w5.heap.size w5 w') ((records_any HP5.out.l hok).mono fun e w' q => by obtain ⟨x, y, z, q1, q2⟩ := q; exact ⟨_, q1, x, y, z, rfl, q2⟩) fun a119 v6 w6 r6 h118 => ?_
  obtain ⟨ra2, rc2, rs2, rfl, hrs2, hrec2, b6⟩ := r6
  have HP6 := hid (HP5.out.mono b6); have HB6 := hid (kept_trans HB5.out b6); have HRC := hid (HRC.out.mono b6); have HRC2 := hid hrec2; have HRS2 := hid hrs2; clear b6 hrec2 hrs2
  have hln : rs.length = rs2.length := by have z := congrArg List.length (HRS.out.trans HRS2.out.symm); simpa using z
  refine wmk h118 rfl rfl rfl rfl 9 rfl (fun _ => rfl) fun a121 h120 => ?_
  rw [hln] at h120
  refine wpk_call h120 (wanted_none rfl) rfl (by decide) (fr rfl) (fun args => callP_58 args _) rfl #[.slice ra2 rs2.length rc2, .slice ra rs2.length rc] (by simp only [List.map_toArray, List.map_cons, List.map_nil, h120.ev 58 rfl, h120.ev 59 rfl]) (R := fun v' w' => v' = .bool true ∧ Below w6.heap.size w6 w') ((sameRecs_eq HRC2.out HRC.out (HRS2.out.trans HRS.out.symm) (by have z := congrArg List.length HRS2.out; rw [List.length_map] at z; rw [z]; have z2 := logR_n M.V 512 512; omega) (fun L hL => by rw [HRS2.out] at hL; exact Nat.le_trans (logR_ok hL).2.2 (by omega))).mono fun e w' q => ⟨_, q.1, rfl, q.2⟩) fun a123 v7 w7 r7 h122 => ?_
  obtain ⟨rfl, b7⟩ := r7
  have HP7 := hid (HP6.out.mono b7); have HB7 := hid (kept_trans HB6.out b7); clear b7
  refine wmk h122 rfl rfl rfl rfl 60 rfl (fun _ => rfl) fun a125 h124 => ?_
  have h126 := h124.subs (l' := [(11, _), (9, _), (8, _), (7, _), (5, _), (3, _), (2, _), (0, _)]) rfl
  clear h124
  iterate 4 go_step
  have HPd := hid (HP7.out.mono (Below.refl _ _).drew); have HBd := hid (HB7.out.drew)
  refine wp_region_held_drew (S := fun w' => Blk w' K.pp 50 (pairC K) ∧ True) (by kernel_rfl) ⟨HPd.out.b, trivial⟩ (fun hS1 => ?_)
  refine wpk_take hS1 h126 0 rfl rfl (by decide) (fr rfl) (by kernel_rfl) (by kernel_rfl) (by kernel_rfl) (fun _ _ _ _ h => h) (.bool true) (Or.inl ⟨Eq.refl true, fun w1 hSw => (by show (execOp _ (⟨_, .move (.tmp 7), _, _, _, _⟩ : Oper)).run _ _ = _; exact (by unfold execOp; simp only [h126.ev 7 rfl]; exact rfl))⟩) fun a128 h127 => ?_
  refine wpk_take hS1 h127 1 rfl rfl (by decide) (fr rfl) (by kernel_rfl) (by kernel_rfl) (by kernel_rfl) (fun _ _ _ _ h => h) (.bool true) (Or.inl ⟨Eq.refl true, fun w1 hSw => (by show (execOp _ (⟨_, .move (.tmp 61), _, _, _, _⟩ : Oper)).run _ _ = _; exact (by unfold execOp; simp only [h127.ev 61 rfl]; exact rfl))⟩) fun a130 h129 => ?_
  refine wpk_take hS1 h129 2 rfl rfl (by decide) (fr rfl) (by kernel_rfl) (by kernel_rfl) (by kernel_rfl) (fun _ _ _ _ h => h) (.bool true) (Or.inl ⟨(by rw [wanted_of (g := 1) (want := true) (b := true) rfl (h129.yields (prev := 62) rfl (by simp))]; rfl), fun w1 hSw => (by show (execOp _ (⟨_, .move (.tmp 8), _, _, _, _⟩ : Oper)).run _ _ = _; exact (by unfold execOp; simp only [h129.ev 8 rfl]; exact rfl))⟩) fun a132 h131 => ?_
  refine wpk_take hS1 h131 3 rfl rfl (by decide) (fr rfl) (by kernel_rfl) (by kernel_rfl) (by kernel_rfl) (fun _ _ _ _ h => h) (.bool true) (Or.inl ⟨Eq.refl true, fun w1 hSw => (by show (execOp _ (⟨_, .pick (.tmp 62) (.tmp 63) (.const (.bool false)), _, _, _, _⟩ : Oper)).run _ _ = _; exact (run_pick rfl (h131.ev 62 rfl) (by rw [if_pos rfl]; exact h131.ev 63 rfl)))⟩) fun a134 h133 => ?_
  refine wpk_take hS1 h133 4 rfl rfl (by decide) (fr rfl) (by kernel_rfl) (by kernel_rfl) (by kernel_rfl) (fun _ _ _ _ h => h) (.bool true) (Or.inl ⟨Eq.refl true, fun w1 hSw => (by show (execOp _ (⟨_, .move (.tmp 64), _, _, _, _⟩ : Oper)).run _ _ = _; exact (by unfold execOp; simp only [h133.ev 64 rfl]; exact rfl))⟩) fun a136 h135 => ?_
  refine wpk_take hS1 h135 5 rfl rfl (by decide) (fr rfl) (by kernel_rfl) (by kernel_rfl) (by kernel_rfl) (fun _ _ _ _ h => h) (.bool true) (Or.inl ⟨(by rw [wanted_of (g := 4) (want := true) (b := true) rfl (h135.yields (prev := 65) rfl (by simp))]; rfl), fun w1 hSw => (by show (execOp _ (⟨_, .move (.tmp 11), _, _, _, _⟩ : Oper)).run _ _ = _; exact (by unfold execOp; simp only [h135.ev 11 rfl]; exact rfl))⟩) fun a138 h137 => ?_
  refine wpk_take hS1 h137 6 rfl rfl (by decide) (fr rfl) (by kernel_rfl) (by kernel_rfl) (by kernel_rfl) (fun _ _ _ _ h => h) (.bool true) (Or.inl ⟨Eq.refl true, fun w1 hSw => (by show (execOp _ (⟨_, .pick (.tmp 65) (.tmp 66) (.const (.bool false)), _, _, _, _⟩ : Oper)).run _ _ = _; exact (run_pick rfl (h137.ev 65 rfl) (by rw [if_pos rfl]; exact h137.ev 66 rfl)))⟩) fun a140 h139 => ?_
  refine wpk_take hS1 h139 7 rfl rfl (by decide) (fr rfl) (by kernel_rfl) (by kernel_rfl) (by kernel_rfl) (fun _ _ _ _ h => h) (.bool true) (Or.inl ⟨Eq.refl true, fun w1 hSw => (by show (execOp _ (⟨_, .move (.tmp 67), _, _, _, _⟩ : Oper)).run _ _ = _; exact (by unfold execOp; simp only [h139.ev 67 rfl]; exact rfl))⟩) fun a142 h141 => ?_
  refine wpk_take hS1 h141 8 rfl rfl (by decide) (fr rfl) (by kernel_rfl) (by kernel_rfl) (by kernel_rfl) (fun _ _ _ _ h => h) (.pointer (some ⟨K.pp, 0, none⟩)) (Or.inl ⟨(by rw [wanted_of (g := 7) (want := true) (b := true) rfl (h141.yields (prev := 68) rfl (by simp))]; rfl), fun w1 hSw => (by show (execOp _ (⟨_, .move (.tmp 0), _, _, _, _⟩ : Oper)).run _ _ = _; exact (by unfold execOp; simp only [h141.ev 0 rfl]; exact rfl))⟩) fun a144 h143 => ?_
  refine wpk_take hS1 h143 9 rfl rfl (by decide) (fr rfl) (by kernel_rfl) (by kernel_rfl) (by kernel_rfl) (fun _ _ _ _ h => h) (.pointer (some ⟨K.pp, 0, none⟩)) (Or.inl ⟨(by rw [wanted_of (g := 7) (want := true) (b := true) rfl (h143.yields (prev := 68) rfl (by simp))]; rfl), fun w1 hSw => (by show (execOp _ (⟨_, .nilCheck (.tmp 69), _, _, _, _⟩ : Oper)).run _ _ = _; exact (by unfold execOp; simp only [h143.ev 69 rfl]; exact rfl))⟩) fun a146 h145 => ?_
  refine wpk_take hS1 h145 10 rfl rfl (by decide) (fr rfl) (by kernel_rfl) (by kernel_rfl) (by kernel_rfl) (fun _ _ _ _ h => h) (.pointer (some ⟨K.pp, 1, none⟩)) (Or.inl ⟨(by rw [wanted_of (g := 7) (want := true) (b := true) rfl (h145.yields (prev := 68) rfl (by simp))]; rfl), fun w1 hSw => (by show (execOp _ (⟨_, .fieldAddr 50 (.tmp 70) 1, _, _, _, _⟩ : Oper)).run _ _ = _; exact (by unfold execOp; simp only [h145.ev 70 rfl]; exact run_v (fa_50_0_1 (K.pp) _)))⟩) fun a148 h147 => ?_
  refine wpk_take hS1 h147 11 rfl rfl (by decide) (fr rfl) (by kernel_rfl) (by kernel_rfl) (by kernel_rfl) (fun _ _ _ _ h => h) (.pointer (some ⟨K.lg, 0, none⟩)) (Or.inl ⟨(by rw [wanted_of (g := 7) (want := true) (b := true) rfl (h147.yields (prev := 68) rfl (by simp))]; rfl), fun w1 hSw => (by show (execOp _ (⟨_, .load 38 (.tmp 71), _, _, _, _⟩ : Oper)).run _ _ = _; exact (by unfold execOp; simp only [h147.ev 71 rfl]; exact run_v (loadLP (hSw.1.cell (i := 1) (by show 1 < 4; omega)))))⟩) fun a150 h149 => ?_
  refine wpk_take hS1 h149 13 rfl rfl (by decide) (fr rfl) (by kernel_rfl) (by kernel_rfl) (by kernel_rfl) (fun _ _ _ _ h => h) (.pointer (some ⟨K.pp, 0, none⟩)) (Or.inl ⟨(by rw [wanted_of (g := 7) (want := true) (b := true) rfl (h149.yields (prev := 68) rfl (by simp))]; rfl), fun w1 hSw => (by show (execOp _ (⟨_, .move (.tmp 0), _, _, _, _⟩ : Oper)).run _ _ = _; exact (by unfold execOp; simp only [h149.ev 0 rfl]; exact rfl))⟩) fun a152 h151 => ?_
  refine wpk_take hS1 h151 14 rfl rfl (by decide) (fr rfl) (by kernel_rfl) (by kernel_rfl) (by kernel_rfl) (fun _ _ _ _ h => h) (.pointer (some ⟨K.pp, 0, none⟩)) (Or.inl ⟨(by rw [wanted_of (g := 7) (want := true) (b := true) rfl (h151.yields (prev := 68) rfl (by simp))]; rfl), fun w1 hSw => (by show (execOp _ (⟨_, .nilCheck (.tmp 74), _, _, _, _⟩ : Oper)).run _ _ = _; exact (by unfold execOp; simp only [h151.ev 74 rfl]; exact rfl))⟩) fun a154 h153 => ?_
  refine wpk_take hS1 h153 15 rfl rfl (by decide) (fr rfl) (by kernel_rfl) (by kernel_rfl) (by kernel_rfl) (fun _ _ _ _ h => h) (.pointer (some ⟨K.pp, 3, none⟩)) (Or.inl ⟨(by rw [wanted_of (g := 7) (want := true) (b := true) rfl (h153.yields (prev := 68) rfl (by simp))]; rfl), fun w1 hSw => (by show (execOp _ (⟨_, .fieldAddr 50 (.tmp 75) 3, _, _, _, _⟩ : Oper)).run _ _ = _; exact (by unfold execOp; simp only [h153.ev 75 rfl]; exact run_v (fa_50_0_3 (K.pp) _)))⟩) fun a156 h155 => ?_
  refine wpk_take hS1 h155 16 rfl rfl (by decide) (fr rfl) (by kernel_rfl) (by kernel_rfl) (by kernel_rfl) (fun _ _ _ _ h => h) (.pointer (some ⟨K.lr, 0, none⟩)) (Or.inl ⟨(by rw [wanted_of (g := 7) (want := true) (b := true) rfl (h155.yields (prev := 68) rfl (by simp))]; rfl), fun w1 hSw => (by show (execOp _ (⟨_, .load 48 (.tmp 76), _, _, _, _⟩ : Oper)).run _ _ = _; exact (by unfold execOp; simp only [h155.ev 76 rfl]; exact run_v (loadLR (hSw.1.cell (i := 3) (by show 3 < 4; omega)))))⟩) fun a158 h157 => ?_
  refine wpk_onlyG 12 rfl (by rw [wanted_of (g := 7) (want := true) (b := true) rfl (h157.yields (prev := 68) rfl (by simp))]; rfl) (by kernel_rfl) fun KK hK => op_call h157 rfl (by decide) (fr rfl) (fun args => callP_27 args _) rfl #[.pointer (some ⟨K.lg, 0, none⟩)] (by simp only [List.map_toArray, List.map_cons, List.map_nil, h157.ev 72 rfl]) (R := fun v' w' => v' = .int .i64 (endL M.V 512 512 : Int) ∧ Below w7.drew.heap.size w7.drew w') (end_any HPd.out.l hok) fun a160 v20 w20 r20 h159 => hK _ _ (⟨HPd.out.b.mono r20.2, trivial⟩) fun hS2 => ?_
  clear hK
  obtain ⟨rfl, b20⟩ := r20; have HPe := hid (HPd.out.mono b20); have HBe := hid (kept_trans HBd.out b20)
  refine wpk_onlyG 17 rfl (by rw [wanted_of (g := 7) (want := true) (b := true) rfl (h159.yields (prev := 68) rfl (by simp))]; rfl) (by kernel_rfl) fun KK hK => op_call h159 rfl (by decide) (fr rfl) (fun args => callP_59 args _) rfl #[.pointer (some ⟨K.lr, 0, none⟩)] (by simp only [List.map_toArray, List.map_cons, List.map_nil, h159.ev 77 rfl]) (R := fun v' w' => v' = .int .i64 (endL M.V 512 512 : Int) ∧ Below w20.heap.size w20 w') (endR_any HPe.out.r hok) fun a162 v21 w21 r21 h161 => hK _ _ (⟨HPe.out.b.mono r21.2, trivial⟩) fun hS3 => ?_
  clear hK
  obtain ⟨rfl, b21⟩ := r21; have HBf := hid (kept_trans HBe.out b21)
  refine wpk_take hS3 h161 18 rfl rfl (by decide) (fr rfl) (by kernel_rfl) (by kernel_rfl) (by kernel_rfl) (fun _ _ _ _ h => h) (.bool true) (Or.inl ⟨(by rw [wanted_of (g := 7) (want := true) (b := true) rfl (h161.yields (prev := 68) rfl (by simp))]; rfl), fun w1 hSw => (by show (execOp _ (⟨_, .binOp .eql 3 (.tmp 73) (.tmp 78) 3, _, _, _, _⟩ : Oper)).run _ _ = _; exact (by unfold execOp; simp only [h161.ev 73 rfl, h161.ev 78 rfl]; exact run_v (eqIP _ _ _ _ _ (by simp))))⟩) fun a164 h163 => ?_
  refine wpk_take hS3 h163 19 rfl rfl (by decide) (fr rfl) (by kernel_rfl) (by kernel_rfl) (by kernel_rfl) (fun _ _ _ _ h => h) (.bool true) (Or.inl ⟨Eq.refl true, fun w1 hSw => (by show (execOp _ (⟨_, .pick (.tmp 68) (.tmp 79) (.const (.bool false)), _, _, _, _⟩ : Oper)).run _ _ = _; exact (run_pick rfl (h163.ev 68 rfl) (by rw [if_pos rfl]; exact h163.ev 79 rfl)))⟩) fun a166 h165 => ?_
  have h167 := h165.subs (l' := [(80, _), (79, _), (78, _), (73, _), (77, _), (76, _), (75, _), (74, _), (72, _), (71, _), (70, _), (69, _), (68, _), (67, _), (66, _), (65, _), (64, _), (63, _), (62, _), (61, _), (11, _), (9, _), (8, _), (7, _), (5, _), (3, _), (0, _)]) rfl
  clear h165
  refine wpk_take hS3 h167 20 rfl rfl (by decide) (fr rfl) (by kernel_rfl) (by kernel_rfl) (by kernel_rfl) (fun _ _ _ _ h => h) (.bool true) (Or.inl ⟨Eq.refl true, fun w1 hSw => (by show (execOp _ (⟨_, .assign (.tmp 80), _, _, _, _⟩ : Oper)).run _ _ = _; exact (by unfold execOp; simp only [h167.ev 80 rfl]; exact rfl))⟩) fun a169 h168 => ?_
  refine wpAnyH_done (by kernel_rfl) ?_ _
  have h170 := h168.subs (l' := [(2, _), (11, _), (9, _), (8, _), (7, _), (5, _), (3, _), (0, _)]) rfl
  clear h168
  iterate 3 go_step
  exact bodyPost_ret (results_tmp1 rfl (h170.known (2, .bool true) (by simp))) h170.defs ⟨rfl, HBf.out⟩
end Go.Proofs.YtkhhoognemjibaaDoor
