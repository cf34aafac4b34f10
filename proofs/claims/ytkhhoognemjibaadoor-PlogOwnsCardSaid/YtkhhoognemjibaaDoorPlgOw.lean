/- PlogOwns. (genPlgOw.py) -/
import Derived.Test.YtkhhoognemjibaaDoorPlgPr
import Derived.Test.YtkhhoognemjibaaDoorPlgXr
import Derived.Test.YtkhhoognemjibaaDoorPlgEn
namespace Go.Proofs.YtkhhoognemjibaaDoor
open Go.RowKit
set_option linter.unusedSimpArgs false
set_option linter.unusedVariables false
set_option maxRecDepth 100000

theorem below_cell {B : Nat} {w w' : World} (b : Below B w w') {x : Addr} {v : Value} (hx : x.block < B) (h : w.cell? x = some v) : w'.cell? x = some v := by
  have hb := b.block x.block hx
  unfold World.cell? at *
  rw [hb]
  exact h
theorem blk_eqP {w : World} {g : Nat} {e e' : TypeId} {L K : List Value} (h : Blk w g e L) (h' : Blk w g e' K) : L = K := by
  unfold Blk at *
  rw [h] at h'
  simp at h'
  exact h'.1
theorem logOk_of {M : MemM} (h : M.V.length = 1024) : LogOk 512 512 M := ⟨by omega, by omega, by omega, by omega⟩
theorem pair_lt {w : World} {B : Nat} {K : PK} {M : MemM} (h : PairP w B K M) : ∀ k, K.all k → k < w.heap.size := by
  obtain ⟨_, _, q1, q2, q3⟩ := h.l.lt
  obtain ⟨_, _, q4, q5, q6⟩ := h.r.lt
  intro k hk
  rcases hk with (e | e | e) | (e | e | e) <;> rw [e] <;> assumption
theorem splice_one {α : Type} (L : List α) (i : Nat) (v : α) (h : i < L.length) : splice L i [v] = L.set i v := by
  unfold splice
  rw [List.set_eq_take_append_cons_drop, if_pos h]
  simp
/-- a row of patches, whatever they are -/
def Wk (W : World) (B : Nat) (a : Option Addr) (n c : Nat) : Prop := ∃ cs, Own W B 46 2 a n c cs
theorem wk_blk {W : World} {B : Nat} {a : Option Addr} {n c : Nat} (h : Wk W B a n c) (hn : 0 < n) : ∃ g K, a = some ⟨g, 0, none⟩ ∧ Blk W g 46 K ∧ n * 2 ≤ K.length ∧ B ≤ g := by
  obtain ⟨cs, o⟩ := h
  rcases o.2 with ⟨hv, _⟩ | ⟨b, cap, cur, hv, hB, hh, rest⟩
  · cases hv; omega
  · cases hv
    obtain ⟨L, hb, hl, hB, _⟩ := own_splice o
    exact ⟨b, L, rfl, hb, hl, hB⟩
theorem wk_write {W W' : World} {B : Nat} {a : Option Addr} {n c : Nat} (h : Wk W B a n c) {g : Nat} {K K' : List Value} (hb : Blk W g 46 K) (hb' : Blk W' g 46 K') (hl : K'.length = K.length) (G : W.grownBy W' (some g)) : Wk W' B a n c := by
  obtain ⟨cs, o⟩ := h
  by_cases hq : (Value.slice a n c).ownBlock = some g
  · rcases o.2 with ⟨hv, _⟩ | ⟨b, cap, cur, hv, hB, hh, rest⟩
    · cases hv; cases hq
    · cases hv
      simp only [Value.ownBlock, Option.some.injEq] at hq
      subst hq
      obtain ⟨L, hb2, hl2, hB2, ht, hnc, hc⟩ := Own.blk o
      have e : L = K := blk_eqP hb2 hb
      subst e
      exact ⟨_, Own.of_blk (B := B) (sz := 2) (n := n) (c := c) hb' hB hnc hc (by rw [hl, hl2])⟩
  · exact ⟨cs, own_grown_apart o G hq⟩
theorem PairP.patch {w w' : World} {B g : Nat} {K : PK} {M : MemM} {L : List Value} (h : PairP w B K M) (hb : Blk w g 46 L) (t : Turns (fun k => k = g) w w') : PairP w' B K M := by
  obtain ⟨_, _, g1, v1, d1, p1⟩ := h.l.m
  obtain ⟨_, _, g2, v2, d2, r2⟩ := h.r.m
  exact ⟨⟨t.blk h.l.l (blk_ne h.l.l hb (by decide)), h.l.m.turns t (blk_ne g1 hb (by decide)) (blk_ne v1 hb (by decide)) (blk_ne d1 hb (by decide)) (fun e => pend_neP p1 hb e.symm)⟩, ⟨t.blk h.r.l (blk_ne h.r.l hb (by decide)), h.r.m.turns t (blk_ne g2 hb (by decide)) (blk_ne v2 hb (by decide)) (blk_ne d2 hb (by decide)) (blk_ne r2 hb (by decide))⟩, t.blk h.b (blk_ne h.b hb (by decide)), h.f, h.n⟩
theorem PairP.recs {w w' : World} {B g : Nat} {K : PK} {M : MemM} {L : List Value} (h : PairP w B K M) (hb : Blk w g 22 L) (t : Turns (fun k => k = g) w w') : PairP w' B K M := by
  obtain ⟨_, _, g1, v1, d1, p1⟩ := h.l.m
  obtain ⟨_, _, g2, v2, d2, r2⟩ := h.r.m
  exact ⟨⟨t.blk h.l.l (blk_ne h.l.l hb (by decide)), h.l.m.turns t (blk_ne g1 hb (by decide)) (blk_ne v1 hb (by decide)) (blk_ne d1 hb (by decide)) (fun e => pend_neP p1 hb e.symm)⟩, ⟨t.blk h.r.l (blk_ne h.r.l hb (by decide)), h.r.m.turns t (blk_ne g2 hb (by decide)) (blk_ne v2 hb (by decide)) (blk_ne d2 hb (by decide)) (blk_ne r2 hb (by decide))⟩, t.blk h.b (blk_ne h.b hb (by decide)), h.f, h.n⟩
/-- records that are written over: those from i on are there yet -/
structure WkR (W : World) (B : Nat) (ra : Option Addr) (rc : Nat) (qs : List (Option Addr × Nat × List PtM)) (i : Nat) : Prop where
  o : ∃ cs, Own W B 22 1 ra qs.length rc cs ∧ ∀ j, i ≤ j → ∀ h : j < qs.length, cs[j]? = some (recV qs[j])
  w : ∀ q ∈ qs, Wk W B q.1 q.2.2.length q.2.1
theorem WkR.start {W : World} {B : Nat} {ra : Option Addr} {rc : Nat} {qs : List (Option Addr × Nat × List PtM)} (h : RecsP W B ra rc qs) : WkR W B ra rc qs 0 :=
  ⟨⟨_, h.o, fun j _ hj => by rw [List.getElem?_map, List.getElem?_eq_getElem hj]; rfl⟩, fun q hq => ⟨_, h.i q hq⟩⟩
theorem WkR.wk {W : World} {B : Nat} {ra : Option Addr} {rc : Nat} {qs : List (Option Addr × Nat × List PtM)} {i : Nat} (h : WkR W B ra rc qs i) {q : Option Addr × Nat × List PtM} (hq : q ∈ qs) : Wk W B q.1 q.2.2.length q.2.1 := h.w q hq
theorem WkR.out {W : World} {B : Nat} {ra : Option Addr} {rc : Nat} {qs : List (Option Addr × Nat × List PtM)} {i : Nat} (h : WkR W B ra rc qs i) (hi : i < qs.length) :
    ∃ go cs, ra = some ⟨go, 0, none⟩ ∧ Own W B 22 1 (some ⟨go, 0, none⟩) qs.length rc cs ∧ W.cell? ⟨go, 0 + i, none⟩ = some (recV qs[i]) := by
  obtain ⟨cs, o, hc⟩ := h.o
  have hr := o.row
  rcases o.2 with ⟨hv, _⟩ | ⟨b, cap, cur, hv, hB, hh, rest⟩
  · injection hv with h1 h2 h3; omega
  · injection hv with h1 h2 h3
    subst h1
    obtain ⟨b', off, e, _, hcell⟩ := hr.2.2.2.2 (by omega)
    cases e
    exact ⟨b, cs, rfl, o, hcell i _ (hc i (Nat.le_refl _) hi)⟩
theorem own_blkR {W : World} {B g n c : Nat} {cs : List Value} (h : Own W B 22 1 (some ⟨g, 0, none⟩) n c cs) : ∃ L, Blk W g 22 L ∧ n ≤ L.length ∧ B ≤ g := by
  obtain ⟨L, hb, hl, hB, _⟩ := own_splice h
  exact ⟨L, hb, by omega, hB⟩
theorem WkR.write {W W' : World} {B : Nat} {ra : Option Addr} {rc : Nat} {qs : List (Option Addr × Nat × List PtM)} {i : Nat} (h : WkR W B ra rc qs i) {g : Nat} {K K' : List Value} (hb : Blk W g 46 K) (hb' : Blk W' g 46 K') (hl : K'.length = K.length) (G : W.grownBy W' (some g)) : WkR W' B ra rc qs i := by
  obtain ⟨cs, o, hc⟩ := h.o
  exact ⟨⟨cs, own_turnsP o hb (by decide) (Turns.of_grown G rfl), hc⟩, fun q hq => wk_write (h.w q hq) hb hb' hl G⟩
theorem WkR.next {W W' : World} {B : Nat} {rc : Nat} {qs : List (Option Addr × Nat × List PtM)} {i go : Nat} {GL : List Value} (h : WkR W B (some ⟨go, 0, none⟩) rc qs i) (hgo : Blk W go 22 GL) (hw : W' = W.setCell ⟨go, 0 + i, none⟩ (.slice none 0 0)) (hi : i < qs.length) : WkR W' B (some ⟨go, 0, none⟩) rc qs (i + 1) := by
  obtain ⟨cs, o, hc⟩ := h.o
  have hl := o.1
  obtain ⟨L, hb, hl2, hB, hs⟩ := own_splice o
  have e : L = GL := blk_eqP hb hgo
  subst e
  have kr : Blk W' go 22 (L.set (0 + i) (.slice none 0 0)) := by rw [hw]; exact hb.set _ _
  have gr : W.grownBy W' (some go) := by rw [hw]; exact sg_set (sg_refl W (some go)) _ _
  have es : splice L (0 + i) [.slice none 0 0] = L.set (0 + i) (.slice none 0 0) := splice_one _ _ _ (by omega)
  refine ⟨⟨_, hs W' (0 + i) [.slice none 0 0] (by show 0 + i + 1 ≤ _; omega) (by rw [es]; exact kr), fun j hj hjl => ?_⟩, fun q hq => ?_⟩
  · rw [splice_one _ _ _ (by omega), List.getElem?_set_ne (by omega)]
    exact hc j (by omega) hjl
  · obtain ⟨cs2, o2⟩ := h.w q hq
    exact ⟨cs2, own_turnsP o2 hgo (by decide) (Turns.of_grown gr rfl)⟩
theorem WkR.nextr {W W' : World} {B : Nat} {ra : Option Addr} {rc : Nat} {qs : List (Option Addr × Nat × List PtM)} {i go : Nat} {GL : List Value} (h : WkR W B ra rc qs i) (hra : ra = some ⟨go, 0, none⟩) (hgo : Blk W go 22 GL) (hw : W' = W.setCell ⟨go, 0 + i, none⟩ (.slice none 0 0)) (hi : i < qs.length) : WkR W' B ra rc qs (i + 1) := by
  subst hra
  exact h.next hgo hw hi
theorem buildPt9 (w : World) : (Instr.build 46 #[(0, .int .i64 9), (1, .string ⟨#[113]⟩)]).run Tryd.prog w = .ok (ptV ⟨9, [113]⟩) w := buildPt 9 [113] w
theorem buildPt7 (w : World) : (Instr.build 46 #[(0, .int .i64 7)]).run Tryd.prog w = .ok (ptV ⟨7, []⟩) w := by
  have u3 := Tryd.underlying46
  have z3 := Tryd.sizeOf46
  unfold ptV ptC strB bsB
  go_simp
theorem eqPnP (x y : Operand) (q : Addr) (w : World) : (do eqGuard .eql 43 x y (.pointer (some q)) (.pointer none); binOp .eql 43 (.pointer (some q)) (.pointer none) : Sem Value).run Tryd.prog w = .ok (.bool false) w := by
  have u3 := Tryd.underlying43
  have a3 := Tryd.isAgg43
  have z3 := Tryd.sizeOf43
  go_simp
theorem storeRP {w : World} {g off : Nat} {u : Value} (h : w.cell? ⟨g, off, none⟩ = some u) (hz : w.frozen? ⟨g, off, none⟩ = false) (a : Option Addr) (n c : Nat) : (Instr.storeAt 22 (.pointer (some ⟨g, off, none⟩)) (.slice a n c)).run Tryd.prog w = .ok () (w.setCell ⟨g, off, none⟩ (.slice a n c)) := by
  have u3 := Tryd.underlying22
  have a3 := Tryd.isAgg22
  have z3 := Tryd.sizeOf22
  go_simp
theorem callP_13 (args : Array Value) (w : World) : (callFunc 13 args).run Tryd.prog w = .ok (.enter 13 args) w := by
  have h := Tryd.func13
  go_simp
theorem callP_20 (args : Array Value) (w : World) : (callFunc 20 args).run Tryd.prog w = .ok (.enter 20 args) w := by
  have h := Tryd.func20
  go_simp
theorem callP_21 (args : Array Value) (w : World) : (callFunc 21 args).run Tryd.prog w = .ok (.enter 21 args) w := by
  have h := Tryd.func21
  go_simp
theorem callP_22 (args : Array Value) (w : World) : (callFunc 22 args).run Tryd.prog w = .ok (.enter 22 args) w := by
  have h := Tryd.func22
  go_simp
theorem callP_28 (args : Array Value) (w : World) : (callFunc 28 args).run Tryd.prog w = .ok (.enter 28 args) w := by
  have h := Tryd.func28
  go_simp
theorem callP_30 (args : Array Value) (w : World) : (callFunc 30 args).run Tryd.prog w = .ok (.enter 30 args) w := by
  have h := Tryd.func30
  go_simp

set_option maxHeartbeats 16000000 in
theorem PlogOwns_walk (w : World) (a : Option Addr) (c : Nat) (rs : List (Option Addr × Nat × List PtM)) (hrs : RecsIn w a c rs) :
    Calls Tryd.prog 8 #[.slice a rs.length c] w fun e w' => e = .returned (.bool true) ∧ Below w.heap.size w w' := by
  have HRS := hid hrs
  clear hrs
  go_enter Tryd.func8, Tryd.ntmps8
  go_step
  go_step
  go_step
  refine wpk_enter (N := 103) (l := [(0, .slice a rs.length c)]) ⟨rfl, (by intro x hx; simp only [List.mem_cons, List.not_mem_nil, or_false] at hx; rcases hx with rfl <;> rfl), rfl⟩ fun a2 h1 => ?_
  refine wv h1 rfl rfl rfl rfl (.bool false) rfl fun a4 h3 => ?_
  go_step
  go_step
  go_step
  go_step
  go_step
  refine wpk_call h3 (wanted_none rfl) rfl (by decide) (fr rfl) (fun args => callP_20 args _) rfl #[] (by simp) (R := fun v' w' => ∃ K : PK, v' = .pointer (some ⟨K.pp, 0, none⟩) ∧ PairP w' w.heap.size K mem0 ∧ Below w.heap.size w w') ((beginPair_any w).mono fun e w' q => by obtain ⟨K, q1, q2, q3⟩ := q; exact ⟨_, q1, K, rfl, q2, q3⟩) fun a6 v0 w0 r0 h5 => ?_
  obtain ⟨K, rfl, hp0, hb0⟩ := r0; have HP0 := hid hp0; have HB0 := hid hb0; clear hp0 hb0
  refine wmv h5 rfl rfl rfl rfl (k := 12) (.pointer (some ⟨K.pp, 0, none⟩)) (by simp) (fun _ => rfl) fun a8 h7 => ?_
  have h9 := h7.subs (l' := [(3, .pointer (some ⟨K.pp, 0, none⟩)), (2, .bool false), (0, .slice a rs.length c)]) rfl
  clear h7
  go_step
  go_step
  go_step
  go_step
  go_step
  go_step
  refine wmv h9 rfl rfl rfl rfl (k := 3) (.pointer (some ⟨K.pp, 0, none⟩)) (by simp) (fun _ => rfl) fun a11 h10 => ?_
  refine wv h10 rfl rfl rfl rfl (.bool false) (by unfold execOp; simp only [h10.eval (k := 13) (v := .pointer (some ⟨K.pp, 0, none⟩)) (by simp)]; exact run_v (eqPnP _ _ _ _)) fun a13 h12 => ?_
  have h14 := h12.subs (l' := [(14, .bool false), (3, .pointer (some ⟨K.pp, 0, none⟩)), (2, .bool false), (0, .slice a rs.length c)]) rfl
  clear h12
  go_step
  go_step
  go_step
  refine wp_cond (t := false) (h14.eval (k := 14) (v := .bool false) (by simp)) ?_
  simp only [Bool.false_eq_true, if_false]
  have h15 := h14.subs (l' := [(3, .pointer (some ⟨K.pp, 0, none⟩)), (2, .bool false), (0, .slice a rs.length c)]) rfl
  clear h14
  go_step
  go_step
  go_step
  go_step
  go_step
  go_step
  refine wv h15 rfl rfl rfl rfl (.int .i64 0) rfl fun a17 h16 => ?_
  go_step
  go_step
  go_step
  go_step
  have h18 := h16.subs (l' := [(4, .int .i64 0), (3, .pointer (some ⟨K.pp, 0, none⟩)), (0, .slice a rs.length c)]) rfl
  clear h16
  refine wp_loop (I := fun a' w' => ∃ (i : Nat) (M : MemM), i ≤ rs.length ∧ i ≤ 4 ∧ M.V.length = 1024 ∧ Kn 103 [(4, .int .i64 (i : Int)), (3, .pointer (some ⟨K.pp, 0, none⟩)), (0, .slice a rs.length c)] a' ∧ PairP w' w.heap.size K M ∧ Below w.heap.size w w') (μ := fun a' _ => rs.length - (intOf (a'.eval (.tmp 4))).toNat) ⟨0, mem0, by omega, by omega, mem0_len, h18, HP0.out, HB0.out⟩ ?_
  clear HP0 HB0 h18
  rintro aL aw ⟨i, M, hi, hi4, hlenM, hK, hpa, hba⟩
  have HPa := hid hpa; have HBa := hid hba; clear hpa hba
  by_cases hltL : i < rs.length
  case neg =>
    have hd0 : decide ((i : Int) < (rs.length : Int)) = false := decide_eq_false (by omega)
    go_step
    go_step
    go_step
    go_step
    refine wmv hK rfl rfl rfl rfl (k := 4) (.int .i64 (i : Int)) (by simp) (fun _ => rfl) fun a20 h19 => ?_
    refine wmv h19 rfl rfl rfl rfl (k := 0) (.slice a rs.length c) (by simp) (fun _ => rfl) fun a22 h21 => ?_
    refine wv h21 rfl rfl rfl rfl (.int .i64 (rs.length : Int)) (run_lenRP rfl (h21.eval (k := 16) (v := .slice a rs.length c) (by simp)) _) fun a24 h23 => ?_
    refine wv h23 rfl rfl rfl rfl (.bool false) (by unfold execOp; simp only [h23.eval (k := 15) (v := .int .i64 (i : Int)) (by simp), h23.eval (k := 17) (v := .int .i64 (rs.length : Int)) (by simp)]; exact run_v (ltIP _ _ _ _ _ hd0)) fun a26 h25 => ?_
    refine wmv h25 rfl rfl rfl rfl (k := 18) (.bool false) (by simp) (fun _ => rfl) fun a28 h27 => ?_
    refine wpk_skip h27 (by rw [wanted_of (g := 4) (want := true) (b := false) rfl (h27.yields (prev := 19) rfl (by simp))]; rfl) rfl (by decide) (fr rfl) fun a30 h29 => ?_
    refine wpk_skip h29 (by rw [wanted_of (g := 4) (want := true) (b := false) rfl (h29.yields (prev := 19) rfl (by simp))]; rfl) rfl (by decide) (fr rfl) fun a32 h31 => ?_
    refine wv h31 rfl rfl rfl rfl (.bool false) (run_pick rfl (h31.eval (k := 19) (v := .bool false) (by simp)) rfl) fun a34 h33 => ?_
    have h35 := h33.subs (l' := [(22, .bool false), (4, .int .i64 (i : Int)), (3, .pointer (some ⟨K.pp, 0, none⟩)), (0, .slice a rs.length c)]) rfl
    clear h33
    go_step
    go_step
    go_step
    refine wp_cond (t := false) (h35.eval (k := 22) (v := .bool false) (by simp)) ?_
    simp only [Bool.false_eq_true, if_false]
    have h36 := h35.subs (l' := [(4, .int .i64 (i : Int)), (3, .pointer (some ⟨K.pp, 0, none⟩)), (0, .slice a rs.length c)]) rfl
    clear h35
    go_step
    go_step
    go_step
    go_step
    go_step
    go_step
    go_step
    refine wmv h36 rfl rfl rfl rfl (k := 3) (.pointer (some ⟨K.pp, 0, none⟩)) (by simp) (fun _ => rfl) fun a38 h37 => ?_
    refine wv h37 rfl rfl rfl rfl (.pointer (some ⟨K.pp, 0, none⟩)) (by unfold execOp; simp only [h37.eval (k := 67) (v := .pointer (some ⟨K.pp, 0, none⟩)) (by simp)]; exact rfl) fun a40 h39 => ?_
    refine wv h39 rfl rfl rfl rfl (.pointer (some ⟨K.pp, 1, none⟩)) (by unfold execOp; simp only [h39.eval (k := 68) (v := .pointer (some ⟨K.pp, 0, none⟩)) (by simp)]; exact run_v (fa_50_0_1 (K.pp) _)) fun a42 h41 => ?_
    refine wv h41 rfl rfl rfl rfl (.pointer (some ⟨K.lg, 0, none⟩)) (by unfold execOp; simp only [h41.eval (k := 69) (v := .pointer (some ⟨K.pp, 1, none⟩)) (by simp)]; exact run_v (loadLP (HPa.out.b.cell (i := 1) (by show 1 < 4; omega)))) fun a44 h43 => ?_
    refine wpk_call h43 (wanted_none rfl) rfl (by decide) (fr rfl) (fun args => callP_29 args _) rfl #[.pointer (some ⟨K.lg, 0, none⟩)] (by simp only [List.map_toArray, List.map_cons, List.map_nil, h43.eval (k := 70) (v := .pointer (some ⟨K.lg, 0, none⟩)) (by simp)]) (R := fun v' w' => ∃ ra rc qs, v' = .slice ra qs.length rc ∧ qs.map (·.2.2) = (logR M.V 512 512).1 ∧ RecsP w' aw.heap.size ra rc qs ∧ Below aw.heap.size aw w') ((records_any HPa.out.l (logOk_of hlenM)).mono fun e w' q => by obtain ⟨x, y, z, q1, q2⟩ := q; exact ⟨_, q1, x, y, z, rfl, q2⟩) fun a46 v8 w8 r8 h45 => ?_
    obtain ⟨ra, rc, qs, rfl, hqs, hrec, b8⟩ := r8; have HP8 := hid (HPa.out.mono b8); have HB8 := hid (kept_trans HBa.out b8); have hn8 : qs.length ≤ 1000 := by have z := congrArg List.length hqs; rw [List.length_map] at z; have z2 := logR_n M.V 512 512; omega
    have hql : ∀ q ∈ qs, q.2.2.length ≤ 64 := fun q hq => by have z : q.2.2 ∈ (logR M.V 512 512).1 := (by rw [← hqs]; exact List.mem_map.2 ⟨q, hq, rfl⟩); exact (logR_ok z).2.2
    have HREC := hid (hrec.low (B' := w.heap.size) HBa.out.size); clear hqs hrec b8
    refine wmv h45 rfl rfl rfl rfl (k := 71) (.slice ra qs.length rc) (by simp) (fun _ => rfl) fun a48 h47 => ?_
    have h49 := h47.subs (l' := [(8, .slice ra qs.length rc), (4, .int .i64 (i : Int)), (3, .pointer (some ⟨K.pp, 0, none⟩)), (0, .slice a rs.length c)]) rfl
    clear h47
    go_step
    go_step
    go_step
    go_step
    go_step
    go_step
    refine wv h49 rfl rfl rfl rfl (.int .i64 0) rfl fun a51 h50 => ?_
    go_step
    go_step
    go_step
    go_step
    have h52 := h50.subs (l' := [(9, .int .i64 0), (8, .slice ra qs.length rc), (3, .pointer (some ⟨K.pp, 0, none⟩)), (0, .slice a rs.length c)]) rfl
    clear h50
    refine wp_loop (I := fun a' w' => ∃ i : Nat, i ≤ qs.length ∧ Kn 103 [(9, .int .i64 (i : Int)), (8, .slice ra qs.length rc), (3, .pointer (some ⟨K.pp, 0, none⟩)), (0, .slice a rs.length c)] a' ∧ PairP w' w.heap.size K M ∧ Below w.heap.size w w' ∧ WkR w' w.heap.size ra rc qs i) (μ := fun a' _ => qs.length - (intOf (a'.eval (.tmp 9))).toNat) ⟨0, by omega, h52, HP8.out, HB8.out, WkR.start HREC.out⟩ ?_
    clear HP8 HB8 HREC h52
    rintro aL3 wm ⟨i, hi, hK3, hpm, hbm, hwm⟩
    have HPm := hid hpm; have HBm := hid hbm; have HWm := hid hwm; clear hpm hbm hwm
    by_cases hlt : i < qs.length
    case pos =>
      have hd0 : decide ((i : Int) < (qs.length : Int)) = true := decide_eq_true (by omega)
      obtain ⟨q, hq⟩ : ∃ q, q = qs[i] := ⟨_, rfl⟩
      have hqn : q.2.2.length ≤ 64 := hql q (by rw [hq]; exact List.getElem_mem hlt)
      go_step
      go_step
      go_step
      go_step
      refine wmv hK3 rfl rfl rfl rfl (k := 9) (.int .i64 (i : Int)) (by simp) (fun _ => rfl) fun a54 h53 => ?_
      refine wmv h53 rfl rfl rfl rfl (k := 8) (.slice ra qs.length rc) (by simp) (fun _ => rfl) fun a56 h55 => ?_
      refine wv h55 rfl rfl rfl rfl (.int .i64 (qs.length : Int)) (run_lenRP rfl (h55.eval (k := 73) (v := .slice ra qs.length rc) (by simp)) _) fun a58 h57 => ?_
      refine wv h57 rfl rfl rfl rfl (.bool true) (by unfold execOp; simp only [h57.eval (k := 72) (v := .int .i64 (i : Int)) (by simp), h57.eval (k := 74) (v := .int .i64 (qs.length : Int)) (by simp)]; exact run_v (ltIP _ _ _ _ _ hd0)) fun a60 h59 => ?_
      have h61 := h59.subs (l' := [(75, .bool true), (9, .int .i64 (i : Int)), (8, .slice ra qs.length rc), (3, .pointer (some ⟨K.pp, 0, none⟩)), (0, .slice a rs.length c)]) rfl
      clear h59
      go_step
      go_step
      go_step
      refine wp_cond (t := true) (h61.eval (k := 75) (v := .bool true) (by simp)) ?_
      simp only [if_true]
      have h62 := h61.subs (l' := [(9, .int .i64 (i : Int)), (8, .slice ra qs.length rc), (3, .pointer (some ⟨K.pp, 0, none⟩)), (0, .slice a rs.length c)]) rfl
      clear h61
      go_step
      go_step
      go_step
      go_step
      go_step
      go_step
      go_step
      go_step
      refine wv h62 rfl rfl rfl rfl (.int .i64 0) rfl fun a64 h63 => ?_
      go_step
      go_step
      go_step
      go_step
      refine wp_loop (I := fun a' w' => ∃ k : Nat, k ≤ q.2.2.length ∧ Kn 103 [(10, .int .i64 (k : Int)), (9, .int .i64 (i : Int)), (8, .slice ra qs.length rc), (3, .pointer (some ⟨K.pp, 0, none⟩)), (0, .slice a rs.length c)] a' ∧ PairP w' w.heap.size K M ∧ Below w.heap.size w w' ∧ WkR w' w.heap.size ra rc qs i) (μ := fun a' _ => q.2.2.length - (intOf (a'.eval (.tmp 10))).toNat) ⟨0, by omega, h63, HPm.out, HBm.out, HWm.out⟩ ?_
      clear HPm HBm HWm h63
      rintro aL4 wn ⟨k, hk, hK4, hpn, hbn, hwn⟩
      have HPn := hid hpn; have HBn := hid hbn; have HWn := hid hwn; clear hpn hbn hwn
      obtain ⟨go, cs, hra, hoc, hocq⟩ := WkR.out HWn.out hlt
      have hqc : wn.cell? ⟨go, 0 + i, none⟩ = some (recV q) := by rw [hq]; exact hocq
      by_cases hltk : k < q.2.2.length
      case pos =>
        have hd0 : decide ((k : Int) < (q.2.2.length : Int)) = true := decide_eq_true (by omega)
        obtain ⟨gq, KK, hoa, hgk, hgl, hgB⟩ := wk_blk (HWn.out.wk (List.getElem_mem hlt)) (by rw [← hq]; omega)
        rw [← hq] at hoa hgl
        go_step
        go_step
        go_step
        go_step
        refine wmv hK4 rfl rfl rfl rfl (k := 10) (.int .i64 (k : Int)) (by simp) (fun _ => rfl) fun a66 h65 => ?_
        refine wmv h65 rfl rfl rfl rfl (k := 8) (.slice ra qs.length rc) (by simp) (fun _ => rfl) fun a68 h67 => ?_
        refine wmv h67 rfl rfl rfl rfl (k := 9) (.int .i64 (i : Int)) (by simp) (fun _ => rfl) fun a70 h69 => ?_
        refine wv h69 rfl rfl rfl rfl (.pointer (some ⟨go, 0 + i, none⟩)) (by unfold execOp; simp only [h69.eval (k := 79) (v := .slice ra qs.length rc) (by simp), h69.eval (k := 80) (v := .int .i64 (i : Int)) (by simp)]; exact run_v (by rw [hra]; exact ixRP go 0 _ rc i hlt _)) fun a72 h71 => ?_
        refine wv h71 rfl rfl rfl rfl (.slice q.1 q.2.2.length q.2.1) (by unfold execOp; simp only [h71.eval (k := 81) (v := .pointer (some ⟨go, 0 + i, none⟩)) (by simp)]; exact run_v (loadRP hqc)) fun a74 h73 => ?_
        refine wv h73 rfl rfl rfl rfl (.int .i64 (q.2.2.length : Int)) (run_lenP rfl (h73.eval (k := 82) (v := .slice q.1 q.2.2.length q.2.1) (by simp)) _) fun a76 h75 => ?_
        refine wv h75 rfl rfl rfl rfl (.bool true) (by unfold execOp; simp only [h75.eval (k := 78) (v := .int .i64 (k : Int)) (by simp), h75.eval (k := 83) (v := .int .i64 (q.2.2.length : Int)) (by simp)]; exact run_v (ltIP _ _ _ _ _ hd0)) fun a78 h77 => ?_
        have h79 := h77.subs (l' := [(84, .bool true), (10, .int .i64 (k : Int)), (9, .int .i64 (i : Int)), (8, .slice ra qs.length rc), (3, .pointer (some ⟨K.pp, 0, none⟩)), (0, .slice a rs.length c)]) rfl
        clear h77
        go_step
        go_step
        go_step
        refine wp_cond (t := true) (h79.eval (k := 84) (v := .bool true) (by simp)) ?_
        simp only [if_true]
        have h80 := h79.subs (l' := [(10, .int .i64 (k : Int)), (9, .int .i64 (i : Int)), (8, .slice ra qs.length rc), (3, .pointer (some ⟨K.pp, 0, none⟩)), (0, .slice a rs.length c)]) rfl
        clear h79
        go_step
        go_step
        go_step
        go_step
        go_step
        go_step
        refine wmv h80 rfl rfl rfl rfl (k := 8) (.slice ra qs.length rc) (by simp) (fun _ => rfl) fun a82 h81 => ?_
        refine wmv h81 rfl rfl rfl rfl (k := 9) (.int .i64 (i : Int)) (by simp) (fun _ => rfl) fun a84 h83 => ?_
        refine wv h83 rfl rfl rfl rfl (.pointer (some ⟨go, 0 + i, none⟩)) (by unfold execOp; simp only [h83.eval (k := 87) (v := .slice ra qs.length rc) (by simp), h83.eval (k := 88) (v := .int .i64 (i : Int)) (by simp)]; exact run_v (by rw [hra]; exact ixRP go 0 _ rc i hlt _)) fun a86 h85 => ?_
        refine wv h85 rfl rfl rfl rfl (.slice q.1 q.2.2.length q.2.1) (by unfold execOp; simp only [h85.eval (k := 89) (v := .pointer (some ⟨go, 0 + i, none⟩)) (by simp)]; exact run_v (loadRP hqc)) fun a88 h87 => ?_
        refine wmv h87 rfl rfl rfl rfl (k := 10) (.int .i64 (k : Int)) (by simp) (fun _ => rfl) fun a90 h89 => ?_
        refine wv h89 rfl rfl rfl rfl (ptV ⟨7, []⟩) (by unfold execOp; simp only [List.map_toArray, List.map_cons, List.map_nil]; exact run_v (buildPt7 _)) fun a92 h91 => ?_
        refine wv h91 rfl rfl rfl rfl (.pointer (some ⟨gq, 0 + k * 2, none⟩)) (by unfold execOp; simp only [h91.eval (k := 90) (v := .slice q.1 q.2.2.length q.2.1) (by simp), h91.eval (k := 91) (v := .int .i64 (k : Int)) (by simp)]; exact run_v (by rw [hoa]; exact ixP gq 0 _ q.2.1 k hltk _)) fun a94 h93 => ?_
        refine wpk_storeP h93 rfl rfl rfl gq (0 + k * 2) (h93.eval (k := 93) (v := .pointer (some ⟨gq, 0 + k * 2, none⟩)) (by simp)) (ptC ⟨7, []⟩) (h93.eval (k := 92) (v := ptV ⟨7, []⟩) (by simp)) (by rw [infoPt]; rfl) (ptC_one _) hgk (by show 0 + k * 2 + 2 ≤ _; omega) fun a96 wq h95 kq gr => ?_
        have h97 := h95.subs (l' := [(10, .int .i64 (k : Int)), (9, .int .i64 (i : Int)), (8, .slice ra qs.length rc), (3, .pointer (some ⟨K.pp, 0, none⟩)), (0, .slice a rs.length c)]) rfl
        clear h95
        go_step
        go_step
        go_step
        go_step
        refine wmv h97 rfl rfl rfl rfl (k := 10) (.int .i64 (k : Int)) (by simp) (fun _ => rfl) fun a99 h98 => ?_
        refine wv h98 rfl rfl rfl rfl (.int .i64 ((k + 1 : Nat) : Int)) (by unfold execOp; simp only [h98.eval (k := 85) (v := .int .i64 (k : Int)) (by simp)]; exact run_v (addIP _ _ k (by omega) _)) fun a101 h100 => ?_
        have h102 := h100.subs (l' := [(86, .int .i64 ((k + 1 : Nat) : Int)), (85, .int .i64 (k : Int)), (9, .int .i64 (i : Int)), (8, .slice ra qs.length rc), (3, .pointer (some ⟨K.pp, 0, none⟩)), (0, .slice a rs.length c)]) rfl
        clear h100
        refine wmv h102 rfl rfl rfl rfl (k := 86) (.int .i64 ((k + 1 : Nat) : Int)) (by simp) (fun _ => rfl) fun a104 h103 => ?_
        have h105 := h103.subs (l' := [(10, .int .i64 ((k + 1 : Nat) : Int)), (9, .int .i64 (i : Int)), (8, .slice ra qs.length rc), (3, .pointer (some ⟨K.pp, 0, none⟩)), (0, .slice a rs.length c)]) rfl
        clear h103
        go_step
        go_step
        refine ⟨⟨k + 1, by omega, h105.subs rfl, HPn.out.patch hgk (Turns.of_grown gr rfl), below_grownS HBn.out gr hgB HBn.out.size, HWn.out.write hgk kq (by rw [length_splice _ _ _ (by show 0 + k * 2 + 2 ≤ _; omega)]) gr⟩, ?_⟩
        rw [h105.eval (k := 10) (v := .int .i64 ((k + 1 : Nat) : Int)) (by simp), hK4.eval (k := 10) (v := .int .i64 (k : Int)) (by simp)]; simp [intOf]; omega
      have hd0 : decide ((k : Int) < (q.2.2.length : Int)) = false := decide_eq_false (by omega)
      go_step
      go_step
      go_step
      go_step
      refine wmv hK4 rfl rfl rfl rfl (k := 10) (.int .i64 (k : Int)) (by simp) (fun _ => rfl) fun a107 h106 => ?_
      refine wmv h106 rfl rfl rfl rfl (k := 8) (.slice ra qs.length rc) (by simp) (fun _ => rfl) fun a109 h108 => ?_
      refine wmv h108 rfl rfl rfl rfl (k := 9) (.int .i64 (i : Int)) (by simp) (fun _ => rfl) fun a111 h110 => ?_
      refine wv h110 rfl rfl rfl rfl (.pointer (some ⟨go, 0 + i, none⟩)) (by unfold execOp; simp only [h110.eval (k := 79) (v := .slice ra qs.length rc) (by simp), h110.eval (k := 80) (v := .int .i64 (i : Int)) (by simp)]; exact run_v (by rw [hra]; exact ixRP go 0 _ rc i hlt _)) fun a113 h112 => ?_
      refine wv h112 rfl rfl rfl rfl (.slice q.1 q.2.2.length q.2.1) (by unfold execOp; simp only [h112.eval (k := 81) (v := .pointer (some ⟨go, 0 + i, none⟩)) (by simp)]; exact run_v (loadRP hqc)) fun a115 h114 => ?_
      refine wv h114 rfl rfl rfl rfl (.int .i64 (q.2.2.length : Int)) (run_lenP rfl (h114.eval (k := 82) (v := .slice q.1 q.2.2.length q.2.1) (by simp)) _) fun a117 h116 => ?_
      refine wv h116 rfl rfl rfl rfl (.bool false) (by unfold execOp; simp only [h116.eval (k := 78) (v := .int .i64 (k : Int)) (by simp), h116.eval (k := 83) (v := .int .i64 (q.2.2.length : Int)) (by simp)]; exact run_v (ltIP _ _ _ _ _ hd0)) fun a119 h118 => ?_
      have h120 := h118.subs (l' := [(84, .bool false), (10, .int .i64 (k : Int)), (9, .int .i64 (i : Int)), (8, .slice ra qs.length rc), (3, .pointer (some ⟨K.pp, 0, none⟩)), (0, .slice a rs.length c)]) rfl
      clear h118
      go_step
      go_step
      go_step
      refine wp_cond (t := false) (h120.eval (k := 84) (v := .bool false) (by simp)) ?_
      simp only [Bool.false_eq_true, if_false]
      have h121 := h120.subs (l' := [(10, .int .i64 (k : Int)), (9, .int .i64 (i : Int)), (8, .slice ra qs.length rc), (3, .pointer (some ⟨K.pp, 0, none⟩)), (0, .slice a rs.length c)]) rfl
      clear h120
      go_step
      go_step
      go_step
      go_step
      go_step
      obtain ⟨go, cs, hra, hoc, hocq⟩ := WkR.out HWn.out (by omega); obtain ⟨GL, hgo, hgol, hgoB⟩ := own_blkR hoc
      have hqc : wn.cell? ⟨go, 0 + i, none⟩ = some (recV q) := by rw [hq]; exact hocq
      go_step
      refine wmv h121 rfl rfl rfl rfl (k := 8) (.slice ra qs.length rc) (by simp) (fun _ => rfl) fun a123 h122 => ?_
      refine wmv h122 rfl rfl rfl rfl (k := 9) (.int .i64 (i : Int)) (by simp) (fun _ => rfl) fun a125 h124 => ?_
      refine wv h124 rfl rfl rfl rfl (.pointer (some ⟨go, 0 + i, none⟩)) (by unfold execOp; simp only [h124.eval (k := 94) (v := .slice ra qs.length rc) (by simp), h124.eval (k := 95) (v := .int .i64 (i : Int)) (by simp)]; exact run_v (by rw [hra]; exact ixRP go 0 _ rc i hlt _)) fun a127 h126 => ?_
      obtain ⟨wr, hwr⟩ : ∃ x, x = wn.setCell ⟨go, 0 + i, none⟩ (.slice none 0 0) := ⟨_, rfl⟩
      refine wpk_skipvP h126 (wanted_none rfl) rfl (w' := wr) (by rw [hwr]; unfold execOp; simp only [h126.eval (k := 96) (v := .pointer (some ⟨go, 0 + i, none⟩)) (by simp)]; exact run_uP (storeRP (u := recV q) (hqc) (hgo.frozen _) _ _ _)) fun a129 h128 => ?_
      have h130 := h128.subs (l' := [(10, .int .i64 (k : Int)), (9, .int .i64 (i : Int)), (8, .slice ra qs.length rc), (3, .pointer (some ⟨K.pp, 0, none⟩)), (0, .slice a rs.length c)]) rfl
      clear h128
      go_step
      go_step
      have kr : Blk wr go 22 (GL.set (0 + i) (.slice none 0 0)) := by rw [hwr]; exact hgo.set _ _
      have gr : wn.grownBy wr (some go) := by rw [hwr]; exact sg_set (sg_refl wn (some go)) _ _
      go_step
      go_step
      refine wmv h130 rfl rfl rfl rfl (k := 9) (.int .i64 (i : Int)) (by simp) (fun _ => rfl) fun a132 h131 => ?_
      refine wv h131 rfl rfl rfl rfl (.int .i64 ((i + 1 : Nat) : Int)) (by unfold execOp; simp only [h131.eval (k := 76) (v := .int .i64 (i : Int)) (by simp)]; exact run_v (addIP _ _ i (by omega) _)) fun a134 h133 => ?_
      have h135 := h133.subs (l' := [(77, .int .i64 ((i + 1 : Nat) : Int)), (76, .int .i64 (i : Int)), (10, .int .i64 (k : Int)), (8, .slice ra qs.length rc), (3, .pointer (some ⟨K.pp, 0, none⟩)), (0, .slice a rs.length c)]) rfl
      clear h133
      refine wmv h135 rfl rfl rfl rfl (k := 77) (.int .i64 ((i + 1 : Nat) : Int)) (by simp) (fun _ => rfl) fun a137 h136 => ?_
      have h138 := h136.subs (l' := [(9, .int .i64 ((i + 1 : Nat) : Int)), (10, .int .i64 (k : Int)), (8, .slice ra qs.length rc), (3, .pointer (some ⟨K.pp, 0, none⟩)), (0, .slice a rs.length c)]) rfl
      clear h136
      go_step
      go_step
      refine ⟨⟨i + 1, by omega, h138.subs rfl, HPn.out.recs hgo (Turns.of_grown gr rfl), below_grownS HBn.out gr hgoB HBn.out.size, WkR.nextr HWn.out hra hgo hwr hlt⟩, ?_⟩
      rw [h138.eval (k := 9) (v := .int .i64 ((i + 1 : Nat) : Int)) (by simp), hK3.eval (k := 9) (v := .int .i64 (i : Int)) (by simp)]; simp [intOf]; omega
    have hd0 : decide ((i : Int) < (qs.length : Int)) = false := decide_eq_false (by omega)
    go_step
    go_step
    go_step
    go_step
    refine wmv hK3 rfl rfl rfl rfl (k := 9) (.int .i64 (i : Int)) (by simp) (fun _ => rfl) fun a140 h139 => ?_
    refine wmv h139 rfl rfl rfl rfl (k := 8) (.slice ra qs.length rc) (by simp) (fun _ => rfl) fun a142 h141 => ?_
    refine wv h141 rfl rfl rfl rfl (.int .i64 (qs.length : Int)) (run_lenRP rfl (h141.eval (k := 73) (v := .slice ra qs.length rc) (by simp)) _) fun a144 h143 => ?_
    refine wv h143 rfl rfl rfl rfl (.bool false) (by unfold execOp; simp only [h143.eval (k := 72) (v := .int .i64 (i : Int)) (by simp), h143.eval (k := 74) (v := .int .i64 (qs.length : Int)) (by simp)]; exact run_v (ltIP _ _ _ _ _ hd0)) fun a146 h145 => ?_
    have h147 := h145.subs (l' := [(75, .bool false), (9, .int .i64 (i : Int)), (8, .slice ra qs.length rc), (3, .pointer (some ⟨K.pp, 0, none⟩)), (0, .slice a rs.length c)]) rfl
    clear h145
    go_step
    go_step
    go_step
    refine wp_cond (t := false) (h147.eval (k := 75) (v := .bool false) (by simp)) ?_
    simp only [Bool.false_eq_true, if_false]
    have h148 := h147.subs (l' := [(9, .int .i64 (i : Int)), (8, .slice ra qs.length rc), (3, .pointer (some ⟨K.pp, 0, none⟩)), (0, .slice a rs.length c)]) rfl
    clear h147
    go_step
    go_step
    go_step
    go_step
    go_step
    go_step
    go_step
    refine wmv h148 rfl rfl rfl rfl (k := 3) (.pointer (some ⟨K.pp, 0, none⟩)) (by simp) (fun _ => rfl) fun a150 h149 => ?_
    refine wpk_call h149 (wanted_none rfl) rfl (by decide) (fr rfl) (fun args => callP_30 args _) rfl #[.pointer (some ⟨K.pp, 0, none⟩)] (by simp only [List.map_toArray, List.map_cons, List.map_nil, h149.eval (k := 97) (v := .pointer (some ⟨K.pp, 0, none⟩)) (by simp)]) (R := fun v' w' => v' = .bool true ∧ Below wm.heap.size wm w') ((like_any HPm.out hlenM).mono fun e w' q => ⟨_, q.1, rfl, q.2⟩) fun a152 v9 w9 r9 h151 => ?_
    obtain ⟨rfl, b9⟩ := r9; have HB9 := hid (kept_trans HBm.out b9); clear b9
    refine wmv h151 rfl rfl rfl rfl (k := 98) (.bool true) (by simp) (fun _ => rfl) fun a154 h153 => ?_
    have h155 := h153.subs (l' := [(11, .bool true), (9, .int .i64 (i : Int)), (8, .slice ra qs.length rc), (3, .pointer (some ⟨K.pp, 0, none⟩)), (0, .slice a rs.length c)]) rfl
    clear h153
    go_step
    go_step
    go_step
    go_step
    go_step
    refine wmv h155 rfl rfl rfl rfl (k := 11) (.bool true) (by simp) (fun _ => rfl) fun a157 h156 => ?_
    refine wmv h156 rfl rfl rfl rfl (k := 99) (.bool true) (by simp) (fun _ => rfl) fun a159 h158 => ?_
    refine wpk_call h158 (by rw [wanted_of (g := 1) (want := true) (b := true) rfl (h158.yields (prev := 100) rfl (by simp))]; rfl) rfl (by decide) (fr rfl) (fun args => callP_13 args _) rfl #[] (by simp) (R := fun v' w' => v' = .bool true ∧ Below w9.heap.size w9 w') ((lives08_any _).mono fun e w' q => ⟨_, q.1, rfl, q.2⟩) fun a161 vx wx rx h160 => ?_
    obtain ⟨rfl, bx⟩ := rx; have HBx := hid (kept_trans HB9.out bx); clear bx
    refine wv h160 rfl rfl rfl rfl (.bool true) (run_pick rfl (h160.eval (k := 100) (v := .bool true) (by simp)) (by rw [if_pos rfl]; exact h160.eval (k := 101) (v := .bool true) (by simp))) fun a163 h162 => ?_
    refine wmv h162 rfl rfl rfl rfl (k := 102) (.bool true) (by simp) (fun _ => rfl) fun a165 h164 => ?_
    have h166 := h164.subs (l' := [(2, .bool true), (11, .bool true), (9, .int .i64 (i : Int)), (8, .slice ra qs.length rc), (3, .pointer (some ⟨K.pp, 0, none⟩)), (0, .slice a rs.length c)]) rfl
    clear h164
    go_step
    go_step
    go_step
    go_step
    exact bodyPost_ret (results_tmp1 rfl (h166.known (2, .bool true) (by simp))) h166.defs ⟨rfl, HBx.out⟩
  have hd0 : decide ((i : Int) < (rs.length : Int)) = true := decide_eq_true (by omega)
  by_cases hlt4 : i < 4
  case neg =>
    have hd1 : decide ((i : Int) < 4) = false := decide_eq_false (by omega)
    go_step
    go_step
    go_step
    go_step
    refine wmv hK rfl rfl rfl rfl (k := 4) (.int .i64 (i : Int)) (by simp) (fun _ => rfl) fun a168 h167 => ?_
    refine wmv h167 rfl rfl rfl rfl (k := 0) (.slice a rs.length c) (by simp) (fun _ => rfl) fun a170 h169 => ?_
    refine wv h169 rfl rfl rfl rfl (.int .i64 (rs.length : Int)) (run_lenRP rfl (h169.eval (k := 16) (v := .slice a rs.length c) (by simp)) _) fun a172 h171 => ?_
    refine wv h171 rfl rfl rfl rfl (.bool true) (by unfold execOp; simp only [h171.eval (k := 15) (v := .int .i64 (i : Int)) (by simp), h171.eval (k := 17) (v := .int .i64 (rs.length : Int)) (by simp)]; exact run_v (ltIP _ _ _ _ _ hd0)) fun a174 h173 => ?_
    refine wmv h173 rfl rfl rfl rfl (k := 18) (.bool true) (by simp) (fun _ => rfl) fun a176 h175 => ?_
    refine wpk_val h175 (by rw [wanted_of (g := 4) (want := true) (b := true) rfl (h175.yields (prev := 19) rfl (by simp))]; rfl) rfl (by decide) (fr rfl) (.int .i64 (i : Int)) (by unfold execOp; simp only [h175.eval (k := 4) (v := .int .i64 (i : Int)) (by simp)]; rfl) fun a178 h177 => ?_
    refine wpk_val h177 (by rw [wanted_of (g := 4) (want := true) (b := true) rfl (h177.yields (prev := 19) rfl (by simp))]; rfl) rfl (by decide) (fr rfl) (.bool false) (by unfold execOp; simp only [h177.eval (k := 20) (v := .int .i64 (i : Int)) (by simp)]; exact run_v (ltIP _ _ _ _ _ hd1)) fun a180 h179 => ?_
    refine wv h179 rfl rfl rfl rfl (.bool false) (run_pick rfl (h179.eval (k := 19) (v := .bool true) (by simp)) (by rw [if_pos rfl]; exact h179.eval (k := 21) (v := .bool false) (by simp))) fun a182 h181 => ?_
    have h183 := h181.subs (l' := [(22, .bool false), (4, .int .i64 (i : Int)), (3, .pointer (some ⟨K.pp, 0, none⟩)), (0, .slice a rs.length c)]) rfl
    clear h181
    go_step
    go_step
    go_step
    refine wp_cond (t := false) (h183.eval (k := 22) (v := .bool false) (by simp)) ?_
    simp only [Bool.false_eq_true, if_false]
    have h184 := h183.subs (l' := [(4, .int .i64 (i : Int)), (3, .pointer (some ⟨K.pp, 0, none⟩)), (0, .slice a rs.length c)]) rfl
    clear h183
    go_step
    go_step
    go_step
    go_step
    go_step
    go_step
    go_step
    refine wmv h184 rfl rfl rfl rfl (k := 3) (.pointer (some ⟨K.pp, 0, none⟩)) (by simp) (fun _ => rfl) fun a186 h185 => ?_
    refine wv h185 rfl rfl rfl rfl (.pointer (some ⟨K.pp, 0, none⟩)) (by unfold execOp; simp only [h185.eval (k := 67) (v := .pointer (some ⟨K.pp, 0, none⟩)) (by simp)]; exact rfl) fun a188 h187 => ?_
    refine wv h187 rfl rfl rfl rfl (.pointer (some ⟨K.pp, 1, none⟩)) (by unfold execOp; simp only [h187.eval (k := 68) (v := .pointer (some ⟨K.pp, 0, none⟩)) (by simp)]; exact run_v (fa_50_0_1 (K.pp) _)) fun a190 h189 => ?_
    refine wv h189 rfl rfl rfl rfl (.pointer (some ⟨K.lg, 0, none⟩)) (by unfold execOp; simp only [h189.eval (k := 69) (v := .pointer (some ⟨K.pp, 1, none⟩)) (by simp)]; exact run_v (loadLP (HPa.out.b.cell (i := 1) (by show 1 < 4; omega)))) fun a192 h191 => ?_
    refine wpk_call h191 (wanted_none rfl) rfl (by decide) (fr rfl) (fun args => callP_29 args _) rfl #[.pointer (some ⟨K.lg, 0, none⟩)] (by simp only [List.map_toArray, List.map_cons, List.map_nil, h191.eval (k := 70) (v := .pointer (some ⟨K.lg, 0, none⟩)) (by simp)]) (R := fun v' w' => ∃ ra rc qs, v' = .slice ra qs.length rc ∧ qs.map (·.2.2) = (logR M.V 512 512).1 ∧ RecsP w' aw.heap.size ra rc qs ∧ Below aw.heap.size aw w') ((records_any HPa.out.l (logOk_of hlenM)).mono fun e w' q => by obtain ⟨x, y, z, q1, q2⟩ := q; exact ⟨_, q1, x, y, z, rfl, q2⟩) fun a194 v8 w8 r8 h193 => ?_
    obtain ⟨ra, rc, qs, rfl, hqs, hrec, b8⟩ := r8; have HP8 := hid (HPa.out.mono b8); have HB8 := hid (kept_trans HBa.out b8); have hn8 : qs.length ≤ 1000 := by have z := congrArg List.length hqs; rw [List.length_map] at z; have z2 := logR_n M.V 512 512; omega
    have hql : ∀ q ∈ qs, q.2.2.length ≤ 64 := fun q hq => by have z : q.2.2 ∈ (logR M.V 512 512).1 := (by rw [← hqs]; exact List.mem_map.2 ⟨q, hq, rfl⟩); exact (logR_ok z).2.2
    have HREC := hid (hrec.low (B' := w.heap.size) HBa.out.size); clear hqs hrec b8
    refine wmv h193 rfl rfl rfl rfl (k := 71) (.slice ra qs.length rc) (by simp) (fun _ => rfl) fun a196 h195 => ?_
    have h197 := h195.subs (l' := [(8, .slice ra qs.length rc), (4, .int .i64 (i : Int)), (3, .pointer (some ⟨K.pp, 0, none⟩)), (0, .slice a rs.length c)]) rfl
    clear h195
    go_step
    go_step
    go_step
    go_step
    go_step
    go_step
    refine wv h197 rfl rfl rfl rfl (.int .i64 0) rfl fun a199 h198 => ?_
    go_step
    go_step
    go_step
    go_step
    have h200 := h198.subs (l' := [(9, .int .i64 0), (8, .slice ra qs.length rc), (3, .pointer (some ⟨K.pp, 0, none⟩)), (0, .slice a rs.length c)]) rfl
    clear h198
    refine wp_loop (I := fun a' w' => ∃ i : Nat, i ≤ qs.length ∧ Kn 103 [(9, .int .i64 (i : Int)), (8, .slice ra qs.length rc), (3, .pointer (some ⟨K.pp, 0, none⟩)), (0, .slice a rs.length c)] a' ∧ PairP w' w.heap.size K M ∧ Below w.heap.size w w' ∧ WkR w' w.heap.size ra rc qs i) (μ := fun a' _ => qs.length - (intOf (a'.eval (.tmp 9))).toNat) ⟨0, by omega, h200, HP8.out, HB8.out, WkR.start HREC.out⟩ ?_
    clear HP8 HB8 HREC h200
    rintro aL3 wm ⟨i, hi, hK3, hpm, hbm, hwm⟩
    have HPm := hid hpm; have HBm := hid hbm; have HWm := hid hwm; clear hpm hbm hwm
    by_cases hlt : i < qs.length
    case pos =>
      have hd0 : decide ((i : Int) < (qs.length : Int)) = true := decide_eq_true (by omega)
      obtain ⟨q, hq⟩ : ∃ q, q = qs[i] := ⟨_, rfl⟩
      have hqn : q.2.2.length ≤ 64 := hql q (by rw [hq]; exact List.getElem_mem hlt)
      go_step
      go_step
      go_step
      go_step
      refine wmv hK3 rfl rfl rfl rfl (k := 9) (.int .i64 (i : Int)) (by simp) (fun _ => rfl) fun a202 h201 => ?_
      refine wmv h201 rfl rfl rfl rfl (k := 8) (.slice ra qs.length rc) (by simp) (fun _ => rfl) fun a204 h203 => ?_
      refine wv h203 rfl rfl rfl rfl (.int .i64 (qs.length : Int)) (run_lenRP rfl (h203.eval (k := 73) (v := .slice ra qs.length rc) (by simp)) _) fun a206 h205 => ?_
      refine wv h205 rfl rfl rfl rfl (.bool true) (by unfold execOp; simp only [h205.eval (k := 72) (v := .int .i64 (i : Int)) (by simp), h205.eval (k := 74) (v := .int .i64 (qs.length : Int)) (by simp)]; exact run_v (ltIP _ _ _ _ _ hd0)) fun a208 h207 => ?_
      have h209 := h207.subs (l' := [(75, .bool true), (9, .int .i64 (i : Int)), (8, .slice ra qs.length rc), (3, .pointer (some ⟨K.pp, 0, none⟩)), (0, .slice a rs.length c)]) rfl
      clear h207
      go_step
      go_step
      go_step
      refine wp_cond (t := true) (h209.eval (k := 75) (v := .bool true) (by simp)) ?_
      simp only [if_true]
      have h210 := h209.subs (l' := [(9, .int .i64 (i : Int)), (8, .slice ra qs.length rc), (3, .pointer (some ⟨K.pp, 0, none⟩)), (0, .slice a rs.length c)]) rfl
      clear h209
      go_step
      go_step
      go_step
      go_step
      go_step
      go_step
      go_step
      go_step
      refine wv h210 rfl rfl rfl rfl (.int .i64 0) rfl fun a212 h211 => ?_
      go_step
      go_step
      go_step
      go_step
      refine wp_loop (I := fun a' w' => ∃ k : Nat, k ≤ q.2.2.length ∧ Kn 103 [(10, .int .i64 (k : Int)), (9, .int .i64 (i : Int)), (8, .slice ra qs.length rc), (3, .pointer (some ⟨K.pp, 0, none⟩)), (0, .slice a rs.length c)] a' ∧ PairP w' w.heap.size K M ∧ Below w.heap.size w w' ∧ WkR w' w.heap.size ra rc qs i) (μ := fun a' _ => q.2.2.length - (intOf (a'.eval (.tmp 10))).toNat) ⟨0, by omega, h211, HPm.out, HBm.out, HWm.out⟩ ?_
      clear HPm HBm HWm h211
      rintro aL4 wn ⟨k, hk, hK4, hpn, hbn, hwn⟩
      have HPn := hid hpn; have HBn := hid hbn; have HWn := hid hwn; clear hpn hbn hwn
      obtain ⟨go, cs, hra, hoc, hocq⟩ := WkR.out HWn.out hlt
      have hqc : wn.cell? ⟨go, 0 + i, none⟩ = some (recV q) := by rw [hq]; exact hocq
      by_cases hltk : k < q.2.2.length
      case pos =>
        have hd0 : decide ((k : Int) < (q.2.2.length : Int)) = true := decide_eq_true (by omega)
        obtain ⟨gq, KK, hoa, hgk, hgl, hgB⟩ := wk_blk (HWn.out.wk (List.getElem_mem hlt)) (by rw [← hq]; omega)
        rw [← hq] at hoa hgl
        go_step
        go_step
        go_step
        go_step
        refine wmv hK4 rfl rfl rfl rfl (k := 10) (.int .i64 (k : Int)) (by simp) (fun _ => rfl) fun a214 h213 => ?_
        refine wmv h213 rfl rfl rfl rfl (k := 8) (.slice ra qs.length rc) (by simp) (fun _ => rfl) fun a216 h215 => ?_
        refine wmv h215 rfl rfl rfl rfl (k := 9) (.int .i64 (i : Int)) (by simp) (fun _ => rfl) fun a218 h217 => ?_
        refine wv h217 rfl rfl rfl rfl (.pointer (some ⟨go, 0 + i, none⟩)) (by unfold execOp; simp only [h217.eval (k := 79) (v := .slice ra qs.length rc) (by simp), h217.eval (k := 80) (v := .int .i64 (i : Int)) (by simp)]; exact run_v (by rw [hra]; exact ixRP go 0 _ rc i hlt _)) fun a220 h219 => ?_
        refine wv h219 rfl rfl rfl rfl (.slice q.1 q.2.2.length q.2.1) (by unfold execOp; simp only [h219.eval (k := 81) (v := .pointer (some ⟨go, 0 + i, none⟩)) (by simp)]; exact run_v (loadRP hqc)) fun a222 h221 => ?_
        refine wv h221 rfl rfl rfl rfl (.int .i64 (q.2.2.length : Int)) (run_lenP rfl (h221.eval (k := 82) (v := .slice q.1 q.2.2.length q.2.1) (by simp)) _) fun a224 h223 => ?_
        refine wv h223 rfl rfl rfl rfl (.bool true) (by unfold execOp; simp only [h223.eval (k := 78) (v := .int .i64 (k : Int)) (by simp), h223.eval (k := 83) (v := .int .i64 (q.2.2.length : Int)) (by simp)]; exact run_v (ltIP _ _ _ _ _ hd0)) fun a226 h225 => ?_
        have h227 := h225.subs (l' := [(84, .bool true), (10, .int .i64 (k : Int)), (9, .int .i64 (i : Int)), (8, .slice ra qs.length rc), (3, .pointer (some ⟨K.pp, 0, none⟩)), (0, .slice a rs.length c)]) rfl
        clear h225
        go_step
        go_step
        go_step
        refine wp_cond (t := true) (h227.eval (k := 84) (v := .bool true) (by simp)) ?_
        simp only [if_true]
        have h228 := h227.subs (l' := [(10, .int .i64 (k : Int)), (9, .int .i64 (i : Int)), (8, .slice ra qs.length rc), (3, .pointer (some ⟨K.pp, 0, none⟩)), (0, .slice a rs.length c)]) rfl
        clear h227
        go_step
        go_step
        go_step
        go_step
        go_step
        go_step
        refine wmv h228 rfl rfl rfl rfl (k := 8) (.slice ra qs.length rc) (by simp) (fun _ => rfl) fun a230 h229 => ?_
        refine wmv h229 rfl rfl rfl rfl (k := 9) (.int .i64 (i : Int)) (by simp) (fun _ => rfl) fun a232 h231 => ?_
        refine wv h231 rfl rfl rfl rfl (.pointer (some ⟨go, 0 + i, none⟩)) (by unfold execOp; simp only [h231.eval (k := 87) (v := .slice ra qs.length rc) (by simp), h231.eval (k := 88) (v := .int .i64 (i : Int)) (by simp)]; exact run_v (by rw [hra]; exact ixRP go 0 _ rc i hlt _)) fun a234 h233 => ?_
        refine wv h233 rfl rfl rfl rfl (.slice q.1 q.2.2.length q.2.1) (by unfold execOp; simp only [h233.eval (k := 89) (v := .pointer (some ⟨go, 0 + i, none⟩)) (by simp)]; exact run_v (loadRP hqc)) fun a236 h235 => ?_
        refine wmv h235 rfl rfl rfl rfl (k := 10) (.int .i64 (k : Int)) (by simp) (fun _ => rfl) fun a238 h237 => ?_
        refine wv h237 rfl rfl rfl rfl (ptV ⟨7, []⟩) (by unfold execOp; simp only [List.map_toArray, List.map_cons, List.map_nil]; exact run_v (buildPt7 _)) fun a240 h239 => ?_
        refine wv h239 rfl rfl rfl rfl (.pointer (some ⟨gq, 0 + k * 2, none⟩)) (by unfold execOp; simp only [h239.eval (k := 90) (v := .slice q.1 q.2.2.length q.2.1) (by simp), h239.eval (k := 91) (v := .int .i64 (k : Int)) (by simp)]; exact run_v (by rw [hoa]; exact ixP gq 0 _ q.2.1 k hltk _)) fun a242 h241 => ?_
        refine wpk_storeP h241 rfl rfl rfl gq (0 + k * 2) (h241.eval (k := 93) (v := .pointer (some ⟨gq, 0 + k * 2, none⟩)) (by simp)) (ptC ⟨7, []⟩) (h241.eval (k := 92) (v := ptV ⟨7, []⟩) (by simp)) (by rw [infoPt]; rfl) (ptC_one _) hgk (by show 0 + k * 2 + 2 ≤ _; omega) fun a244 wq h243 kq gr => ?_
        have h245 := h243.subs (l' := [(10, .int .i64 (k : Int)), (9, .int .i64 (i : Int)), (8, .slice ra qs.length rc), (3, .pointer (some ⟨K.pp, 0, none⟩)), (0, .slice a rs.length c)]) rfl
        clear h243
        go_step
        go_step
        go_step
        go_step
        refine wmv h245 rfl rfl rfl rfl (k := 10) (.int .i64 (k : Int)) (by simp) (fun _ => rfl) fun a247 h246 => ?_
        refine wv h246 rfl rfl rfl rfl (.int .i64 ((k + 1 : Nat) : Int)) (by unfold execOp; simp only [h246.eval (k := 85) (v := .int .i64 (k : Int)) (by simp)]; exact run_v (addIP _ _ k (by omega) _)) fun a249 h248 => ?_
        have h250 := h248.subs (l' := [(86, .int .i64 ((k + 1 : Nat) : Int)), (85, .int .i64 (k : Int)), (9, .int .i64 (i : Int)), (8, .slice ra qs.length rc), (3, .pointer (some ⟨K.pp, 0, none⟩)), (0, .slice a rs.length c)]) rfl
        clear h248
        refine wmv h250 rfl rfl rfl rfl (k := 86) (.int .i64 ((k + 1 : Nat) : Int)) (by simp) (fun _ => rfl) fun a252 h251 => ?_
        have h253 := h251.subs (l' := [(10, .int .i64 ((k + 1 : Nat) : Int)), (9, .int .i64 (i : Int)), (8, .slice ra qs.length rc), (3, .pointer (some ⟨K.pp, 0, none⟩)), (0, .slice a rs.length c)]) rfl
        clear h251
        go_step
        go_step
        refine ⟨⟨k + 1, by omega, h253.subs rfl, HPn.out.patch hgk (Turns.of_grown gr rfl), below_grownS HBn.out gr hgB HBn.out.size, HWn.out.write hgk kq (by rw [length_splice _ _ _ (by show 0 + k * 2 + 2 ≤ _; omega)]) gr⟩, ?_⟩
        rw [h253.eval (k := 10) (v := .int .i64 ((k + 1 : Nat) : Int)) (by simp), hK4.eval (k := 10) (v := .int .i64 (k : Int)) (by simp)]; simp [intOf]; omega
      have hd0 : decide ((k : Int) < (q.2.2.length : Int)) = false := decide_eq_false (by omega)
      go_step
      go_step
      go_step
      go_step
      refine wmv hK4 rfl rfl rfl rfl (k := 10) (.int .i64 (k : Int)) (by simp) (fun _ => rfl) fun a255 h254 => ?_
      refine wmv h254 rfl rfl rfl rfl (k := 8) (.slice ra qs.length rc) (by simp) (fun _ => rfl) fun a257 h256 => ?_
      refine wmv h256 rfl rfl rfl rfl (k := 9) (.int .i64 (i : Int)) (by simp) (fun _ => rfl) fun a259 h258 => ?_
      refine wv h258 rfl rfl rfl rfl (.pointer (some ⟨go, 0 + i, none⟩)) (by unfold execOp; simp only [h258.eval (k := 79) (v := .slice ra qs.length rc) (by simp), h258.eval (k := 80) (v := .int .i64 (i : Int)) (by simp)]; exact run_v (by rw [hra]; exact ixRP go 0 _ rc i hlt _)) fun a261 h260 => ?_
      refine wv h260 rfl rfl rfl rfl (.slice q.1 q.2.2.length q.2.1) (by unfold execOp; simp only [h260.eval (k := 81) (v := .pointer (some ⟨go, 0 + i, none⟩)) (by simp)]; exact run_v (loadRP hqc)) fun a263 h262 => ?_
      refine wv h262 rfl rfl rfl rfl (.int .i64 (q.2.2.length : Int)) (run_lenP rfl (h262.eval (k := 82) (v := .slice q.1 q.2.2.length q.2.1) (by simp)) _) fun a265 h264 => ?_
      refine wv h264 rfl rfl rfl rfl (.bool false) (by unfold execOp; simp only [h264.eval (k := 78) (v := .int .i64 (k : Int)) (by simp), h264.eval (k := 83) (v := .int .i64 (q.2.2.length : Int)) (by simp)]; exact run_v (ltIP _ _ _ _ _ hd0)) fun a267 h266 => ?_
      have h268 := h266.subs (l' := [(84, .bool false), (10, .int .i64 (k : Int)), (9, .int .i64 (i : Int)), (8, .slice ra qs.length rc), (3, .pointer (some ⟨K.pp, 0, none⟩)), (0, .slice a rs.length c)]) rfl
      clear h266
      go_step
      go_step
      go_step
      refine wp_cond (t := false) (h268.eval (k := 84) (v := .bool false) (by simp)) ?_
      simp only [Bool.false_eq_true, if_false]
      have h269 := h268.subs (l' := [(10, .int .i64 (k : Int)), (9, .int .i64 (i : Int)), (8, .slice ra qs.length rc), (3, .pointer (some ⟨K.pp, 0, none⟩)), (0, .slice a rs.length c)]) rfl
      clear h268
      go_step
      go_step
      go_step
      go_step
      go_step
      obtain ⟨go, cs, hra, hoc, hocq⟩ := WkR.out HWn.out (by omega); obtain ⟨GL, hgo, hgol, hgoB⟩ := own_blkR hoc
      have hqc : wn.cell? ⟨go, 0 + i, none⟩ = some (recV q) := by rw [hq]; exact hocq
      go_step
      refine wmv h269 rfl rfl rfl rfl (k := 8) (.slice ra qs.length rc) (by simp) (fun _ => rfl) fun a271 h270 => ?_
      refine wmv h270 rfl rfl rfl rfl (k := 9) (.int .i64 (i : Int)) (by simp) (fun _ => rfl) fun a273 h272 => ?_
      refine wv h272 rfl rfl rfl rfl (.pointer (some ⟨go, 0 + i, none⟩)) (by unfold execOp; simp only [h272.eval (k := 94) (v := .slice ra qs.length rc) (by simp), h272.eval (k := 95) (v := .int .i64 (i : Int)) (by simp)]; exact run_v (by rw [hra]; exact ixRP go 0 _ rc i hlt _)) fun a275 h274 => ?_
      obtain ⟨wr, hwr⟩ : ∃ x, x = wn.setCell ⟨go, 0 + i, none⟩ (.slice none 0 0) := ⟨_, rfl⟩
      refine wpk_skipvP h274 (wanted_none rfl) rfl (w' := wr) (by rw [hwr]; unfold execOp; simp only [h274.eval (k := 96) (v := .pointer (some ⟨go, 0 + i, none⟩)) (by simp)]; exact run_uP (storeRP (u := recV q) (hqc) (hgo.frozen _) _ _ _)) fun a277 h276 => ?_
      have h278 := h276.subs (l' := [(10, .int .i64 (k : Int)), (9, .int .i64 (i : Int)), (8, .slice ra qs.length rc), (3, .pointer (some ⟨K.pp, 0, none⟩)), (0, .slice a rs.length c)]) rfl
      clear h276
      go_step
      go_step
      have kr : Blk wr go 22 (GL.set (0 + i) (.slice none 0 0)) := by rw [hwr]; exact hgo.set _ _
      have gr : wn.grownBy wr (some go) := by rw [hwr]; exact sg_set (sg_refl wn (some go)) _ _
      go_step
      go_step
      refine wmv h278 rfl rfl rfl rfl (k := 9) (.int .i64 (i : Int)) (by simp) (fun _ => rfl) fun a280 h279 => ?_
      refine wv h279 rfl rfl rfl rfl (.int .i64 ((i + 1 : Nat) : Int)) (by unfold execOp; simp only [h279.eval (k := 76) (v := .int .i64 (i : Int)) (by simp)]; exact run_v (addIP _ _ i (by omega) _)) fun a282 h281 => ?_
      have h283 := h281.subs (l' := [(77, .int .i64 ((i + 1 : Nat) : Int)), (76, .int .i64 (i : Int)), (10, .int .i64 (k : Int)), (8, .slice ra qs.length rc), (3, .pointer (some ⟨K.pp, 0, none⟩)), (0, .slice a rs.length c)]) rfl
      clear h281
      refine wmv h283 rfl rfl rfl rfl (k := 77) (.int .i64 ((i + 1 : Nat) : Int)) (by simp) (fun _ => rfl) fun a285 h284 => ?_
      have h286 := h284.subs (l' := [(9, .int .i64 ((i + 1 : Nat) : Int)), (10, .int .i64 (k : Int)), (8, .slice ra qs.length rc), (3, .pointer (some ⟨K.pp, 0, none⟩)), (0, .slice a rs.length c)]) rfl
      clear h284
      go_step
      go_step
      refine ⟨⟨i + 1, by omega, h286.subs rfl, HPn.out.recs hgo (Turns.of_grown gr rfl), below_grownS HBn.out gr hgoB HBn.out.size, WkR.nextr HWn.out hra hgo hwr hlt⟩, ?_⟩
      rw [h286.eval (k := 9) (v := .int .i64 ((i + 1 : Nat) : Int)) (by simp), hK3.eval (k := 9) (v := .int .i64 (i : Int)) (by simp)]; simp [intOf]; omega
    have hd0 : decide ((i : Int) < (qs.length : Int)) = false := decide_eq_false (by omega)
    go_step
    go_step
    go_step
    go_step
    refine wmv hK3 rfl rfl rfl rfl (k := 9) (.int .i64 (i : Int)) (by simp) (fun _ => rfl) fun a288 h287 => ?_
    refine wmv h287 rfl rfl rfl rfl (k := 8) (.slice ra qs.length rc) (by simp) (fun _ => rfl) fun a290 h289 => ?_
    refine wv h289 rfl rfl rfl rfl (.int .i64 (qs.length : Int)) (run_lenRP rfl (h289.eval (k := 73) (v := .slice ra qs.length rc) (by simp)) _) fun a292 h291 => ?_
    refine wv h291 rfl rfl rfl rfl (.bool false) (by unfold execOp; simp only [h291.eval (k := 72) (v := .int .i64 (i : Int)) (by simp), h291.eval (k := 74) (v := .int .i64 (qs.length : Int)) (by simp)]; exact run_v (ltIP _ _ _ _ _ hd0)) fun a294 h293 => ?_
    have h295 := h293.subs (l' := [(75, .bool false), (9, .int .i64 (i : Int)), (8, .slice ra qs.length rc), (3, .pointer (some ⟨K.pp, 0, none⟩)), (0, .slice a rs.length c)]) rfl
    clear h293
    go_step
    go_step
    go_step
    refine wp_cond (t := false) (h295.eval (k := 75) (v := .bool false) (by simp)) ?_
    simp only [Bool.false_eq_true, if_false]
    have h296 := h295.subs (l' := [(9, .int .i64 (i : Int)), (8, .slice ra qs.length rc), (3, .pointer (some ⟨K.pp, 0, none⟩)), (0, .slice a rs.length c)]) rfl
    clear h295
    go_step
    go_step
    go_step
    go_step
    go_step
    go_step
    go_step
    refine wmv h296 rfl rfl rfl rfl (k := 3) (.pointer (some ⟨K.pp, 0, none⟩)) (by simp) (fun _ => rfl) fun a298 h297 => ?_
    refine wpk_call h297 (wanted_none rfl) rfl (by decide) (fr rfl) (fun args => callP_30 args _) rfl #[.pointer (some ⟨K.pp, 0, none⟩)] (by simp only [List.map_toArray, List.map_cons, List.map_nil, h297.eval (k := 97) (v := .pointer (some ⟨K.pp, 0, none⟩)) (by simp)]) (R := fun v' w' => v' = .bool true ∧ Below wm.heap.size wm w') ((like_any HPm.out hlenM).mono fun e w' q => ⟨_, q.1, rfl, q.2⟩) fun a300 v9 w9 r9 h299 => ?_
    obtain ⟨rfl, b9⟩ := r9; have HB9 := hid (kept_trans HBm.out b9); clear b9
    refine wmv h299 rfl rfl rfl rfl (k := 98) (.bool true) (by simp) (fun _ => rfl) fun a302 h301 => ?_
    have h303 := h301.subs (l' := [(11, .bool true), (9, .int .i64 (i : Int)), (8, .slice ra qs.length rc), (3, .pointer (some ⟨K.pp, 0, none⟩)), (0, .slice a rs.length c)]) rfl
    clear h301
    go_step
    go_step
    go_step
    go_step
    go_step
    refine wmv h303 rfl rfl rfl rfl (k := 11) (.bool true) (by simp) (fun _ => rfl) fun a305 h304 => ?_
    refine wmv h304 rfl rfl rfl rfl (k := 99) (.bool true) (by simp) (fun _ => rfl) fun a307 h306 => ?_
    refine wpk_call h306 (by rw [wanted_of (g := 1) (want := true) (b := true) rfl (h306.yields (prev := 100) rfl (by simp))]; rfl) rfl (by decide) (fr rfl) (fun args => callP_13 args _) rfl #[] (by simp) (R := fun v' w' => v' = .bool true ∧ Below w9.heap.size w9 w') ((lives08_any _).mono fun e w' q => ⟨_, q.1, rfl, q.2⟩) fun a309 vx wx rx h308 => ?_
    obtain ⟨rfl, bx⟩ := rx; have HBx := hid (kept_trans HB9.out bx); clear bx
    refine wv h308 rfl rfl rfl rfl (.bool true) (run_pick rfl (h308.eval (k := 100) (v := .bool true) (by simp)) (by rw [if_pos rfl]; exact h308.eval (k := 101) (v := .bool true) (by simp))) fun a311 h310 => ?_
    refine wmv h310 rfl rfl rfl rfl (k := 102) (.bool true) (by simp) (fun _ => rfl) fun a313 h312 => ?_
    have h314 := h312.subs (l' := [(2, .bool true), (11, .bool true), (9, .int .i64 (i : Int)), (8, .slice ra qs.length rc), (3, .pointer (some ⟨K.pp, 0, none⟩)), (0, .slice a rs.length c)]) rfl
    clear h312
    go_step
    go_step
    go_step
    go_step
    exact bodyPost_ret (results_tmp1 rfl (h314.known (2, .bool true) (by simp))) h314.defs ⟨rfl, HBx.out⟩
  have hd1 : decide ((i : Int) < 4) = true := decide_eq_true (by omega)
  obtain ⟨pb, po, ad, cc, L, ha0, hpb, hcell, hrow, hin, _⟩ := recsIn_at HRS.out hltL
  have hL9 : L.length ≤ 9223372036854775807 := Nat.le_trans hin.2.2 (by unfold maxLen; omega)
  obtain ⟨C, hC⟩ : ∃ C, cutP 6 40 L = C := ⟨_, rfl⟩
  have okC : okPts C := by rw [← hC]; exact cutP_ok hin.1
  have lenC : C.length ≤ 6 := by rw [← hC]; exact cutP_len _ _ _
  go_step
  go_step
  go_step
  go_step
  refine wmv hK rfl rfl rfl rfl (k := 4) (.int .i64 (i : Int)) (by simp) (fun _ => rfl) fun a316 h315 => ?_
  refine wmv h315 rfl rfl rfl rfl (k := 0) (.slice a rs.length c) (by simp) (fun _ => rfl) fun a318 h317 => ?_
  refine wv h317 rfl rfl rfl rfl (.int .i64 (rs.length : Int)) (run_lenRP rfl (h317.eval (k := 16) (v := .slice a rs.length c) (by simp)) _) fun a320 h319 => ?_
  refine wv h319 rfl rfl rfl rfl (.bool true) (by unfold execOp; simp only [h319.eval (k := 15) (v := .int .i64 (i : Int)) (by simp), h319.eval (k := 17) (v := .int .i64 (rs.length : Int)) (by simp)]; exact run_v (ltIP _ _ _ _ _ hd0)) fun a322 h321 => ?_
  refine wmv h321 rfl rfl rfl rfl (k := 18) (.bool true) (by simp) (fun _ => rfl) fun a324 h323 => ?_
  refine wpk_val h323 (by rw [wanted_of (g := 4) (want := true) (b := true) rfl (h323.yields (prev := 19) rfl (by simp))]; rfl) rfl (by decide) (fr rfl) (.int .i64 (i : Int)) (by unfold execOp; simp only [h323.eval (k := 4) (v := .int .i64 (i : Int)) (by simp)]; rfl) fun a326 h325 => ?_
  refine wpk_val h325 (by rw [wanted_of (g := 4) (want := true) (b := true) rfl (h325.yields (prev := 19) rfl (by simp))]; rfl) rfl (by decide) (fr rfl) (.bool true) (by unfold execOp; simp only [h325.eval (k := 20) (v := .int .i64 (i : Int)) (by simp)]; exact run_v (ltIP _ _ _ _ _ hd1)) fun a328 h327 => ?_
  refine wv h327 rfl rfl rfl rfl (.bool true) (run_pick rfl (h327.eval (k := 19) (v := .bool true) (by simp)) (by rw [if_pos rfl]; exact h327.eval (k := 21) (v := .bool true) (by simp))) fun a330 h329 => ?_
  have h331 := h329.subs (l' := [(22, .bool true), (4, .int .i64 (i : Int)), (3, .pointer (some ⟨K.pp, 0, none⟩)), (0, .slice a rs.length c)]) rfl
  clear h329
  go_step
  go_step
  go_step
  refine wp_cond (t := true) (h331.eval (k := 22) (v := .bool true) (by simp)) ?_
  simp only [if_true]
  have h332 := h331.subs (l' := [(4, .int .i64 (i : Int)), (3, .pointer (some ⟨K.pp, 0, none⟩)), (0, .slice a rs.length c)]) rfl
  clear h331
  go_step
  go_step
  go_step
  go_step
  go_step
  go_step
  go_step
  refine wv h332 rfl rfl rfl rfl (.slice none 0 0) rfl fun a334 h333 => ?_
  go_step
  go_step
  go_step
  go_step
  go_step
  refine wmv h333 rfl rfl rfl rfl (k := 5) (.slice none 0 0) (by simp) (fun _ => rfl) fun a336 h335 => ?_
  refine wmv h335 rfl rfl rfl rfl (k := 0) (.slice a rs.length c) (by simp) (fun _ => rfl) fun a338 h337 => ?_
  refine wmv h337 rfl rfl rfl rfl (k := 4) (.int .i64 (i : Int)) (by simp) (fun _ => rfl) fun a340 h339 => ?_
  refine wv h339 rfl rfl rfl rfl (.pointer (some ⟨pb, po + i, none⟩)) (by unfold execOp; simp only [h339.eval (k := 26) (v := .slice a rs.length c) (by simp), h339.eval (k := 27) (v := .int .i64 (i : Int)) (by simp)]; exact run_v (by rw [ha0]; exact ixRP pb po _ c i hltL _)) fun a342 h341 => ?_
  refine wv h341 rfl rfl rfl rfl (.slice ad L.length cc) (by unfold execOp; simp only [h341.eval (k := 28) (v := .pointer (some ⟨pb, po + i, none⟩)) (by simp)]; exact run_v (loadRP (below_cell HBa.out hpb hcell))) fun a344 h343 => ?_
  refine wpk_call h343 (wanted_none rfl) rfl (by decide) (fr rfl) (fun args => callP_21 args _) rfl #[.slice ad L.length cc] (by simp only [List.map_toArray, List.map_cons, List.map_nil, h343.eval (k := 29) (v := .slice ad L.length cc) (by simp)]) (R := fun v' w' => ∃ la lc, v' = .slice la (cutP 6 40 L).length lc ∧ OwnPt w' aw.heap.size la lc (cutP 6 40 L) ∧ Below aw.heap.size aw w') ((little_any (hrow.below HBa.out) hL9).mono fun e w' q => by obtain ⟨x, y, q1, q2⟩ := q; exact ⟨_, q1, x, y, rfl, q2⟩) fun a346 v1 w1 r1 h345 => ?_
  obtain ⟨la, lc, rfl, o1, b1⟩ := r1; rw [hC] at o1 h345; have HP1 := hid (HPa.out.mono b1); have HB1 := hid (kept_trans HBa.out b1); clear b1
  refine wpl_append rfl (.tmp 25) (.tmp 30) rfl EPt w1.heap.size (h345.eval (k := 25) (v := .slice none 0 0) (by simp)) (h345.eval (k := 30) (v := .slice la C.length lc) (by simp)) (Own.nil _ _ _ _) o1.row (pts_one _) (by omega) (by omega) (Nat.le_refl _) ?_
  intro oa oc w2 o2 g2 b2
  refine wpk_enter (h345.put (d := 31) (by decide) (fr rfl) (.slice oa (0 + C.length) oc)) fun a348 h347 => ?_
  rw [Nat.zero_add] at h347; rw [Nat.zero_add, List.nil_append] at o2
  have HO2 : Hid (OwnPt w2 w1.heap.size oa oc C) := hid o2; have HP2 := hid (HP1.out.mono b2); have HB2 := hid (kept_trans HB1.out b2); have hlt2 := pair_lt HP1.out; clear o2 g2 b2 o1
  have h349 := h347.subs (l' := [(31, .slice oa C.length oc), (30, .slice la C.length lc), (29, .slice ad L.length cc), (28, .pointer (some ⟨pb, po + i, none⟩)), (27, .int .i64 (i : Int)), (26, .slice a rs.length c), (25, .slice none 0 0), (4, .int .i64 (i : Int)), (3, .pointer (some ⟨K.pp, 0, none⟩)), (0, .slice a rs.length c)]) rfl
  clear h347
  refine wmv h349 rfl rfl rfl rfl (k := 31) (.slice oa C.length oc) (by simp) (fun _ => rfl) fun a351 h350 => ?_
  have h352 := h350.subs (l' := [(5, .slice oa C.length oc), (4, .int .i64 (i : Int)), (3, .pointer (some ⟨K.pp, 0, none⟩)), (0, .slice a rs.length c)]) rfl
  clear h350
  go_step
  go_step
  go_step
  go_step
  go_step
  refine wmv h352 rfl rfl rfl rfl (k := 3) (.pointer (some ⟨K.pp, 0, none⟩)) (by simp) (fun _ => rfl) fun a354 h353 => ?_
  refine wv h353 rfl rfl rfl rfl (.pointer (some ⟨K.pp, 0, none⟩)) (by unfold execOp; simp only [h353.eval (k := 32) (v := .pointer (some ⟨K.pp, 0, none⟩)) (by simp)]; exact rfl) fun a356 h355 => ?_
  refine wv h355 rfl rfl rfl rfl (.pointer (some ⟨K.pp, 1, none⟩)) (by unfold execOp; simp only [h355.eval (k := 33) (v := .pointer (some ⟨K.pp, 0, none⟩)) (by simp)]; exact run_v (fa_50_0_1 (K.pp) _)) fun a358 h357 => ?_
  refine wv h357 rfl rfl rfl rfl (.pointer (some ⟨K.lg, 0, none⟩)) (by unfold execOp; simp only [h357.eval (k := 34) (v := .pointer (some ⟨K.pp, 1, none⟩)) (by simp)]; exact run_v (loadLP (HP2.out.b.cell (i := 1) (by show 1 < 4; omega)))) fun a360 h359 => ?_
  refine wmv h359 rfl rfl rfl rfl (k := 5) (.slice oa C.length oc) (by simp) (fun _ => rfl) fun a362 h361 => ?_
  refine wpk_call h361 (wanted_none rfl) rfl (by decide) (fr rfl) (fun args => callP_22 args _) rfl #[.pointer (some ⟨K.lg, 0, none⟩), .slice oa C.length oc] (by simp only [List.map_toArray, List.map_cons, List.map_nil, h361.eval (k := 35) (v := .pointer (some ⟨K.lg, 0, none⟩)) (by simp), h361.eval (k := 36) (v := .slice oa C.length oc) (by simp)]) (R := fun v' w' => v' = .int .i64 (appE M 512 512 C) ∧ LogP w' K.lg K.g K.v K.d K.p 512 512 (appM M 512 512 C) ∧ Turns (XM K.v K.d K.p) w2 w') (append_any HP2.out.l (logOk_of hlenM) HO2.out.row okC (by omega)) fun a364 v3 w3 r3 h363 => ?_
  obtain ⟨rfl, l3, t3⟩ := r3; have L3 := hid l3; have T3 := hid t3; have HR3 := hid (HP2.out.left t3).1; have HK3 := hid (HP2.out.left t3).2; have HB3 := hid (HB2.out.trans (below_XM (B := w.heap.size) t3 HB2.out.size HP2.out.f.2.1 HP2.out.f.2.2.1 HP2.out.f.2.2.2.1)); have HO3 := hid (t3.own HO2.out (by intro k hk; exact hlt2 k (.inl hk))); clear l3 t3
  have h365 := h363.subs (l' := [(5, .slice oa C.length oc), (4, .int .i64 (i : Int)), (3, .pointer (some ⟨K.pp, 0, none⟩)), (0, .slice a rs.length c)]) rfl
  clear h363
  go_step
  go_step
  go_step
  go_step
  have HBd := hid HB3.out.drew; have HRd := hid (HR3.out.mono (Below.refl _ _).drew); have HKd := hid (HK3.out.mono (Below.refl _ _).drew); have hcd := below_cell HBd.out hpb hcell
  refine wp_region_held_drew (S := fun w' => Blk w' K.pp 50 (pairC K) ∧ w'.cell? ⟨pb, po + i, none⟩ = some (.slice ad L.length cc)) (by kernel_rfl) ⟨HKd.out, hcd⟩ (fun hS1 => ?_)
  refine wpk_take hS1 h365 0 rfl rfl (by decide) (fr rfl) (by kernel_rfl) (by kernel_rfl) (by kernel_rfl) (fun _ _ _ _ h => h) (.pointer (some ⟨K.pp, 0, none⟩)) (Or.inl ⟨Eq.refl true, fun w1 hSw => (by show (execOp _ (⟨_, .move (.tmp 3), _, _, _, _⟩ : Oper)).run _ _ = _; exact (by unfold execOp; simp only [h365.eval (k := 3) (v := .pointer (some ⟨K.pp, 0, none⟩)) (by simp)]; exact rfl))⟩) fun a367 h366 => ?_
  refine wpk_take hS1 h366 1 rfl rfl (by decide) (fr rfl) (by kernel_rfl) (by kernel_rfl) (by kernel_rfl) (fun _ _ _ _ h => h) (.pointer (some ⟨K.pp, 0, none⟩)) (Or.inl ⟨Eq.refl true, fun w1 hSw => (by show (execOp _ (⟨_, .nilCheck (.tmp 38), _, _, _, _⟩ : Oper)).run _ _ = _; exact (by unfold execOp; simp only [h366.eval (k := 38) (v := .pointer (some ⟨K.pp, 0, none⟩)) (by simp)]; exact rfl))⟩) fun a369 h368 => ?_
  refine wpk_take hS1 h368 2 rfl rfl (by decide) (fr rfl) (by kernel_rfl) (by kernel_rfl) (by kernel_rfl) (fun _ _ _ _ h => h) (.pointer (some ⟨K.pp, 3, none⟩)) (Or.inl ⟨Eq.refl true, fun w1 hSw => (by show (execOp _ (⟨_, .fieldAddr 50 (.tmp 39) 3, _, _, _, _⟩ : Oper)).run _ _ = _; exact (by unfold execOp; simp only [h368.eval (k := 39) (v := .pointer (some ⟨K.pp, 0, none⟩)) (by simp)]; exact run_v (fa_50_0_3 (K.pp) _)))⟩) fun a371 h370 => ?_
  refine wpk_take hS1 h370 3 rfl rfl (by decide) (fr rfl) (by kernel_rfl) (by kernel_rfl) (by kernel_rfl) (fun _ _ _ _ h => h) (.pointer (some ⟨K.lr, 0, none⟩)) (Or.inl ⟨Eq.refl true, fun w1 hSw => (by show (execOp _ (⟨_, .load 48 (.tmp 40), _, _, _, _⟩ : Oper)).run _ _ = _; exact (by unfold execOp; simp only [h370.eval (k := 40) (v := .pointer (some ⟨K.pp, 3, none⟩)) (by simp)]; exact run_v (loadLR (hSw.1.cell (i := 3) (by show 3 < 4; omega)))))⟩) fun a373 h372 => ?_
  refine wpk_take hS1 h372 4 rfl rfl (by decide) (fr rfl) (by kernel_rfl) (by kernel_rfl) (by kernel_rfl) (fun _ _ _ _ h => h) (.slice a rs.length c) (Or.inl ⟨Eq.refl true, fun w1 hSw => (by show (execOp _ (⟨_, .move (.tmp 0), _, _, _, _⟩ : Oper)).run _ _ = _; exact (by unfold execOp; simp only [h372.eval (k := 0) (v := .slice a rs.length c) (by simp)]; exact rfl))⟩) fun a375 h374 => ?_
  refine wpk_take hS1 h374 5 rfl rfl (by decide) (fr rfl) (by kernel_rfl) (by kernel_rfl) (by kernel_rfl) (fun _ _ _ _ h => h) (.int .i64 (i : Int)) (Or.inl ⟨Eq.refl true, fun w1 hSw => (by show (execOp _ (⟨_, .move (.tmp 4), _, _, _, _⟩ : Oper)).run _ _ = _; exact (by unfold execOp; simp only [h374.eval (k := 4) (v := .int .i64 (i : Int)) (by simp)]; exact rfl))⟩) fun a377 h376 => ?_
  refine wpk_take hS1 h376 6 rfl rfl (by decide) (fr rfl) (by kernel_rfl) (by kernel_rfl) (by kernel_rfl) (fun _ _ _ _ h => h) (.pointer (some ⟨pb, po + i, none⟩)) (Or.inl ⟨Eq.refl true, fun w1 hSw => (by show (execOp _ (⟨_, .indexAddr 41 (.tmp 42) (.tmp 43), _, _, _, _⟩ : Oper)).run _ _ = _; exact (by unfold execOp; simp only [h376.eval (k := 42) (v := .slice a rs.length c) (by simp), h376.eval (k := 43) (v := .int .i64 (i : Int)) (by simp)]; exact run_v (by rw [ha0]; exact ixRP pb po _ c i hltL _)))⟩) fun a379 h378 => ?_
  refine wpk_take hS1 h378 7 rfl rfl (by decide) (fr rfl) (by kernel_rfl) (by kernel_rfl) (by kernel_rfl) (fun _ _ _ _ h => h) (.slice ad L.length cc) (Or.inl ⟨Eq.refl true, fun w1 hSw => (by show (execOp _ (⟨_, .load 22 (.tmp 44), _, _, _, _⟩ : Oper)).run _ _ = _; exact (by unfold execOp; simp only [h378.eval (k := 44) (v := .pointer (some ⟨pb, po + i, none⟩)) (by simp)]; exact run_v (loadRP hSw.2)))⟩) fun a381 h380 => ?_
  refine wpk_only 8 rfl rfl (by kernel_rfl) fun KK hK => op_call h380 rfl (by decide) (fr rfl) (fun args => callP_21 args _) rfl #[.slice ad L.length cc] (by simp only [List.map_toArray, List.map_cons, List.map_nil, h380.eval (k := 45) (v := .slice ad L.length cc) (by simp)]) (R := fun v' w' => ∃ la lc, v' = .slice la (cutP 6 40 L).length lc ∧ OwnPt w' w3.drew.heap.size la lc (cutP 6 40 L) ∧ Below w3.drew.heap.size w3.drew w') ((little_any (hrow.below HBd.out) hL9).mono fun e w' q => by obtain ⟨x, y, q1, q2⟩ := q; exact ⟨_, q1, x, y, rfl, q2⟩) fun a383 v4 w4 r4 h382 => hK _ _ (by obtain ⟨_, _, _, _, q⟩ := r4; exact ⟨HKd.out.mono q, cell_mono q hcd⟩) fun hS2 => ?_
  clear hK KK
  obtain ⟨lb, ld, rfl, o4, b4⟩ := r4; rw [hC] at o4 h382; have HB4 := hid (kept_trans HBd.out b4); have HR4 := hid (HRd.out.mono b4)
  refine wpk_only 9 rfl rfl (by kernel_rfl) fun KK hK => op_call h382 rfl (by decide) (fr rfl) (fun args => callP_28 args _) rfl #[.pointer (some ⟨K.lr, 0, none⟩), .slice lb C.length ld] (by simp only [List.map_toArray, List.map_cons, List.map_nil, h382.eval (k := 41) (v := .pointer (some ⟨K.lr, 0, none⟩)) (by simp), h382.eval (k := 46) (v := .slice lb C.length ld) (by simp)]) (R := fun v' w' => v' = .int .i64 (appE M 512 512 C) ∧ LogRP w' K.lr K.gr K.vr K.dr K.ar 512 512 (appM M 512 512 C) ∧ Turns (XM K.vr K.dr K.ar) w4 w') (appendR_any HR4.out (logOk_of hlenM) o4.row okC (by omega)) fun a385 v5 w5 r5 h384 => hK _ _ (⟨r5.2.2.blk hS2.1 HP2.out.nR.2.2.2.2.2, below_cell ((HB4.out.trans (below_XM (B := w.heap.size) r5.2.2 HB4.out.size HP2.out.f.2.2.2.2.2.2.1 HP2.out.f.2.2.2.2.2.2.2.1 HP2.out.f.2.2.2.2.2.2.2.2.1))) hpb hcell⟩) fun hS3 => ?_
  clear hK KK
  obtain ⟨rfl, l5, t5⟩ := r5
  have hpp := HP2.out.both L3.out T3.out l5 ((((Turns.refl _ _).drew).trans (Turns.of_below b4)).trans t5)
  have HP5 := hid hpp.1; have HB5 := hid (HB4.out.trans (below_XM (B := w.heap.size) t5 HB4.out.size HP2.out.f.2.2.2.2.2.2.1 HP2.out.f.2.2.2.2.2.2.2.1 HP2.out.f.2.2.2.2.2.2.2.2.1)); have HO5 := hid (t5.own (Own.mono (Own.mono HO3.out (Below.refl _ _).drew) b4) (by intro k hk; exact hlt2 k (.inr hk))); clear hpp t5 l5 b4 o4
  refine wpAnyH_done (by kernel_rfl) ?_ _
  have h386 := h384.subs (l' := [(5, .slice oa C.length oc), (4, .int .i64 (i : Int)), (3, .pointer (some ⟨K.pp, 0, none⟩)), (0, .slice a rs.length c)]) rfl
  clear h384
  go_step
  go_step
  go_step
  go_step
  refine wmv h386 rfl rfl rfl rfl (k := 5) (.slice oa C.length oc) (by simp) (fun _ => rfl) fun a388 h387 => ?_
  refine wmv h387 rfl rfl rfl rfl (k := 0) (.slice a rs.length c) (by simp) (fun _ => rfl) fun a390 h389 => ?_
  refine wmv h389 rfl rfl rfl rfl (k := 4) (.int .i64 (i : Int)) (by simp) (fun _ => rfl) fun a392 h391 => ?_
  refine wv h391 rfl rfl rfl rfl (.pointer (some ⟨pb, po + i, none⟩)) (by unfold execOp; simp only [h391.eval (k := 49) (v := .slice a rs.length c) (by simp), h391.eval (k := 50) (v := .int .i64 (i : Int)) (by simp)]; exact run_v (by rw [ha0]; exact ixRP pb po _ c i hltL _)) fun a394 h393 => ?_
  refine wv h393 rfl rfl rfl rfl (.slice ad L.length cc) (by unfold execOp; simp only [h393.eval (k := 51) (v := .pointer (some ⟨pb, po + i, none⟩)) (by simp)]; exact run_v (loadRP (below_cell HB5.out hpb hcell))) fun a396 h395 => ?_
  refine wpk_call h395 (wanted_none rfl) rfl (by decide) (fr rfl) (fun args => callP_21 args _) rfl #[.slice ad L.length cc] (by simp only [List.map_toArray, List.map_cons, List.map_nil, h395.eval (k := 52) (v := .slice ad L.length cc) (by simp)]) (R := fun v' w' => ∃ la lc, v' = .slice la (cutP 6 40 L).length lc ∧ OwnPt w' w5.heap.size la lc (cutP 6 40 L) ∧ Below w5.heap.size w5 w') ((little_any (hrow.below HB5.out) hL9).mono fun e w' q => by obtain ⟨x, y, q1, q2⟩ := q; exact ⟨_, q1, x, y, rfl, q2⟩) fun a398 v6 w6 r6 h397 => ?_
  obtain ⟨lb, ld, rfl, o6, b6⟩ := r6; rw [hC] at o6 h397; have HP6 := hid (HP5.out.mono b6); have HB6 := hid (kept_trans HB5.out b6); have HO6 := hid (Own.mono HO5.out b6); clear b6
  refine wpk_call h397 (wanted_none rfl) rfl (by decide) (fr rfl) (fun args => callP_16 args _) rfl #[.slice oa C.length oc, .slice lb C.length ld] (by simp only [List.map_toArray, List.map_cons, List.map_nil, h397.eval (k := 48) (v := .slice oa C.length oc) (by simp), h397.eval (k := 53) (v := .slice lb C.length ld) (by simp)]) (R := fun v' w' => v' = .bool true ∧ Below w6.heap.size w6 w') ((samePts_eq HO6.out.row o6.row (by omega)).mono fun e w' q => ⟨_, q.1, rfl, q.2⟩) fun a400 v7 w7 r7 h399 => ?_
  obtain ⟨rfl, b7⟩ := r7; have HP7 := hid (HP6.out.mono b7); have HB7 := hid (kept_trans HB6.out b7); have HO7 := hid (Own.mono HO6.out b7); clear b7 o6
  refine wmv h399 rfl rfl rfl rfl (k := 54) (.bool true) (by simp) (fun _ => rfl) fun a402 h401 => ?_
  have h403 := h401.subs (l' := [(6, .bool true), (5, .slice oa C.length oc), (4, .int .i64 (i : Int)), (3, .pointer (some ⟨K.pp, 0, none⟩)), (0, .slice a rs.length c)]) rfl
  clear h401
  go_step
  go_step
  go_step
  go_step
  go_step
  go_step
  refine wmv h403 rfl rfl rfl rfl (k := 6) (.bool true) (by simp) (fun _ => rfl) fun a405 h404 => ?_
  refine wv h404 rfl rfl rfl rfl (.bool false) (run_not rfl (h404.eval (k := 55) (v := .bool true) (by simp))) fun a407 h406 => ?_
  have h408 := h406.subs (l' := [(56, .bool false), (6, .bool true), (5, .slice oa C.length oc), (4, .int .i64 (i : Int)), (3, .pointer (some ⟨K.pp, 0, none⟩)), (0, .slice a rs.length c)]) rfl
  clear h406
  go_step
  go_step
  go_step
  refine wp_cond (t := false) (h408.eval (k := 56) (v := .bool false) (by simp)) ?_
  simp only [Bool.false_eq_true, if_false]
  have h409 := h408.subs (l' := [(6, .bool true), (5, .slice oa C.length oc), (4, .int .i64 (i : Int)), (3, .pointer (some ⟨K.pp, 0, none⟩)), (0, .slice a rs.length c)]) rfl
  clear h408
  go_step
  go_step
  go_step
  go_step
  go_step
  refine wv h409 rfl rfl rfl rfl (.int .i64 0) rfl fun a411 h410 => ?_
  go_step
  go_step
  go_step
  go_step
  refine wp_loop (I := fun a' w' => ∃ k : Nat, k ≤ C.length ∧ Kn 103 [(7, .int .i64 (k : Int)), (6, .bool true), (5, .slice oa C.length oc), (4, .int .i64 (i : Int)), (3, .pointer (some ⟨K.pp, 0, none⟩)), (0, .slice a rs.length c)] a' ∧ PairP w' w.heap.size K (appM M 512 512 C) ∧ Below w.heap.size w w' ∧ Wk w' w.heap.size oa C.length oc) (μ := fun a' _ => C.length - (intOf (a'.eval (.tmp 7))).toNat) ⟨0, by omega, h410, HP7.out, HB7.out, ⟨_, HO7.out.low HB1.out.size⟩⟩ ?_
  clear HP7 HB7 HO7 h410
  rintro aL2 wk ⟨k, hk, hK2, hpk, hbk, hwk⟩
  have HPk := hid hpk; have HBk := hid hbk; have HWk := hid hwk; clear hpk hbk hwk
  by_cases hltk : k < C.length
  case pos =>
    have hd0 : decide ((k : Int) < (C.length : Int)) = true := decide_eq_true (by omega)
    obtain ⟨gq, KK, hoa, hgk, hgl, hgB⟩ := wk_blk HWk.out (by omega)
    go_step
    go_step
    go_step
    go_step
    refine wmv hK2 rfl rfl rfl rfl (k := 7) (.int .i64 (k : Int)) (by simp) (fun _ => rfl) fun a413 h412 => ?_
    refine wmv h412 rfl rfl rfl rfl (k := 5) (.slice oa C.length oc) (by simp) (fun _ => rfl) fun a415 h414 => ?_
    refine wv h414 rfl rfl rfl rfl (.int .i64 (C.length : Int)) (run_lenP rfl (h414.eval (k := 58) (v := .slice oa C.length oc) (by simp)) _) fun a417 h416 => ?_
    refine wv h416 rfl rfl rfl rfl (.bool true) (by unfold execOp; simp only [h416.eval (k := 57) (v := .int .i64 (k : Int)) (by simp), h416.eval (k := 59) (v := .int .i64 (C.length : Int)) (by simp)]; exact run_v (ltIP _ _ _ _ _ hd0)) fun a419 h418 => ?_
    have h420 := h418.subs (l' := [(60, .bool true), (7, .int .i64 (k : Int)), (6, .bool true), (5, .slice oa C.length oc), (4, .int .i64 (i : Int)), (3, .pointer (some ⟨K.pp, 0, none⟩)), (0, .slice a rs.length c)]) rfl
    clear h418
    go_step
    go_step
    go_step
    refine wp_cond (t := true) (h420.eval (k := 60) (v := .bool true) (by simp)) ?_
    simp only [if_true]
    have h421 := h420.subs (l' := [(7, .int .i64 (k : Int)), (6, .bool true), (5, .slice oa C.length oc), (4, .int .i64 (i : Int)), (3, .pointer (some ⟨K.pp, 0, none⟩)), (0, .slice a rs.length c)]) rfl
    clear h420
    go_step
    go_step
    go_step
    go_step
    go_step
    go_step
    refine wmv h421 rfl rfl rfl rfl (k := 5) (.slice oa C.length oc) (by simp) (fun _ => rfl) fun a423 h422 => ?_
    refine wmv h422 rfl rfl rfl rfl (k := 7) (.int .i64 (k : Int)) (by simp) (fun _ => rfl) fun a425 h424 => ?_
    refine wv h424 rfl rfl rfl rfl (ptV ⟨9, [113]⟩) (by unfold execOp; simp only [List.map_toArray, List.map_cons, List.map_nil]; exact run_v (buildPt9 _)) fun a427 h426 => ?_
    refine wv h426 rfl rfl rfl rfl (.pointer (some ⟨gq, 0 + k * 2, none⟩)) (by unfold execOp; simp only [h426.eval (k := 63) (v := .slice oa C.length oc) (by simp), h426.eval (k := 64) (v := .int .i64 (k : Int)) (by simp)]; exact run_v (by rw [hoa]; exact ixP gq 0 _ oc k hltk _)) fun a429 h428 => ?_
    refine wpk_storeP h428 rfl rfl rfl gq (0 + k * 2) (h428.eval (k := 66) (v := .pointer (some ⟨gq, 0 + k * 2, none⟩)) (by simp)) (ptC ⟨9, [113]⟩) (h428.eval (k := 65) (v := ptV ⟨9, [113]⟩) (by simp)) (by rw [infoPt]; rfl) (ptC_one _) hgk (by show 0 + k * 2 + 2 ≤ _; omega) fun a431 wq h430 kq gr => ?_
    have h432 := h430.subs (l' := [(7, .int .i64 (k : Int)), (6, .bool true), (5, .slice oa C.length oc), (4, .int .i64 (i : Int)), (3, .pointer (some ⟨K.pp, 0, none⟩)), (0, .slice a rs.length c)]) rfl
    clear h430
    go_step
    go_step
    go_step
    go_step
    refine wmv h432 rfl rfl rfl rfl (k := 7) (.int .i64 (k : Int)) (by simp) (fun _ => rfl) fun a434 h433 => ?_
    refine wv h433 rfl rfl rfl rfl (.int .i64 ((k + 1 : Nat) : Int)) (by unfold execOp; simp only [h433.eval (k := 61) (v := .int .i64 (k : Int)) (by simp)]; exact run_v (addIP _ _ k (by omega) _)) fun a436 h435 => ?_
    have h437 := h435.subs (l' := [(62, .int .i64 ((k + 1 : Nat) : Int)), (61, .int .i64 (k : Int)), (6, .bool true), (5, .slice oa C.length oc), (4, .int .i64 (i : Int)), (3, .pointer (some ⟨K.pp, 0, none⟩)), (0, .slice a rs.length c)]) rfl
    clear h435
    refine wmv h437 rfl rfl rfl rfl (k := 62) (.int .i64 ((k + 1 : Nat) : Int)) (by simp) (fun _ => rfl) fun a439 h438 => ?_
    have h440 := h438.subs (l' := [(7, .int .i64 ((k + 1 : Nat) : Int)), (6, .bool true), (5, .slice oa C.length oc), (4, .int .i64 (i : Int)), (3, .pointer (some ⟨K.pp, 0, none⟩)), (0, .slice a rs.length c)]) rfl
    clear h438
    go_step
    go_step
    refine ⟨⟨k + 1, by omega, h440.subs rfl, HPk.out.patch hgk (Turns.of_grown gr rfl), below_grownS HBk.out gr hgB HBk.out.size, wk_write HWk.out hgk kq (by rw [length_splice _ _ _ (by show 0 + k * 2 + 2 ≤ _; omega)]) gr⟩, ?_⟩
    rw [h440.eval (k := 7) (v := .int .i64 ((k + 1 : Nat) : Int)) (by simp), hK2.eval (k := 7) (v := .int .i64 (k : Int)) (by simp)]; simp [intOf]; omega
  have hd0 : decide ((k : Int) < (C.length : Int)) = false := decide_eq_false (by omega)
  go_step
  go_step
  go_step
  go_step
  refine wmv hK2 rfl rfl rfl rfl (k := 7) (.int .i64 (k : Int)) (by simp) (fun _ => rfl) fun a442 h441 => ?_
  refine wmv h441 rfl rfl rfl rfl (k := 5) (.slice oa C.length oc) (by simp) (fun _ => rfl) fun a444 h443 => ?_
  refine wv h443 rfl rfl rfl rfl (.int .i64 (C.length : Int)) (run_lenP rfl (h443.eval (k := 58) (v := .slice oa C.length oc) (by simp)) _) fun a446 h445 => ?_
  refine wv h445 rfl rfl rfl rfl (.bool false) (by unfold execOp; simp only [h445.eval (k := 57) (v := .int .i64 (k : Int)) (by simp), h445.eval (k := 59) (v := .int .i64 (C.length : Int)) (by simp)]; exact run_v (ltIP _ _ _ _ _ hd0)) fun a448 h447 => ?_
  have h449 := h447.subs (l' := [(60, .bool false), (7, .int .i64 (k : Int)), (6, .bool true), (5, .slice oa C.length oc), (4, .int .i64 (i : Int)), (3, .pointer (some ⟨K.pp, 0, none⟩)), (0, .slice a rs.length c)]) rfl
  clear h447
  go_step
  go_step
  go_step
  refine wp_cond (t := false) (h449.eval (k := 60) (v := .bool false) (by simp)) ?_
  simp only [Bool.false_eq_true, if_false]
  have h450 := h449.subs (l' := [(7, .int .i64 (k : Int)), (6, .bool true), (5, .slice oa C.length oc), (4, .int .i64 (i : Int)), (3, .pointer (some ⟨K.pp, 0, none⟩)), (0, .slice a rs.length c)]) rfl
  clear h449
  go_step
  go_step
  go_step
  go_step
  go_step
  go_step
  refine wmv h450 rfl rfl rfl rfl (k := 4) (.int .i64 (i : Int)) (by simp) (fun _ => rfl) fun a452 h451 => ?_
  refine wv h451 rfl rfl rfl rfl (.int .i64 ((i + 1 : Nat) : Int)) (by unfold execOp; simp only [h451.eval (k := 23) (v := .int .i64 (i : Int)) (by simp)]; exact run_v (addIP _ _ i (by omega) _)) fun a454 h453 => ?_
  have h455 := h453.subs (l' := [(24, .int .i64 ((i + 1 : Nat) : Int)), (23, .int .i64 (i : Int)), (7, .int .i64 (k : Int)), (6, .bool true), (5, .slice oa C.length oc), (3, .pointer (some ⟨K.pp, 0, none⟩)), (0, .slice a rs.length c)]) rfl
  clear h453
  refine wmv h455 rfl rfl rfl rfl (k := 24) (.int .i64 ((i + 1 : Nat) : Int)) (by simp) (fun _ => rfl) fun a457 h456 => ?_
  have h458 := h456.subs (l' := [(4, .int .i64 ((i + 1 : Nat) : Int)), (7, .int .i64 (k : Int)), (6, .bool true), (5, .slice oa C.length oc), (3, .pointer (some ⟨K.pp, 0, none⟩)), (0, .slice a rs.length c)]) rfl
  clear h456
  go_step
  go_step
  refine ⟨⟨i + 1, appM M 512 512 C, by omega, by omega, by rw [appM_len]; exact hlenM, h458.subs rfl, HPk.out, HBk.out⟩, ?_⟩
  rw [h458.eval (k := 4) (v := .int .i64 ((i + 1 : Nat) : Int)) (by simp), hK.eval (k := 4) (v := .int .i64 (i : Int)) (by simp)]; simp [intOf]; omega
end Go.Proofs.YtkhhoognemjibaaDoor
