/- layout.Find and layout.Of. -/
import Derived.Test.YtikakpdbokcbnaaLayE
namespace Go.Proofs.Ytikakpdbokcbnaa
open Go.RowKit Go.Shelf
set_option linter.unusedSimpArgs false
set_option linter.unusedVariables false
attribute [local go_sem] Oper.semAt_some

set_option maxHeartbeats 4000000 in
theorem eqPart4 (x0 x1 x2 x3 y0 y1 y2 y3 : Int) (w : World) : (Op.equalIn 10000 23 (.agg #[.int .i64 x0, .int .i64 x1, .int .i64 x2, .int .i64 x3]) (.agg #[.int .i64 y0, .int .i64 y1, .int .i64 y2, .int .i64 y3])).run Try.prog w = .ok (decide ([x0, x1, x2, x3] = [y0, y1, y2, y3])) w := by
  have u3 := Try.underlying3
  have a3 := Try.isAgg3
  have z3 := Try.sizeOf3
  have hS : Try.prog.underlying 23 = some (.struct (Try.prog.fieldsOf 23)) := by kernel_rfl
  have hp : Try.prog.stoodInHeld 23 = false := by kernel_rfl
  rw [show (10000 : Nat) = 9999 + 1 from rfl, run_equalIn_agg w 9999 23 _ _ hS hp]
  simp only [Program.fieldsOf, Try.underlying23]
  go_simp
  by_cases h0 : x0 = y0
  case neg => simp [h0]
  by_cases h1 : x1 = y1
  case neg => simp [h0, h1]
  by_cases h2 : x2 = y2
  case neg => simp [h0, h1, h2]
  by_cases h3 : x3 = y3
  case neg => simp [h0, h1, h2, h3]
  simp [h0, h1, h2, h3]
theorem set4 {w : World} {g : Nat} {e : TypeId} {L : List Value} (h : Blk w g e L) (hl : L.length = 4) (v0 v1 v2 v3 : Value) :
    Blk ((((w.setCell ⟨g, 0, none⟩ v0).setCell ⟨g, 1, none⟩ v1).setCell ⟨g, 2, none⟩ v2).setCell ⟨g, 3, none⟩ v3) g e [v0, v1, v2, v3] := by
  match L, hl with
  | [a, b, c, d], _ => exact (((h.set 0 v0).set 1 v1).set 2 v2).set 3 v3
theorem bel4 {w0 w : World} {B g : Nat} (h : Below B w0 w) (hg : B ≤ g) (v0 v1 v2 v3 : Value) : Below B w0 ((((w.setCell ⟨g, 0, none⟩ v0).setCell ⟨g, 1, none⟩ v1).setCell ⟨g, 2, none⟩ v2).setCell ⟨g, 3, none⟩ v3) :=
  (((h.setCell hg v0).setCell hg v1).setCell hg v2).setCell hg v3
theorem oth4 {w : World} {g k : Nat} {e : TypeId} {L : List Value} (h : Blk w g e L) (hne : g ≠ k) (v0 v1 v2 v3 : Value) : Blk ((((w.setCell ⟨k, 0, none⟩ v0).setCell ⟨k, 1, none⟩ v1).setCell ⟨k, 2, none⟩ v2).setCell ⟨k, 3, none⟩ v3) g e L :=
  (((h.setOtherS hne 0 v0).setOtherS hne 1 v1).setOtherS hne 2 v2).setOtherS hne 3 v3
theorem keep4 {W W' : World} {B g : Nat} (h : KeepUp B W W') (hg : g < B) (v0 v1 v2 v3 : Value) : KeepUp B W ((((W'.setCell ⟨g, 0, none⟩ v0).setCell ⟨g, 1, none⟩ v1).setCell ⟨g, 2, none⟩ v2).setCell ⟨g, 3, none⟩ v3) :=
  (((h.setCell (p := ⟨g, 0, none⟩) hg v0).setCell (p := ⟨g, 1, none⟩) hg v1).setCell (p := ⟨g, 2, none⟩) hg v2).setCell (p := ⟨g, 3, none⟩) hg v3
theorem heap5 {w : World} {g g' D : Nat} (h : D ≠ g) (h' : D ≠ g') (v0 v1 v2 v3 v4 : Value) : (((((w.setCell ⟨g, 0, none⟩ v0).setCell ⟨g, 1, none⟩ v1).setCell ⟨g, 2, none⟩ v2).setCell ⟨g, 3, none⟩ v3).setCell ⟨g', 0, none⟩ v4).heap[D]? = w.heap[D]? := by
  rw [Below.heap_setCell _ _ _ _ h', Below.heap_setCell _ _ _ _ h, Below.heap_setCell _ _ _ _ h, Below.heap_setCell _ _ _ _ h, Below.heap_setCell _ _ _ _ h]
theorem results_pb {fn : Func} {c u : Tmp} (h : fn.results = #[.cell c 23, .cell u 4]) {tmps : Array Value} {w : World} {g g' : Nat} {e e' : TypeId} {L : List Value} {b : Bool} (hc : tmps.getD c undef = .pointer (some ⟨g, 0, none⟩)) (hu : tmps.getD u undef = .pointer (some ⟨g', 0, none⟩)) (hb : Blk w g e L) (hl : L.length = 4) (hb' : Blk w g' e' [.bool b]) :
    (results fn tmps).run Try.prog w = .ok (.tuple #[.agg L.toArray, .bool b]) w := by
  have hv := run_loadVar_mid (P := Try.prog) w g 0 23 L _ hb.range Try.underlying23 rfl (by rw [infoPart, hl])
  have hc' : tmps[c]?.getD undef = .pointer (some ⟨g, 0, none⟩) := by simpa using hc
  have hu' : tmps[u]?.getD undef = .pointer (some ⟨g', 0, none⟩) := by simpa using hu
  have z : w.cell? ⟨g', 0, none⟩ = some (.bool b) := hb'.cell (i := 0) (by simp)
  have ub := Try.underlying4
  have ib : (Try.prog.info? 4).map (·.size) = some 1 := by kernel_rfl
  have hv2 : (loadVar 4 ⟨g', 0, none⟩).run Try.prog w = .ok (.bool b) w := by go_simp
  simp [results, h, hc', hu', asAddr, hv, hv2]
theorem find_first {α : Type} {p : α → Bool} {l q : List α} {x : α} (h : q ++ [x] <+: l) (hq : ∀ y ∈ q, p y = false) (hx : p x = true) : l.find? p = some x := by
  obtain ⟨r, rfl⟩ := h
  rw [List.append_assoc, List.find?_append]
  have : q.find? p = none := List.find?_eq_none.2 (fun y hy => by rw [hq y hy]; simp)
  rw [this]
  simp [hx]
def hitB (kd nm : Int) (x : PartT) : Bool := decide (x.k = kd ∧ x.n = nm)
def findP (kd nm : Int) : Option PartT := partsL.find? (hitB kd nm)
def ofP (at_ : Int) : Option PartT := partsL.find? (fun x => inF x at_ 1)
def part0 : PartT := ⟨0, 0, 0, 0⟩
def ansP (o : Option PartT) : Value := .tuple #[partV (o.getD part0), .bool o.isSome]
theorem parts_wf : ∀ x ∈ partsL, 0 ≤ x.a ∧ x.a ≤ 23104 ∧ 0 ≤ x.s ∧ x.s ≤ 4096 := by decide +kernel

set_option maxHeartbeats 8000000 in
set_option maxRecDepth 100000 in
theorem find_any (kd nm : Int) (w : World) : Calls Try.prog 7 #[.int .i64 kd, .int .i64 nm] w fun e w' => e = .returned (ansP (findP kd nm)) ∧ Below w.heap.size w w' := by
  have hd : Fence.wide.depth = none := rfl
  obtain ⟨w4, hw4⟩ : ∃ w4, w4 = ((((w.alloc (.cells #[.int .i64 kd] 3)).alloc (.cells #[.int .i64 nm] 3)).alloc (.cells #[.int .i64 0, .int .i64 0, .int .i64 0, .int .i64 0] 23)).alloc (.cells #[.bool false] 4)) := ⟨_, rfl⟩
  have hsz : w4.heap.size = w.heap.size + 4 := by rw [hw4]; simp
  have b0 : Below w.heap.size w w4 := by rw [hw4]; exact (((((Below.refl _ w).alloc (Nat.le_refl _) _).alloc (by simp; try omega) _).alloc (by simp; try omega) _).alloc (by simp; try omega) _)
  have k0 : Blk w4 (w.heap.size) 3 [.int .i64 kd] := by
    rw [hw4]
    have q : Blk (w.alloc (.cells #[.int .i64 kd] 3)) (w.heap.size) 3 [.int .i64 kd] := by
      have q := heap_alloc_new w (.cells #[.int .i64 kd] 3)
      exact q
    exact (((q.mono ((Below.refl _ _).alloc (Nat.le_refl _) _)).mono ((Below.refl _ _).alloc (Nat.le_refl _) _)).mono ((Below.refl _ _).alloc (Nat.le_refl _) _))
  have k1 : Blk w4 (w.heap.size + 1) 3 [.int .i64 nm] := by
    rw [hw4]
    have q : Blk ((w.alloc (.cells #[.int .i64 kd] 3)).alloc (.cells #[.int .i64 nm] 3)) (w.heap.size + 1) 3 [.int .i64 nm] := by
      have q := heap_alloc_new (w.alloc (.cells #[.int .i64 kd] 3)) (.cells #[.int .i64 nm] 3)
      rw [show ((w.alloc (.cells #[.int .i64 kd] 3))).heap.size = w.heap.size + 1 from by simp] at q; exact q
    exact ((q.mono ((Below.refl _ _).alloc (Nat.le_refl _) _)).mono ((Below.refl _ _).alloc (Nat.le_refl _) _))
  have k2 : Blk w4 (w.heap.size + 1 + 1) 23 [.int .i64 0, .int .i64 0, .int .i64 0, .int .i64 0] := by
    rw [hw4]
    have q : Blk (((w.alloc (.cells #[.int .i64 kd] 3)).alloc (.cells #[.int .i64 nm] 3)).alloc (.cells #[.int .i64 0, .int .i64 0, .int .i64 0, .int .i64 0] 23)) (w.heap.size + 1 + 1) 23 [.int .i64 0, .int .i64 0, .int .i64 0, .int .i64 0] := by
      have q := heap_alloc_new ((w.alloc (.cells #[.int .i64 kd] 3)).alloc (.cells #[.int .i64 nm] 3)) (.cells #[.int .i64 0, .int .i64 0, .int .i64 0, .int .i64 0] 23)
      rw [show (((w.alloc (.cells #[.int .i64 kd] 3)).alloc (.cells #[.int .i64 nm] 3))).heap.size = w.heap.size + 1 + 1 from by simp] at q; exact q
    exact (q.mono ((Below.refl _ _).alloc (Nat.le_refl _) _))
  have k3 : Blk w4 (w.heap.size + 1 + 1 + 1) 4 [.bool false] := by
    rw [hw4]
    have q : Blk ((((w.alloc (.cells #[.int .i64 kd] 3)).alloc (.cells #[.int .i64 nm] 3)).alloc (.cells #[.int .i64 0, .int .i64 0, .int .i64 0, .int .i64 0] 23)).alloc (.cells #[.bool false] 4)) (w.heap.size + 1 + 1 + 1) 4 [.bool false] := by
      have q := heap_alloc_new (((w.alloc (.cells #[.int .i64 kd] 3)).alloc (.cells #[.int .i64 nm] 3)).alloc (.cells #[.int .i64 0, .int .i64 0, .int .i64 0, .int .i64 0] 23)) (.cells #[.bool false] 4)
      rw [show ((((w.alloc (.cells #[.int .i64 kd] 3)).alloc (.cells #[.int .i64 nm] 3)).alloc (.cells #[.int .i64 0, .int .i64 0, .int .i64 0, .int .i64 0] 23))).heap.size = w.heap.size + 1 + 1 + 1 from by simp] at q; exact q
    exact q
  obtain ⟨hit, hhit⟩ : ∃ hit : PartT → Bool, hit = hitB kd nm := ⟨_, rfl⟩
  have HH := hid hhit
  clear hhit
  refine (callsIn_wide (n := 5)).1 ?_
  refine callsIn_of_wp_marks Try.func7 rfl trivial ?_ rfl
  simp only [Try.ntmps7, List.size_toArray, List.length_cons, List.length_nil, Nat.reduceAdd, Nat.reduceSub, Array.replicate_succ, Array.replicate_zero, List.push_toArray, List.append_toArray, List.nil_append, List.cons_append]
  gi_wp2
  rw [← hw4]
  clear hw4
  have hI : StabC w4.heap.size (fun (pre : List PartT) W => (Blk W (w.heap.size) 3 [.int .i64 kd] ∧ Blk W (w.heap.size + 1) 3 [.int .i64 nm] ∧ Blk W (w.heap.size + 1 + 1) 23 [.int .i64 0, .int .i64 0, .int .i64 0, .int .i64 0] ∧ Blk W (w.heap.size + 1 + 1 + 1) 4 [.bool false]) ∧ (∀ y ∈ pre, hit y = false) ∧ Below w.heap.size w W) := by
    rintro pre X Y ⟨⟨hb0, hb1, hhp, hho⟩, h1, h2⟩ b
    exact ⟨⟨(b.block _ (by rw [hsz]; omega)).trans hb0, (b.block _ (by rw [hsz]; omega)).trans hb1, (b.block _ (by rw [hsz]; omega)).trans hhp, (b.block _ (by rw [hsz]; omega)).trans hho⟩, h1, h2.trans (b.mono (by rw [hsz]; omega))⟩
  have hIx : ∀ c, StabC w4.heap.size (fun (pre : List PartT) W => c = Code.ret ∧ ∃ q x, pre = q ++ [x] ∧ (∀ y ∈ q, hit y = false) ∧ hit x = true ∧ Blk W (w.heap.size + 1 + 1) 23 (partC x) ∧ Blk W (w.heap.size + 1 + 1 + 1) 4 [.bool true] ∧ Below w.heap.size w W) := by
    rintro c pre X Y ⟨h0, q, x, h1, h2, h3, h4, h5, h6⟩ b
    exact ⟨h0, q, x, h1, h2, h3, (b.block _ (by rw [hsz]; omega)).trans h4, (b.block _ (by rw [hsz]; omega)).trans h5, h6.trans (b.mono (by rw [hsz]; omega))⟩
  refine wpIn_rangeFunc_C rfl (by omega) (gf := 14) (lb := #[]) rfl trivial (enters_of Try.func14 (by kernel_rfl) rfl)
    (parts_seq Fence.wide rfl trivial trivial trivial rfl (5 - 1) w) b0 (fun _ => rfl)
    _ _ hI hIx ⟨⟨k0, k1, k2, k3⟩, fun y hy => absurd hy (by simp), b0⟩
    (BoxP (w.heap.size + 4) (fun x Bx => { tmps := #[.int .i64 kd, .int .i64 nm, .pointer (some ⟨w.heap.size, 0, none⟩), .pointer (some ⟨w.heap.size + 1, 0, none⟩), .pointer (some ⟨w.heap.size + 1 + 1, 0, none⟩), .pointer (some ⟨w.heap.size + 1 + 1 + 1, 0, none⟩), .pointer (some ⟨Bx, 0, none⟩), partV x, undef, undef, undef, undef, undef, undef, undef, undef, undef, undef, undef], defers := [] })) boxP_put ?assign ?body ?done ?stop
  case assign =>
    rintro l pre ⟨k, n, a, s⟩ W K hi hlt hK
    have hi' := hI (s := pre) _ _ hi ((Below.refl w4.heap.size W).alloc hlt (.cells #[.int .i64 k, .int .i64 n, .int .i64 a, .int .i64 s] 23))
    have HI := hid hi'
    clear hi hi'
    simp only [partV, partC]
    gi_wp2
    exact hK _ _ ((KeepUp.refl _ W).alloc _) HI.out ⟨W.heap.size, by rw [hsz] at hlt; exact hlt, heap_alloc_new W _, rfl⟩
  case body =>
    rintro l pre x a' W ⟨⟨hb0, hb1, hhp, hho⟩, hno, hb⟩ ⟨Bx, hBx, hx, rfl⟩ hlt _ hsp
    have hxm : x ∈ partsL := hsp.subset (by simp)
    have hwf := parts_wf x hxm
    clear hxm hsp
    have x0 : W.cell? ⟨Bx, 0, none⟩ = some (.int .i64 x.k) := hx.cell (i := 0) (by simp [partC])
    have x1 : W.cell? ⟨Bx, 1, none⟩ = some (.int .i64 x.n) := hx.cell (i := 1) (by simp [partC])
    have x2 : W.cell? ⟨Bx, 2, none⟩ = some (.int .i64 x.a) := hx.cell (i := 2) (by simp [partC])
    have x3 : W.cell? ⟨Bx, 3, none⟩ = some (.int .i64 x.s) := hx.cell (i := 3) (by simp [partC])
    have k0 : W.cell? ⟨w.heap.size, 0, none⟩ = some (.int .i64 kd) := hb0.cell (i := 0) (by simp)
    have k1 : W.cell? ⟨w.heap.size + 1, 0, none⟩ = some (.int .i64 nm) := hb1.cell (i := 0) (by simp)
    have HX0 := hid hb0; have HX1 := hid hb1
    have p0 : W.cell? ⟨w.heap.size + 1 + 1, 0, none⟩ = some (.int .i64 0) := hhp.cell (i := 0) (by simp)
    have p1 : W.cell? ⟨w.heap.size + 1 + 1, 1, none⟩ = some (.int .i64 0) := hhp.cell (i := 1) (by simp)
    have p2 : W.cell? ⟨w.heap.size + 1 + 1, 2, none⟩ = some (.int .i64 0) := hhp.cell (i := 2) (by simp)
    have p3 : W.cell? ⟨w.heap.size + 1 + 1, 3, none⟩ = some (.int .i64 0) := hhp.cell (i := 3) (by simp)
    have pf0 : W.frozen? ⟨w.heap.size + 1 + 1, 0, none⟩ = false := hhp.frozen 0
    have pf1 : W.frozen? ⟨w.heap.size + 1 + 1, 1, none⟩ = false := hhp.frozen 1
    have pf2 : W.frozen? ⟨w.heap.size + 1 + 1, 2, none⟩ = false := hhp.frozen 2
    have pf3 : W.frozen? ⟨w.heap.size + 1 + 1, 3, none⟩ = false := hhp.frozen 3
    have o0 : W.cell? ⟨w.heap.size + 1 + 1 + 1, 0, none⟩ = some (.bool false) := hho.cell (i := 0) (by simp)
    have of0 : W.frozen? ⟨w.heap.size + 1 + 1 + 1, 0, none⟩ = false := hho.frozen 0
    have HH0 := hid hhp; have HH1 := hid hho; have HNO := hid hno; have HB := hid hb
    clear hb0 hb1 hhp hho hno hb hx
    have E := eqPart4 x.k x.n x.a x.s kd nm x.a x.s
    by_cases hq : x.k = kd ∧ x.n = nm
    · have hh : hit x = true := by rw [HH.out]; exact decide_eq_true hq
      rw [decide_eq_true (by rw [hq.1, hq.2] : [x.k, x.n, x.a, x.s] = [kd, nm, x.a, x.s])] at E
      clear hq
      gi_wp2
      refine ⟨(keep4 (KeepUp.refl _ W) (by rw [hsz]; omega) _ _ _ _).setCell (p := ⟨w.heap.size + 1 + 1 + 1, 0, none⟩) (by rw [hsz]; exact (by omega : w.heap.size + 1 + 1 + 1 < w.heap.size + 4)) _, rfl, pre, x, rfl, HNO.out, hh, ?_, ?_, ?_⟩
      · exact (set4 HH0.out rfl _ _ _ _).setOtherS (by omega) 0 _
      · exact (oth4 HH1.out (by omega) _ _ _ _).set 0 _
      · exact (bel4 HB.out (by omega) _ _ _ _).setCell (p := ⟨w.heap.size + 1 + 1 + 1, 0, none⟩) (show w.heap.size ≤ w.heap.size + 1 + 1 + 1 by omega) _
    · have hh : hit x = false := by rw [HH.out]; exact decide_eq_false hq
      rw [decide_eq_false (fun h => hq (by simp only [List.cons.injEq, and_true] at h; exact h) : ¬ [x.k, x.n, x.a, x.s] = [kd, nm, x.a, x.s])] at E
      clear hq
      gi_wp2
      refine ⟨(KeepUp.refl _ W), ⟨HX0.out, HX1.out, HH0.out, HH1.out⟩, fun y hy => ?_, HB.out⟩
      rcases List.mem_append.1 hy with h | h
      · exact HNO.out y h
      · rw [List.mem_singleton.1 h]; exact hh
  case done =>
    rintro D xs W hD rfl ⟨⟨hb0, hb1, hhp, hho⟩, hno, hb⟩ hk
    have hans : ansP (findP kd nm) = .tuple #[.agg #[.int .i64 0, .int .i64 0, .int .i64 0, .int .i64 0], .bool false] := by
      have : findP kd nm = none := List.find?_eq_none.2 (fun y hy => by have := hno y hy; rw [HH.out] at this; simpa using this)
      rw [this]; rfl
    have HANS := hid hans
    clear hans
    have p0 : W.cell? ⟨w.heap.size + 1 + 1, 0, none⟩ = some (.int .i64 0) := hhp.cell (i := 0) (by simp)
    have pf0 : W.frozen? ⟨w.heap.size + 1 + 1, 0, none⟩ = false := hhp.frozen 0
    have p1 : W.cell? ⟨w.heap.size + 1 + 1, 1, none⟩ = some (.int .i64 0) := hhp.cell (i := 1) (by simp)
    have pf1 : W.frozen? ⟨w.heap.size + 1 + 1, 1, none⟩ = false := hhp.frozen 1
    have p2 : W.cell? ⟨w.heap.size + 1 + 1, 2, none⟩ = some (.int .i64 0) := hhp.cell (i := 2) (by simp)
    have pf2 : W.frozen? ⟨w.heap.size + 1 + 1, 2, none⟩ = false := hhp.frozen 2
    have p3 : W.cell? ⟨w.heap.size + 1 + 1, 3, none⟩ = some (.int .i64 0) := hhp.cell (i := 3) (by simp)
    have pf3 : W.frozen? ⟨w.heap.size + 1 + 1, 3, none⟩ = false := hhp.frozen 3
    have o0 : W.cell? ⟨w.heap.size + 1 + 1 + 1, 0, none⟩ = some (.bool false) := hho.cell (i := 0) (by simp)
    have of0 : W.frozen? ⟨w.heap.size + 1 + 1 + 1, 0, none⟩ = false := hho.frozen 0
    have HH0 := hid hhp; have HH1 := hid hho; have HB := hid hb; have HK := hid hk
    clear hb0 hb1 hhp hho hno hb hk
    gi_wp2
    refine ⟨by simp, .inl ⟨_, _, rfl, run_takeDeferred (ds := []) (by rw [heap5 (by rw [hsz] at hD; omega) (by rw [hsz] at hD; omega)]; exact HK.out), ?_⟩⟩
    refine ⟨_, results_pb rfl rfl rfl ((World.putObj_heap_other (by rw [hsz] at hD; omega)).trans ((set4 HH0.out rfl _ _ _ _).setOtherS (by omega) 0 _)) rfl ((World.putObj_heap_other (by rw [hsz] at hD; omega)).trans ((oth4 HH1.out (by omega) _ _ _ _).set 0 _)), by rw [HANS.out], below_putObjC ((bel4 HB.out (by omega) _ _ _ _).setCell (p := ⟨w.heap.size + 1 + 1 + 1, 0, none⟩) (show w.heap.size ≤ w.heap.size + 1 + 1 + 1 by omega) _) _ (by rw [hsz] at hD; omega)⟩
  case stop =>
    rintro D c pre W hD hsp ⟨rfl, q, x, rfl, hno, hx, hp, ho, hb⟩ hk
    have hans : ansP (findP kd nm) = .tuple #[.agg (partC x).toArray, .bool true] := by
      have : findP kd nm = some x := find_first hsp (fun y hy => by have := hno y hy; rw [HH.out] at this; exact this) (by rw [HH.out] at hx; exact hx)
      rw [this]; rfl
    have HANS := hid hans
    clear hans
    gi_wp2
    refine ⟨by simp, .inl ⟨_, _, rfl, run_takeDeferred hk, ?_⟩⟩
    exact ⟨_, results_pb rfl rfl rfl ((World.putObj_heap_other (by rw [hsz] at hD; omega)).trans hp) rfl ((World.putObj_heap_other (by rw [hsz] at hD; omega)).trans ho), by rw [HANS.out], below_putObjC hb _ (by rw [hsz] at hD; omega)⟩

set_option maxHeartbeats 8000000 in
set_option maxRecDepth 100000 in
theorem of_any (at_ : Int) (w : World) (hat : wfI at_) : Calls Try.prog 10 #[.int .i64 at_] w fun e w' => e = .returned (ansP (ofP at_)) ∧ Below w.heap.size w w' := by
  have hd : Fence.wide.depth = none := rfl
  obtain ⟨w4, hw4⟩ : ∃ w4, w4 = (((w.alloc (.cells #[.int .i64 at_] 3)).alloc (.cells #[.int .i64 0, .int .i64 0, .int .i64 0, .int .i64 0] 23)).alloc (.cells #[.bool false] 4)) := ⟨_, rfl⟩
  have hsz : w4.heap.size = w.heap.size + 3 := by rw [hw4]; simp
  have b0 : Below w.heap.size w w4 := by rw [hw4]; exact ((((Below.refl _ w).alloc (Nat.le_refl _) _).alloc (by simp; try omega) _).alloc (by simp; try omega) _)
  have k0 : Blk w4 (w.heap.size) 3 [.int .i64 at_] := by
    rw [hw4]
    have q : Blk (w.alloc (.cells #[.int .i64 at_] 3)) (w.heap.size) 3 [.int .i64 at_] := by
      have q := heap_alloc_new w (.cells #[.int .i64 at_] 3)
      exact q
    exact ((q.mono ((Below.refl _ _).alloc (Nat.le_refl _) _)).mono ((Below.refl _ _).alloc (Nat.le_refl _) _))
  have k1 : Blk w4 (w.heap.size + 1) 23 [.int .i64 0, .int .i64 0, .int .i64 0, .int .i64 0] := by
    rw [hw4]
    have q : Blk ((w.alloc (.cells #[.int .i64 at_] 3)).alloc (.cells #[.int .i64 0, .int .i64 0, .int .i64 0, .int .i64 0] 23)) (w.heap.size + 1) 23 [.int .i64 0, .int .i64 0, .int .i64 0, .int .i64 0] := by
      have q := heap_alloc_new (w.alloc (.cells #[.int .i64 at_] 3)) (.cells #[.int .i64 0, .int .i64 0, .int .i64 0, .int .i64 0] 23)
      rw [show ((w.alloc (.cells #[.int .i64 at_] 3))).heap.size = w.heap.size + 1 from by simp] at q; exact q
    exact (q.mono ((Below.refl _ _).alloc (Nat.le_refl _) _))
  have k2 : Blk w4 (w.heap.size + 1 + 1) 4 [.bool false] := by
    rw [hw4]
    have q : Blk (((w.alloc (.cells #[.int .i64 at_] 3)).alloc (.cells #[.int .i64 0, .int .i64 0, .int .i64 0, .int .i64 0] 23)).alloc (.cells #[.bool false] 4)) (w.heap.size + 1 + 1) 4 [.bool false] := by
      have q := heap_alloc_new ((w.alloc (.cells #[.int .i64 at_] 3)).alloc (.cells #[.int .i64 0, .int .i64 0, .int .i64 0, .int .i64 0] 23)) (.cells #[.bool false] 4)
      rw [show (((w.alloc (.cells #[.int .i64 at_] 3)).alloc (.cells #[.int .i64 0, .int .i64 0, .int .i64 0, .int .i64 0] 23))).heap.size = w.heap.size + 1 + 1 from by simp] at q; exact q
    exact q
  obtain ⟨hit, hhit⟩ : ∃ hit : PartT → Bool, hit = (fun x => inF x at_ 1) := ⟨_, rfl⟩
  have HH := hid hhit
  clear hhit
  refine (callsIn_wide (n := 5)).1 ?_
  refine callsIn_of_wp_marks Try.func10 rfl trivial ?_ rfl
  simp only [Try.ntmps10, List.size_toArray, List.length_cons, List.length_nil, Nat.reduceAdd, Nat.reduceSub, Array.replicate_succ, Array.replicate_zero, List.push_toArray, List.append_toArray, List.nil_append, List.cons_append]
  gi_wp2
  rw [← hw4]
  clear hw4
  have hI : StabC w4.heap.size (fun (pre : List PartT) W => (Blk W (w.heap.size) 3 [.int .i64 at_] ∧ Blk W (w.heap.size + 1) 23 [.int .i64 0, .int .i64 0, .int .i64 0, .int .i64 0] ∧ Blk W (w.heap.size + 1 + 1) 4 [.bool false]) ∧ (∀ y ∈ pre, hit y = false) ∧ Below w.heap.size w W) := by
    rintro pre X Y ⟨⟨hb0, hhp, hho⟩, h1, h2⟩ b
    exact ⟨⟨(b.block _ (by rw [hsz]; omega)).trans hb0, (b.block _ (by rw [hsz]; omega)).trans hhp, (b.block _ (by rw [hsz]; omega)).trans hho⟩, h1, h2.trans (b.mono (by rw [hsz]; omega))⟩
  have hIx : ∀ c, StabC w4.heap.size (fun (pre : List PartT) W => c = Code.ret ∧ ∃ q x, pre = q ++ [x] ∧ (∀ y ∈ q, hit y = false) ∧ hit x = true ∧ Blk W (w.heap.size + 1) 23 (partC x) ∧ Blk W (w.heap.size + 1 + 1) 4 [.bool true] ∧ Below w.heap.size w W) := by
    rintro c pre X Y ⟨h0, q, x, h1, h2, h3, h4, h5, h6⟩ b
    exact ⟨h0, q, x, h1, h2, h3, (b.block _ (by rw [hsz]; omega)).trans h4, (b.block _ (by rw [hsz]; omega)).trans h5, h6.trans (b.mono (by rw [hsz]; omega))⟩
  refine wpIn_rangeFunc_C rfl (by omega) (gf := 14) (lb := #[]) rfl trivial (enters_of Try.func14 (by kernel_rfl) rfl)
    (parts_seq Fence.wide rfl trivial trivial trivial rfl (5 - 1) w) b0 (fun _ => rfl)
    _ _ hI hIx ⟨⟨k0, k1, k2⟩, fun y hy => absurd hy (by simp), b0⟩
    (BoxP (w.heap.size + 3) (fun x Bx => { tmps := #[.int .i64 at_, .pointer (some ⟨w.heap.size, 0, none⟩), .pointer (some ⟨w.heap.size + 1, 0, none⟩), .pointer (some ⟨w.heap.size + 1 + 1, 0, none⟩), .pointer (some ⟨Bx, 0, none⟩), partV x, undef, undef, undef, undef, undef], defers := [] })) boxP_put ?assign ?body ?done ?stop
  case assign =>
    rintro l pre ⟨k, n, a, s⟩ W K hi hlt hK
    have hi' := hI (s := pre) _ _ hi ((Below.refl w4.heap.size W).alloc hlt (.cells #[.int .i64 k, .int .i64 n, .int .i64 a, .int .i64 s] 23))
    have HI := hid hi'
    clear hi hi'
    simp only [partV, partC]
    gi_wp2
    exact hK _ _ ((KeepUp.refl _ W).alloc _) HI.out ⟨W.heap.size, by rw [hsz] at hlt; exact hlt, heap_alloc_new W _, rfl⟩
  case body =>
    rintro l pre x a' W ⟨⟨hb0, hhp, hho⟩, hno, hb⟩ ⟨Bx, hBx, hx, rfl⟩ hlt _ hsp
    have hxm : x ∈ partsL := hsp.subset (by simp)
    have hwf := parts_wf x hxm
    clear hxm hsp
    have x0 : W.cell? ⟨Bx, 0, none⟩ = some (.int .i64 x.k) := hx.cell (i := 0) (by simp [partC])
    have x1 : W.cell? ⟨Bx, 1, none⟩ = some (.int .i64 x.n) := hx.cell (i := 1) (by simp [partC])
    have x2 : W.cell? ⟨Bx, 2, none⟩ = some (.int .i64 x.a) := hx.cell (i := 2) (by simp [partC])
    have x3 : W.cell? ⟨Bx, 3, none⟩ = some (.int .i64 x.s) := hx.cell (i := 3) (by simp [partC])
    have k0 : W.cell? ⟨w.heap.size, 0, none⟩ = some (.int .i64 at_) := hb0.cell (i := 0) (by simp)
    have HX0 := hid hb0; have HXX := hid hx
    have hin : Calls Try.prog 12 #[.agg #[.int .i64 x.k, .int .i64 x.n, .int .i64 x.a, .int .i64 x.s], .int .i64 at_, .int .i64 1] W fun e w' => e = .returned (.bool (inF x at_ 1)) ∧ Below W.heap.size W w' := in_any x.k x.n x.a x.s at_ 1 W (by unfold wfI; omega) (by unfold wfI; omega) hat (by unfold wfI; omega)
    have HH0 := hid hhp; have HH1 := hid hho; have HNO := hid hno; have HB := hid hb
    clear hb0 hhp hho hno hb hx
    by_cases hq : inF x at_ 1 = true
    · have hh : hit x = true := by rw [HH.out]; exact hq
      rw [hq] at hin
      have HIN := hid hin
      clear hin
      clear hq
      gi_wp2_with ((try refine ⟨trivial, ?_⟩); gi_at_call 12; refine (CallsIn.inRound l (callsIn_wide.2 HIN.out)).mono ?_; rintro e W1 ⟨rfl, b1⟩; have y0 : W1.cell? ⟨Bx, 0, none⟩ = some (.int .i64 x.k) := (HXX.out.mono b1).cell (i := 0) (by simp [partC]); have y1 : W1.cell? ⟨Bx, 1, none⟩ = some (.int .i64 x.n) := (HXX.out.mono b1).cell (i := 1) (by simp [partC]); have y2 : W1.cell? ⟨Bx, 2, none⟩ = some (.int .i64 x.a) := (HXX.out.mono b1).cell (i := 2) (by simp [partC]); have y3 : W1.cell? ⟨Bx, 3, none⟩ = some (.int .i64 x.s) := (HXX.out.mono b1).cell (i := 3) (by simp [partC]); have p0 : W1.cell? ⟨w.heap.size + 1, 0, none⟩ = some (.int .i64 0) := (HH0.out.mono b1).cell (i := 0) (by simp); have pf0 : W1.frozen? ⟨w.heap.size + 1, 0, none⟩ = false := (HH0.out.mono b1).frozen 0; have p1 : W1.cell? ⟨w.heap.size + 1, 1, none⟩ = some (.int .i64 0) := (HH0.out.mono b1).cell (i := 1) (by simp); have pf1 : W1.frozen? ⟨w.heap.size + 1, 1, none⟩ = false := (HH0.out.mono b1).frozen 1; have p2 : W1.cell? ⟨w.heap.size + 1, 2, none⟩ = some (.int .i64 0) := (HH0.out.mono b1).cell (i := 2) (by simp); have pf2 : W1.frozen? ⟨w.heap.size + 1, 2, none⟩ = false := (HH0.out.mono b1).frozen 2; have p3 : W1.cell? ⟨w.heap.size + 1, 3, none⟩ = some (.int .i64 0) := (HH0.out.mono b1).cell (i := 3) (by simp); have pf3 : W1.frozen? ⟨w.heap.size + 1, 3, none⟩ = false := (HH0.out.mono b1).frozen 3; have o0 : W1.cell? ⟨w.heap.size + 1 + 1, 0, none⟩ = some (.bool false) := (HH1.out.mono b1).cell (i := 0) (by simp); have of0 : W1.frozen? ⟨w.heap.size + 1 + 1, 0, none⟩ = false := (HH1.out.mono b1).frozen 0; have B1 := hid b1; clear b1)
      refine ⟨(keep4 (KeepUp.of_below B1.out) (by rw [hsz]; omega) _ _ _ _).setCell (p := ⟨w.heap.size + 1 + 1, 0, none⟩) (by rw [hsz]; exact (by omega : w.heap.size + 1 + 1 < w.heap.size + 3)) _, rfl, pre, x, rfl, HNO.out, hh, ?_, ?_, ?_⟩
      · exact (set4 (HH0.out.mono B1.out) rfl _ _ _ _).setOtherS (by omega) 0 _
      · exact (oth4 (HH1.out.mono B1.out) (by omega) _ _ _ _).set 0 _
      · exact (bel4 (below_trans HB.out B1.out HB.out.size) (by omega) _ _ _ _).setCell (p := ⟨w.heap.size + 1 + 1, 0, none⟩) (show w.heap.size ≤ w.heap.size + 1 + 1 by omega) _
    · have hh : hit x = false := by rw [HH.out]; simpa using hq
      rw [show inF x at_ 1 = false by simpa using hq] at hin
      have HIN := hid hin
      clear hin
      clear hq
      gi_wp2_with ((try refine ⟨trivial, ?_⟩); gi_at_call 12; refine (CallsIn.inRound l (callsIn_wide.2 HIN.out)).mono ?_; rintro e W1 ⟨rfl, b1⟩; have B1 := hid b1; clear b1)
      refine ⟨(KeepUp.of_below B1.out), ⟨HX0.out.mono B1.out, HH0.out.mono B1.out, HH1.out.mono B1.out⟩, fun y hy => ?_, (below_trans HB.out B1.out HB.out.size)⟩
      rcases List.mem_append.1 hy with h | h
      · exact HNO.out y h
      · rw [List.mem_singleton.1 h]; exact hh
  case done =>
    rintro D xs W hD rfl ⟨⟨hb0, hhp, hho⟩, hno, hb⟩ hk
    have hans : ansP (ofP at_) = .tuple #[.agg #[.int .i64 0, .int .i64 0, .int .i64 0, .int .i64 0], .bool false] := by
      have : ofP at_ = none := List.find?_eq_none.2 (fun y hy => by have := hno y hy; rw [HH.out] at this; simpa using this)
      rw [this]; rfl
    have HANS := hid hans
    clear hans
    have p0 : W.cell? ⟨w.heap.size + 1, 0, none⟩ = some (.int .i64 0) := hhp.cell (i := 0) (by simp)
    have pf0 : W.frozen? ⟨w.heap.size + 1, 0, none⟩ = false := hhp.frozen 0
    have p1 : W.cell? ⟨w.heap.size + 1, 1, none⟩ = some (.int .i64 0) := hhp.cell (i := 1) (by simp)
    have pf1 : W.frozen? ⟨w.heap.size + 1, 1, none⟩ = false := hhp.frozen 1
    have p2 : W.cell? ⟨w.heap.size + 1, 2, none⟩ = some (.int .i64 0) := hhp.cell (i := 2) (by simp)
    have pf2 : W.frozen? ⟨w.heap.size + 1, 2, none⟩ = false := hhp.frozen 2
    have p3 : W.cell? ⟨w.heap.size + 1, 3, none⟩ = some (.int .i64 0) := hhp.cell (i := 3) (by simp)
    have pf3 : W.frozen? ⟨w.heap.size + 1, 3, none⟩ = false := hhp.frozen 3
    have o0 : W.cell? ⟨w.heap.size + 1 + 1, 0, none⟩ = some (.bool false) := hho.cell (i := 0) (by simp)
    have of0 : W.frozen? ⟨w.heap.size + 1 + 1, 0, none⟩ = false := hho.frozen 0
    have HH0 := hid hhp; have HH1 := hid hho; have HB := hid hb; have HK := hid hk
    clear hb0 hhp hho hno hb hk
    gi_wp2
    refine ⟨by simp, .inl ⟨_, _, rfl, run_takeDeferred (ds := []) (by rw [heap5 (by rw [hsz] at hD; omega) (by rw [hsz] at hD; omega)]; exact HK.out), ?_⟩⟩
    refine ⟨_, results_pb rfl rfl rfl ((World.putObj_heap_other (by rw [hsz] at hD; omega)).trans ((set4 HH0.out rfl _ _ _ _).setOtherS (by omega) 0 _)) rfl ((World.putObj_heap_other (by rw [hsz] at hD; omega)).trans ((oth4 HH1.out (by omega) _ _ _ _).set 0 _)), by rw [HANS.out], below_putObjC ((bel4 HB.out (by omega) _ _ _ _).setCell (p := ⟨w.heap.size + 1 + 1, 0, none⟩) (show w.heap.size ≤ w.heap.size + 1 + 1 by omega) _) _ (by rw [hsz] at hD; omega)⟩
  case stop =>
    rintro D c pre W hD hsp ⟨rfl, q, x, rfl, hno, hx, hp, ho, hb⟩ hk
    have hans : ansP (ofP at_) = .tuple #[.agg (partC x).toArray, .bool true] := by
      have : ofP at_ = some x := find_first hsp (fun y hy => by have := hno y hy; rw [HH.out] at this; exact this) (by rw [HH.out] at hx; exact hx)
      rw [this]; rfl
    have HANS := hid hans
    clear hans
    gi_wp2
    refine ⟨by simp, .inl ⟨_, _, rfl, run_takeDeferred hk, ?_⟩⟩
    exact ⟨_, results_pb rfl rfl rfl ((World.putObj_heap_other (by rw [hsz] at hD; omega)).trans hp) rfl ((World.putObj_heap_other (by rw [hsz] at hD; omega)).trans ho), by rw [HANS.out], below_putObjC hb _ (by rw [hsz] at hD; omega)⟩

end Go.Proofs.Ytikakpdbokcbnaa
