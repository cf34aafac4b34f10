import Derived.Test.YtngfpndikjbioaaClogU
import Derived.Test.YtngfpndikjbioaaClogE
import Derived.Lib.SmallJoins
import Derived.Laws.Rows
namespace Go.Proofs.Ytngfpndikjbioaa
open Go.RowKit Go.ChangeShapes Go.WideShapes Go.Joins
set_option linter.unusedSimpArgs false
set_option linter.unusedVariables false

theorem array5 {α : Type} {cs : Array α} (h : cs.size = 5) : ∃ a b c d e, cs = #[a, b, c, d, e] := by
  obtain ⟨l⟩ := cs
  match l, h with
  | [a, b, c, d, e], _ => exact ⟨a, b, c, d, e, rfl⟩
theorem trod_at16 {α : Type} {o : Option α} {l : List α} {j : Nat} (h : o = l[j]?) (hj : j < l.length) : ∃ y, o = some y := ⟨_, h.trans (List.getElem?_eq_getElem hj)⟩

theorem open_record {H : Type} {enc : TypeId × Value → H} {W : World} {base base' : Nat} {spare : Nat → Bool} {held : Bool} {v : Value} {d : DataW H} {p : List MemPlace}
    (hv : Value.okWide Try.prog W .any base' 23 v) (h : DataW.Trod enc Try.prog W base spare held 23 v d p) :
    ∃ (c i : Int) (t : Bool) (o : Int) (s : ByteArray), v = recV c i t o s := by
  obtain ⟨cs, rfl, hsz⟩ := okWide_struct Try.underlying23 hv
  have k5 : Try.prog.cellsOf 23 = 5 := by kernel_rfl
  have k1 : Try.prog.cellsOf 3 = 1 := by kernel_rfl
  have k2 : Try.prog.cellsOf 4 = 1 := by kernel_rfl
  have k3 : Try.prog.cellsOf 9 = 1 := by kernel_rfl
  obtain ⟨c0, c1, c2, c3, c4, rfl⟩ := array5 (hsz.trans k5)
  obtain ⟨fuel, hf⟩ := h
  obtain ⟨xs, n, _, hx, hl, hlen, hf⟩ := DataW.trod_struct Try.underlying23 hf
  have hlen' : xs.length = 5 := hlen
  obtain ⟨y0, h0⟩ := trod_at16 (hf 0 _ rfl) (by omega)
  obtain ⟨y1, h1⟩ := trod_at16 (hf 1 _ rfl) (by omega)
  obtain ⟨y2, h2⟩ := trod_at16 (hf 2 _ rfl) (by omega)
  obtain ⟨y3, h3⟩ := trod_at16 (hf 3 _ rfl) (by omega)
  obtain ⟨y4, h4⟩ := trod_at16 (hf 4 _ rfl) (by omega)
  simp [Value.cells, k1, k2, k3] at h0 h1 h2 h3 h4
  obtain ⟨n0, e0, _, w0⟩ := DataW.trod_int Try.underlying3 h0
  obtain ⟨n1, e1, _, w1⟩ := DataW.trod_int Try.underlying3 h1
  obtain ⟨n2, e2, _⟩ := DataW.trod_bool Try.underlying4 h2
  obtain ⟨n3, e3, _, w3⟩ := DataW.trod_int Try.underlying3 h3
  obtain ⟨n4, e4, _⟩ := DataW.trod_string Try.underlying9 h4
  simp only [List.cons.injEq, and_true] at e0 e1 e2 e3 e4
  subst e0 e1 e2 e3 e4
  exact ⟨n0, n1, n2, n3, n4, rfl⟩

theorem results_rec {fn : Func} {c : Tmp} (h : fn.results = #[.cell c 23]) {tmps : Array Value} {w : World} {g : Nat} {L : List Value} (hc : tmps.getD c undef = .pointer (some ⟨g, 0, none⟩)) (hb : Blk w g 23 L) (hl : L.length = 5) :
    (results fn tmps).run Try.prog w = .ok (.agg L.toArray) w := by
  have hv := run_loadVar_row (P := Try.prog) w g 23 23 L.toArray (0, 0) _ hb Try.underlying23 rfl (by
    have : (Try.prog.info? 23).map (·.size) = some 5 := by kernel_rfl
    rw [this]; simp [hl])
  have hc' : tmps[c]?.getD undef = .pointer (some ⟨g, 0, none⟩) := by simpa using hc
  simp [results, h, hc', asAddr, hv]

theorem blk2 (w : World) (o : Obj) (L : List Value) : Blk ((w.alloc o).alloc (.cells L.toArray 23)) (w.heap.size + 1) 23 L := by
  have := heap_alloc_new (w.alloc o) (.cells L.toArray 23)
  rw [show (w.alloc o).heap.size = w.heap.size + 1 from by simp] at this
  exact this
theorem set5 {w : World} {g : Nat} {L : List Value} (h : Blk w g 23 L) (hl : L.length = 5) (v0 v1 v2 v3 v4 : Value) :
    Blk (((((w.setCell ⟨g, 0, none⟩ v0).setCell ⟨g, 1, none⟩ v1).setCell ⟨g, 2, none⟩ v2).setCell ⟨g, 3, none⟩ v3).setCell ⟨g, 4, none⟩ v4) g 23 [v0, v1, v2, v3, v4] := by
  match L, hl with
  | [a, b, c, d, e], _ => exact ((((h.set 0 v0).set 1 v1).set 2 v2).set 3 v3).set 4 v4
theorem bel5 {w0 w : World} {B g : Nat} (h : Below B w0 w) (hg : B ≤ g) (v0 v1 v2 v3 v4 : Value) :
    Below B w0 (((((w.setCell ⟨g, 0, none⟩ v0).setCell ⟨g, 1, none⟩ v1).setCell ⟨g, 2, none⟩ v2).setCell ⟨g, 3, none⟩ v3).setCell ⟨g, 4, none⟩ v4) :=
  ((((h.setCell hg v0).setCell hg v1).setCell hg v2).setCell hg v3).setCell hg v4

set_option maxHeartbeats 1000000 in
theorem cut_any (c i : Int) (t : Bool) (o : Int) (s : ByteArray) (w : World) :
    Calls Try.prog 9 #[recV c i t o s] w fun en w' => (∃ s' : ByteArray, en = .returned (recV c i t o s')) ∧ Below w.heap.size w w' := by
  unfold recV
  by_cases h : 80 < s.size
  · go_enter Try.func9, Try.ntmps9
    go_wp2_with fail
    refine bodyPost_ret (results_rec rfl rfl (blk2 w _ _) rfl) rfl ⟨⟨_, rfl⟩, ((Below.refl _ w).alloc (Nat.le_refl _) _).alloc (by simp) _⟩
  · go_enter Try.func9, Try.ntmps9
    go_wp2_with fail
    refine bodyPost_ret (results_rec rfl rfl (blk2 w _ _) rfl) rfl ⟨⟨_, rfl⟩, ((Below.refl _ w).alloc (Nat.le_refl _) _).alloc (by simp) _⟩

set_option maxHeartbeats 2000000 in
theorem ClogEncodes_walk (w : World) (c i : Int) (t : Bool) (o : Int) (s : ByteArray) :
    Calls Try.prog 3 #[recV c i t o s] w fun e w' => e = .returned (.bool true) ∧ Below w.heap.size w w' := by
  have HC := hid (fun w1 => cut_any c i t o s w1)
  have HP := hid (fun s' w1 => enc_any c i t o s' w1)
  have HR := hid (fun s' w1 => encRef_any c i t o s' w1)
  unfold recV at *
  go_enter Try.func3, Try.ntmps3
  go_wp2_with fail
  have K0 : Blk (w.alloc (.cells #[.int .i64 c, .int .i64 i, .bool t, .int .i64 o, .string s] 23)) w.heap.size 23 [.int .i64 c, .int .i64 i, .bool t, .int .i64 o, .string s] := heap_alloc_new w _
  refine (HC.out _).mono ?_
  rintro en w1 ⟨⟨s', rfl⟩, b1⟩
  have K1 := Blk.mono K0 b1
  have B1 := below_trans ((Below.refl _ w).alloc (Nat.le_refl _) _) b1 (by simp)
  have zk0 : w1.cell? ⟨w.heap.size, 0, none⟩ = some (.int .i64 c) := Blk.cell K1 (i := 0) (by simp)
  have zk1 : w1.cell? ⟨w.heap.size, 1, none⟩ = some (.int .i64 i) := Blk.cell K1 (i := 1) (by simp)
  have zk2 : w1.cell? ⟨w.heap.size, 2, none⟩ = some (.bool t) := Blk.cell K1 (i := 2) (by simp)
  have zk3 : w1.cell? ⟨w.heap.size, 3, none⟩ = some (.int .i64 o) := Blk.cell K1 (i := 3) (by simp)
  have zk4 : w1.cell? ⟨w.heap.size, 4, none⟩ = some (.string s) := Blk.cell K1 (i := 4) (by simp)
  have zf0 : w1.frozen? ⟨w.heap.size, 0, none⟩ = false := Blk.frozen K1 0
  have zf1 : w1.frozen? ⟨w.heap.size, 1, none⟩ = false := Blk.frozen K1 1
  have zf2 : w1.frozen? ⟨w.heap.size, 2, none⟩ = false := Blk.frozen K1 2
  have zf3 : w1.frozen? ⟨w.heap.size, 3, none⟩ = false := Blk.frozen K1 3
  have zf4 : w1.frozen? ⟨w.heap.size, 4, none⟩ = false := Blk.frozen K1 4
  have HK := hid (set5 K1 rfl (.int .i64 c) (.int .i64 i) (.bool t) (.int .i64 o) (.string s'))
  have HBB := hid (bel5 B1 (Nat.le_refl _) (.int .i64 c) (.int .i64 i) (.bool t) (.int .i64 o) (.string s'))
  clear K0 K1 B1 b1 HC
  have HPs := hid (HP.out s'); have HRs := hid (HR.out s')
  clear HP HR
  generalize (if recMay c i t o s' = true then (0 : Int) else 1) = ern at *
  generalize recL c i t o s' = L at *
  go_wp2_with fail
  have K2 := HK.out
  have B2 := HBB.out
  clear HK HBB zk0 zf0 zk1 zf1 zk2 zf2 zk3 zf3 zk4 zf4
  generalize World.setCell _ _ _ = w2 at *
  refine (HPs.out w2).mono ?_
  rintro en w3 ⟨a3, c3, rfl, o3, b3⟩
  have K3 := Blk.mono K2 b3
  have B3 := below_trans B2 b3 B2.size
  have r3 := o3.row
  have gk0 : w3.cell? ⟨w.heap.size, 0, none⟩ = some (.int .i64 c) := Blk.cell K3 (i := 0) (by simp)
  have gk1 : w3.cell? ⟨w.heap.size, 1, none⟩ = some (.int .i64 i) := Blk.cell K3 (i := 1) (by simp)
  have gk2 : w3.cell? ⟨w.heap.size, 2, none⟩ = some (.bool t) := Blk.cell K3 (i := 2) (by simp)
  have gk3 : w3.cell? ⟨w.heap.size, 3, none⟩ = some (.int .i64 o) := Blk.cell K3 (i := 3) (by simp)
  have gk4 : w3.cell? ⟨w.heap.size, 4, none⟩ = some (.string s') := Blk.cell K3 (i := 4) (by simp)
  clear K2 K3 B2 b3 o3
  go_wp2_with fail
  refine (HRs.out w3).mono ?_
  rintro en w4 ⟨a4, c4, rfl, o4, b4⟩
  have B4 := below_trans B3 b4 B3.size
  have hhl := rowB_len r3
  clear gk0 gk1 gk2 gk3 gk4
  go_wp2_with fail
  refine (same_any a3 a4 c3 c4 _ _ w4 (r3.mono b4) o4.row hhl hhl).mono ?_
  rintro en w5 ⟨rfl, b5⟩
  have B5 := below_trans B4 b5 B4.size
  rw [decide_eq_true rfl]
  clear o4 r3 b4 b5 B3 B4 hhl
  go_wp2_with fail
  refine (lives16_any w5).mono ?_
  rintro en w10 ⟨rfl, rfl⟩
  go_wp2_with fail
  go_ret
  exact ⟨rfl, B5⟩

end Go.Proofs.Ytngfpndikjbioaa
