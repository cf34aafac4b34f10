/- A directory's table: Place. -/
import Derived.Test.YtejfkjfidhdfaaaDirB
namespace Go.Proofs.Ytejfkjfidhdfaaa
open Go.RowKit Go.Shelf
set_option linter.unusedSimpArgs false
set_option linter.unusedVariables false
attribute [local go_sem] Oper.semAt_some

set_option maxHeartbeats 4000000 in
theorem eqEntD (a b : ByteArray) (i j : Int) (w : World) : (Op.equalIn 10000 24 (.agg #[.string a, .int .i64 i]) (.agg #[.string b, .int .i64 j])).run Try.prog w = .ok (decide (a = b ∧ i = j)) w := by
  have u3 := Try.underlying3
  have a3 := Try.isAgg3
  have z3 := Try.sizeOf3
  have u9 := Try.underlying9
  have a9 := Try.isAgg9
  have z9 := Try.sizeOf9
  have hS : Try.prog.underlying 24 = some (.struct (Try.prog.fieldsOf 24)) := by kernel_rfl
  have hp : Try.prog.stoodInHeld 24 = false := by kernel_rfl
  rw [show (10000 : Nat) = 9999 + 1 from rfl, run_equalIn_agg w 9999 24 _ _ hS hp]
  simp only [Program.fieldsOf, Try.underlying24]
  have he := eq_strD a b
  by_cases h0 : a = b
  · rw [decide_eq_true h0] at he
    go_simp
    by_cases h1 : i = j <;> simp [h0, h1]
  · rw [decide_eq_false h0] at he
    go_simp
    try simp [h0]

/-- an entry that is none -/
def freeT (t : List EntT) (x : Nat) : Bool := decide ((t.getD x ⟨⟨#[]⟩, 0⟩).nm = ⟨#[]⟩ ∧ (t.getD x ⟨⟨#[]⟩, 0⟩).ino = 0)
def placeT (t : List EntT) (s : ByteArray) : Int := ansT ((placesP (hashF s.data.toList)).find? (freeT t))

set_option maxHeartbeats 4000000 in
set_option maxRecDepth 100000 in
theorem placeT_any (t : List EntT) (s : ByteArray) (ht : t.length = 16) (hs : s.size ≤ 1000) (w : World) :
    Calls Try.prog 14 #[.agg (tabC t).toArray, .string s] w fun e w' => e = .returned (.int .i64 (placeT t s)) ∧ Below w.heap.size w w' := by
  have hd : Fence.wide.depth = none := rfl
  refine (callsIn_wide (n := 5)).1 ?_
  refine callsIn_of_wp_marks Try.func14 rfl trivial ?_ rfl
  simp only [Try.ntmps14, List.size_toArray, List.length_cons, List.length_nil, Nat.reduceAdd, Nat.reduceSub, Array.replicate_succ, Array.replicate_zero, List.push_toArray, List.append_toArray, List.nil_append, List.cons_append]
  gi_wp2_with ((try refine ⟨trivial, ?_⟩); gi_at_call 32; refine (callsIn_wide.2 (places_any s _)).mono ?_; rintro e w4 ⟨rfl, hw4⟩)
  have hsz : w4.heap.size = w.heap.size + 3 := by rw [hw4]; simp
  have b0 : Below w.heap.size w w4 := by rw [hw4]; exact (((Below.refl _ w).alloc (Nat.le_refl _) _).alloc (by simp; try omega) _).alloc (by simp; try omega) _
  have k0 : Blk w4 w.heap.size 26 (tabC t) := by rw [hw4]; exact ((blk_newD rfl _ (tabC t)).mono (albD _ _)).mono (albD _ _)
  have k2 : Blk w4 (w.heap.size + 1) 3 [.int .i64 0] := by rw [hw4]; exact (blk_newD (by simp) _ [.int .i64 0]).mono (albD _ _)
  have k3 : Blk w4 (w.heap.size + 1 + 1) 9 [.string s] := by rw [hw4]; exact blk_newD (by simp) _ [.string s]
  have hpt : ((w.alloc (.cells (tabC t).toArray 26)).alloc (.cells #[.int .i64 0] 3)).heap.size = w.heap.size + 1 + 1 := by simp
  try rw [← hw4]
  try rw [hpt]
  clear hw4
  obtain ⟨hit, hhit⟩ : ∃ hit : Nat → Bool, hit = freeT t := ⟨_, rfl⟩
  have HH := hid hhit
  clear hhit
  have hI : StabC w4.heap.size (fun (pre : List Nat) W => (Blk W w.heap.size 26 (tabC t) ∧ Blk W (w.heap.size + 1) 3 [.int .i64 0]) ∧ (∀ y ∈ pre, hit y = false) ∧ Below w.heap.size w W) := by
    rintro pre X Y ⟨⟨hb0, hho⟩, h1, h2⟩ b
    exact ⟨⟨(b.block _ (by rw [hsz]; omega)).trans hb0, (b.block _ (by rw [hsz]; omega)).trans hho⟩, h1, h2.trans (b.mono (by rw [hsz]; omega))⟩
  have hIx : ∀ c, StabC w4.heap.size (fun (pre : List Nat) W => c = Code.ret ∧ ∃ (q : List Nat) (x : Nat), pre = q ++ [x] ∧ (∀ y ∈ q, hit y = false) ∧ hit x = true ∧ Blk W (w.heap.size + 1) 3 [.int .i64 (x : Int)] ∧ Below w.heap.size w W) := by
    rintro c pre X Y ⟨h0, q, x, h1, h2, h3, h4, h6⟩ b
    exact ⟨h0, q, x, h1, h2, h3, (b.block _ (by rw [hsz]; omega)).trans h4, h6.trans (b.mono (by rw [hsz]; omega))⟩
  refine wpIn_rangeFunc_C rfl (by omega) (gf := 39) (lb := #[.pointer (some ⟨w.heap.size + 1 + 1, 0, none⟩)]) rfl trivial (enters_of Try.func39 (by kernel_rfl) rfl)
    (places_seq (5 - 1) w4 s hs _ k3) (Below.refl _ _) (fun _ => rfl)
    _ _ hI hIx ⟨⟨k0, k2⟩, fun y hy => absurd hy (by simp), b0⟩
    (fun (x : Nat) (a' : Act) (W : World) => a' = { tmps := #[.agg (tabC t).toArray, .string s, .pointer (some ⟨w.heap.size, 0, none⟩), undef, .pointer (some ⟨w.heap.size + 1, 0, none⟩), .int .i64 (x : Int), .string s, .func (.func 39) #[] #[.pointer (some ⟨w.heap.size + 1 + 1, 0, none⟩)], .int .i64 (x : Int), undef, undef, undef, undef, undef, undef], defers := [] }) (fun _ _ _ _ _ _ h _ => h) ?assign ?body ?done ?stop
  case assign =>
    rintro l pre x W K hi hlt hK
    have HI := hid hi
    clear hi
    gi_wp2
    exact hK _ _ (KeepUp.refl _ W) HI.out rfl
  case body =>
    rintro l pre x a' W ⟨⟨hb0, hho⟩, hno, hb⟩ rfl hlt _ hsp
    have hx := placesP_lt (hashF s.data.toList) x (hsp.subset (by simp))
    clear hsp
    have hxt : x < t.length := by omega
    have hge : t.getD x ⟨⟨#[]⟩, 0⟩ = t[x] := by simp [hxt]
    have x0 : W.cell? ⟨w.heap.size, x * 2, none⟩ = some (.string t[x].nm) := by
      have q := (tabC_get t x hxt).1
      obtain ⟨hq, hv⟩ := List.getElem?_eq_some_iff.1 q
      rw [Nat.mul_comm x 2, hb0.cell (i := 2 * x) hq, hv]
    have x1 : W.cell? ⟨w.heap.size, x * 2 + 1, none⟩ = some (.int .i64 t[x].ino) := by
      have q := (tabC_get t x hxt).2
      obtain ⟨hq, hv⟩ := List.getElem?_eq_some_iff.1 q
      rw [Nat.mul_comm x 2, hb0.cell (i := 2 * x + 1) hq, hv]
    have hhit : freeT t x = decide (t[x].nm = ⟨#[]⟩ ∧ t[x].ino = 0) := by unfold freeT; rw [hge]
    have E := eqEntD t[x].nm ⟨#[]⟩ t[x].ino 0
    generalize t[x].ino = ino at *
    generalize t[x].nm = nm at *
    clear hge
    have o0 : W.cell? ⟨w.heap.size + 1, 0, none⟩ = some (.int .i64 0) := hho.cell (i := 0) (by simp)
    have of0 : W.frozen? ⟨w.heap.size + 1, 0, none⟩ = false := hho.frozen 0
    have HH0 := hid hb0; have HH2 := hid hho; have HNO := hid hno; have HB := hid hb
    clear hb0 hho hno hb
    have HHT := hid hhit
    clear hhit
    have hx16 : (x : Int) < 16 := by omega
    by_cases hq : nm = ⟨#[]⟩ ∧ ino = 0
    · rw [decide_eq_true hq] at E
      have hh : hit x = true := by rw [HH.out, HHT.out]; exact decide_eq_true hq
      clear hq
      gi_wp2
      refine ⟨(KeepUp.refl _ W).setCell (p := ⟨w.heap.size + 1, 0, none⟩) (by rw [hsz]; exact (by omega : w.heap.size + 1 < w.heap.size + 3)) _, rfl, pre, x, rfl, HNO.out, hh, HH2.out.set 0 _, HB.out.setCell (p := ⟨w.heap.size + 1, 0, none⟩) (show w.heap.size ≤ w.heap.size + 1 by omega) _⟩
    · rw [decide_eq_false hq] at E
      have hh : hit x = false := by rw [HH.out, HHT.out]; exact decide_eq_false hq
      clear hq
      gi_wp2
      refine ⟨(KeepUp.refl _ W), ⟨HH0.out, HH2.out⟩, fun y hy => ?_, HB.out⟩
      rcases List.mem_append.1 hy with h | h
      · exact HNO.out y h
      · rw [List.mem_singleton.1 h]; exact hh
  case done =>
    rintro D xs W hD rfl ⟨⟨hb0, hho⟩, hno, hb⟩ hk
    have hans : placeT t s = -1 := by
      have : (placesP (hashF s.data.toList)).find? (freeT t) = none := List.find?_eq_none.2 (fun y hy => by have := hno y hy; rw [HH.out] at this; rw [this]; simp)
      unfold placeT
      rw [this]; rfl
    have HANS := hid hans
    clear hans
    have o0 : W.cell? ⟨w.heap.size + 1, 0, none⟩ = some (.int .i64 0) := hho.cell (i := 0) (by simp)
    have of0 : W.frozen? ⟨w.heap.size + 1, 0, none⟩ = false := hho.frozen 0
    have HH2 := hid hho; have HB := hid hb; have HK := hid hk
    clear hb0 hho hno hb hk
    gi_wp2
    refine ⟨by simp, .inl ⟨_, _, rfl, run_takeDeferred (ds := []) ((Below.heap_setCell _ _ _ _ (by rw [hsz] at hD; exact (by omega : D ≠ w.heap.size + 1))).trans HK.out), ?_⟩⟩
    exact ⟨_, results_icD rfl rfl ((World.putObj_heap_other (by rw [hsz] at hD; omega)).trans (HH2.out.set 0 _)), by rw [HANS.out], below_putObjC (HB.out.setCell (p := ⟨w.heap.size + 1, 0, none⟩) (show w.heap.size ≤ w.heap.size + 1 by omega) _) _ (by rw [hsz] at hD; omega)⟩
  case stop =>
    rintro D c pre W hD hsp ⟨rfl, q, x, rfl, hno, hx, ho, hb⟩ hk
    have hans : placeT t s = (x : Int) := by
      have : (placesP (hashF s.data.toList)).find? (freeT t) = some x := find_firstD hsp (fun y hy => by have := hno y hy; rw [HH.out] at this; exact this) (by rw [HH.out] at hx; exact hx)
      unfold placeT
      rw [this]; rfl
    have HANS := hid hans
    clear hans
    gi_wp2
    refine ⟨by simp, .inl ⟨_, _, rfl, run_takeDeferred hk, ?_⟩⟩
    exact ⟨_, results_icD rfl rfl ((World.putObj_heap_other (by rw [hsz] at hD; omega)).trans ho), by rw [HANS.out], below_putObjC hb _ (by rw [hsz] at hD; omega)⟩

end Go.Proofs.Ytejfkjfidhdfaaa
