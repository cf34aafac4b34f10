/- A directory's table: Find. -/
import Derived.Test.YtejfkjfidhdfaaaDirA
import Derived.Sort.QuietIn
import Derived.BigRegionIn
import Derived.Laws.StructEq
import Derived.Shelf.Abstract
namespace Go.Proofs.Ytejfkjfidhdfaaa
open Go.RowKit Go.Shelf
set_option linter.unusedSimpArgs false
set_option linter.unusedVariables false
attribute [local go_sem] Oper.semAt_some

structure EntT where
  nm : ByteArray
  ino : Int
def entC (e : EntT) : List Value := [.string e.nm, .int .i64 e.ino]
def tabC (t : List EntT) : List Value := t.flatMap entC
theorem tabC_get (t : List EntT) : ∀ i, (h : i < t.length) → (tabC t)[2 * i]? = some (.string t[i].nm) ∧ (tabC t)[2 * i + 1]? = some (.int .i64 t[i].ino) := by
  induction t with
  | nil => intro i h; cases h
  | cons e r ih =>
    intro i h
    cases i with
    | zero => exact ⟨rfl, rfl⟩
    | succ k =>
      have := ih k (by simpa using h)
      rw [show 2 * (k + 1) = 2 * k + 1 + 1 by omega]
      exact this
theorem tabC_len (t : List EntT) : (tabC t).length = 2 * t.length := by
  induction t with
  | nil => rfl
  | cons e r ih => show (entC e ++ tabC r).length = _; rw [List.length_append, ih]; simp [entC]; omega

theorem isEmpty_t : (⟨#[]⟩ : ByteArray).toList.isEmpty = true := by
  rw [← decide_eq_emptyBytes]; exact decide_eq_true rfl
theorem places_any (s : ByteArray) (w : World) :
    Calls Try.prog 32 #[.string s] w fun e w' => e = .returned (.func (.func 39) #[] #[.pointer (some ⟨w.heap.size, 0, none⟩)]) ∧ w' = w.alloc (.cells #[.string s] 9) := by
  go_enter Try.func32, Try.ntmps32
  go_wp2
  go_ret
  exact ⟨rfl, rfl⟩

/-- where a name stands -/
def hitT (t : List EntT) (s : ByteArray) (x : Nat) : Bool := decide ((t.getD x ⟨⟨#[]⟩, 0⟩).nm = s)
def ansT (o : Option Nat) : Int := match o with | none => -1 | some x => x
def findT (t : List EntT) (s : ByteArray) : Int := if s = ⟨#[]⟩ then -1 else ansT ((placesP (hashF s.data.toList)).find? (hitT t s))

theorem isEmpty_fD {s : ByteArray} (h : ¬ s = ⟨#[]⟩) : s.toList.isEmpty = false := by
  rw [← decide_eq_emptyBytes]; exact decide_eq_false h

theorem results_icD {fn : Func} {c : Tmp} (h : fn.results = #[.cell c 3]) {tmps : Array Value} {w : World} {g : Nat} {e : TypeId} {v : Int} (hc : tmps.getD c undef = .pointer (some ⟨g, 0, none⟩)) (hb : Blk w g e [.int .i64 v]) :
    (results fn tmps).run Try.prog w = .ok (.int .i64 v) w := by
  have hc' : tmps[c]?.getD undef = .pointer (some ⟨g, 0, none⟩) := by simpa using hc
  have z : w.cell? ⟨g, 0, none⟩ = some (.int .i64 v) := hb.cell (i := 0) (by simp)
  have ub := Try.underlying3
  have ib : (Try.prog.info? 3).map (·.size) = some 1 := by kernel_rfl
  have hv2 : (loadVar 3 ⟨g, 0, none⟩).run Try.prog w = .ok (.int .i64 v) w := by go_simp
  simp [results, h, hc', asAddr, hv2]
theorem find_firstD {α : Type} {p : α → Bool} {l q : List α} {x : α} (h : q ++ [x] <+: l) (hq : ∀ y ∈ q, p y = false) (hx : p x = true) : l.find? p = some x := by
  obtain ⟨r, rfl⟩ := h
  rw [List.append_assoc, List.find?_append]
  have : q.find? p = none := List.find?_eq_none.2 (fun y hy => by rw [hq y hy]; simp)
  rw [this]
  simp [hx]
theorem blk_newD {W : World} {n : Nat} (h : W.heap.size = n) (e : TypeId) (L : List Value) : Blk (W.alloc (.cells L.toArray e)) n e L := by subst h; exact heap_alloc_new W _
theorem albD (W : World) (o : Obj) : Below W.heap.size W (W.alloc o) := (Below.refl _ W).alloc (Nat.le_refl _) o

theorem eq_strD (a b : ByteArray) : (a.toList == b.toList) = decide (a = b) := by
  by_cases h : a = b
  · subst h; simp
  · rw [decide_eq_false h]
    exact beq_eq_false_iff_ne.2 (fun q => h (by rw [ByteArray.toList_eq, ByteArray.toList_eq] at q; exact ByteArray.ext (Array.toList_inj.1 q)))

set_option maxHeartbeats 4000000 in
set_option maxRecDepth 100000 in
theorem findT_any (t : List EntT) (s : ByteArray) (ht : t.length = 16) (hs : s.size ≤ 1000) (w : World) :
    Calls Try.prog 12 #[.agg (tabC t).toArray, .string s] w fun e w' => e = .returned (.int .i64 (findT t s)) ∧ Below w.heap.size w w' := by
  have hd : Fence.wide.depth = none := rfl
  by_cases hs0 : s = ⟨#[]⟩
  · have hans : findT t s = -1 := if_pos hs0
    rw [hans]
    subst hs0
    clear hans hs ht hd
    have het := isEmpty_t
    go_enter Try.func12, Try.ntmps12
    go_wp2
    refine bodyPost_ret (results_icD rfl rfl (blk_newD (n := w.heap.size + 1 + 1) (by simp) _ [.int .i64 (-1)])) rfl ⟨rfl, (((Below.refl _ w).alloc (Nat.le_refl _) _).alloc (by simp; try omega) _).alloc (by simp; try omega) _⟩
  have he := isEmpty_fD hs0
  obtain ⟨w3, hw3⟩ : ∃ w3, w3 = (((w.alloc (.cells (tabC t).toArray 26)).alloc (.cells #[.string s] 9)).alloc (.cells #[.int .i64 0] 3)) := ⟨_, rfl⟩
  refine (callsIn_wide (n := 5)).1 ?_
  refine callsIn_of_wp_marks Try.func12 rfl trivial ?_ rfl
  simp only [Try.ntmps12, List.size_toArray, List.length_cons, List.length_nil, Nat.reduceAdd, Nat.reduceSub, Array.replicate_succ, Array.replicate_zero, List.push_toArray, List.append_toArray, List.nil_append, List.cons_append]
  gi_wp2_with ((try refine ⟨trivial, ?_⟩); gi_at_call 32; refine (callsIn_wide.2 (places_any s _)).mono ?_; rintro e w4 ⟨rfl, hw4⟩)
  have hsz : w4.heap.size = w.heap.size + 4 := by rw [hw4]; simp
  have b0 : Below w.heap.size w w4 := by rw [hw4]; exact ((((Below.refl _ w).alloc (Nat.le_refl _) _).alloc (by simp; try omega) _).alloc (by simp; try omega) _).alloc (by simp; try omega) _
  have k0 : Blk w4 w.heap.size 26 (tabC t) := by rw [hw4]; exact (((blk_newD rfl _ (tabC t)).mono (albD _ _)).mono (albD _ _)).mono (albD _ _)
  have k1 : Blk w4 (w.heap.size + 1) 9 [.string s] := by rw [hw4]; exact ((blk_newD (by simp) _ [.string s]).mono (albD _ _)).mono (albD _ _)
  have k2 : Blk w4 (w.heap.size + 1 + 1) 3 [.int .i64 0] := by rw [hw4]; exact (blk_newD (by simp) _ [.int .i64 0]).mono (albD _ _)
  have k3 : Blk w4 (w.heap.size + 1 + 1 + 1) 9 [.string s] := by rw [hw4]; exact blk_newD (by simp) _ [.string s]
  have hpt : (((w.alloc (.cells (tabC t).toArray 26)).alloc (.cells #[.string s] 9)).alloc (.cells #[.int .i64 0] 3)).heap.size = w.heap.size + 1 + 1 + 1 := by simp
  try rw [← hw4]
  try rw [hpt]
  clear hw3 hw4 w3
  obtain ⟨hit, hhit⟩ : ∃ hit : Nat → Bool, hit = hitT t s := ⟨_, rfl⟩
  have HH := hid hhit
  clear hhit
  have hI : StabC w4.heap.size (fun (pre : List Nat) W => (Blk W w.heap.size 26 (tabC t) ∧ Blk W (w.heap.size + 1) 9 [.string s] ∧ Blk W (w.heap.size + 1 + 1) 3 [.int .i64 0]) ∧ (∀ y ∈ pre, hit y = false) ∧ Below w.heap.size w W) := by
    rintro pre X Y ⟨⟨hb0, hb1, hho⟩, h1, h2⟩ b
    exact ⟨⟨(b.block _ (by rw [hsz]; omega)).trans hb0, (b.block _ (by rw [hsz]; omega)).trans hb1, (b.block _ (by rw [hsz]; omega)).trans hho⟩, h1, h2.trans (b.mono (by rw [hsz]; omega))⟩
  have hIx : ∀ c, StabC w4.heap.size (fun (pre : List Nat) W => c = Code.ret ∧ ∃ (q : List Nat) (x : Nat), pre = q ++ [x] ∧ (∀ y ∈ q, hit y = false) ∧ hit x = true ∧ Blk W (w.heap.size + 1 + 1) 3 [.int .i64 (x : Int)] ∧ Below w.heap.size w W) := by
    rintro c pre X Y ⟨h0, q, x, h1, h2, h3, h4, h6⟩ b
    exact ⟨h0, q, x, h1, h2, h3, (b.block _ (by rw [hsz]; omega)).trans h4, h6.trans (b.mono (by rw [hsz]; omega))⟩
  refine wpIn_rangeFunc_C rfl (by omega) (gf := 39) (lb := #[.pointer (some ⟨w.heap.size + 1 + 1 + 1, 0, none⟩)]) rfl trivial (enters_of Try.func39 (by kernel_rfl) rfl)
    (places_seq (5 - 1) w4 s hs _ k3) (Below.refl _ _) (fun _ => rfl)
    _ _ hI hIx ⟨⟨k0, k1, k2⟩, fun y hy => absurd hy (by simp), b0⟩
    (fun (x : Nat) (a' : Act) (W : World) => a' = { tmps := #[.agg (tabC t).toArray, .string s, .pointer (some ⟨w.heap.size, 0, none⟩), .pointer (some ⟨w.heap.size + 1, 0, none⟩), .pointer (some ⟨w.heap.size + 1 + 1, 0, none⟩), .int .i64 (x : Int), .string s, .bool false, .string s, .func (.func 39) #[] #[.pointer (some ⟨w.heap.size + 1 + 1 + 1, 0, none⟩)], .int .i64 (x : Int), undef, undef, undef, undef, undef, undef, undef], defers := [] }) (fun _ _ _ _ _ _ h _ => h) ?assign ?body ?done ?stop
  case assign =>
    rintro l pre x W K hi hlt hK
    have HI := hid hi
    clear hi
    gi_wp2
    exact hK _ _ (KeepUp.refl _ W) HI.out rfl
  case body =>
    rintro l pre x a' W ⟨⟨hb0, hb1, hho⟩, hno, hb⟩ rfl hlt _ hsp
    have hx := placesP_lt (hashF s.data.toList) x (hsp.subset (by simp))
    clear hsp
    have hxt : x < t.length := by omega
    have hge : t.getD x ⟨⟨#[]⟩, 0⟩ = t[x] := by simp [hxt]
    have x0 : W.cell? ⟨w.heap.size, x * 2, none⟩ = some (.string t[x].nm) := by
      have q := (tabC_get t x hxt).1
      obtain ⟨hq, hv⟩ := List.getElem?_eq_some_iff.1 q
      rw [Nat.mul_comm x 2, hb0.cell (i := 2 * x) hq, hv]
    have hhit : hitT t s x = decide (t[x].nm = s) := by unfold hitT; rw [hge]
    have hst := eq_strD t[x].nm s
    generalize t[x].nm = nm at *
    clear hge
    have s0 : W.cell? ⟨w.heap.size + 1, 0, none⟩ = some (.string s) := hb1.cell (i := 0) (by simp)
    have o0 : W.cell? ⟨w.heap.size + 1 + 1, 0, none⟩ = some (.int .i64 0) := hho.cell (i := 0) (by simp)
    have of0 : W.frozen? ⟨w.heap.size + 1 + 1, 0, none⟩ = false := hho.frozen 0
    have HH0 := hid hb0; have HH1 := hid hb1; have HH2 := hid hho; have HNO := hid hno; have HB := hid hb
    clear hb0 hb1 hho hno hb
    have HHT := hid hhit
    clear hhit
    have hx16 : (x : Int) < 16 := by omega
    by_cases hq : nm = s
    · rw [decide_eq_true hq] at hst
      have hh : hit x = true := by rw [HH.out, HHT.out]; exact decide_eq_true hq
      clear hq
      gi_wp2
      gi_region
      all_goals
        simp only [Exit.then]
        go_at_K
        gi_wp2
      all_goals
        refine ⟨((KeepUp.refl _ W).setCell (p := ⟨w.heap.size + 1 + 1, 0, none⟩) (by rw [hsz]; exact (by omega : w.heap.size + 1 + 1 < w.heap.size + 4)) _).drew, rfl, pre, x, rfl, HNO.out, hh, HH2.out.set 0 _, (HB.out.setCell (p := ⟨w.heap.size + 1 + 1, 0, none⟩) (show w.heap.size ≤ w.heap.size + 1 + 1 by omega) _).drew⟩
    · rw [decide_eq_false hq] at hst
      have hh : hit x = false := by rw [HH.out, HHT.out]; exact decide_eq_false hq
      clear hq
      gi_wp2
      gi_region
      all_goals
        simp only [Exit.then]
        go_at_K
        gi_wp2
      all_goals
        refine ⟨(KeepUp.refl _ W).drew, ⟨HH0.out, HH1.out, HH2.out⟩, fun y hy => ?_, HB.out.drew⟩
        rcases List.mem_append.1 hy with h | h
        · exact HNO.out y h
        · rw [List.mem_singleton.1 h]; exact hh
  case done =>
    rintro D xs W hD rfl ⟨⟨hb0, hb1, hho⟩, hno, hb⟩ hk
    have hans : findT t s = -1 := by
      have : (placesP (hashF s.data.toList)).find? (hitT t s) = none := List.find?_eq_none.2 (fun y hy => by have := hno y hy; rw [HH.out] at this; rw [this]; simp)
      unfold findT
      rw [if_neg hs0, this]; rfl
    have HANS := hid hans
    clear hans
    have o0 : W.cell? ⟨w.heap.size + 1 + 1, 0, none⟩ = some (.int .i64 0) := hho.cell (i := 0) (by simp)
    have of0 : W.frozen? ⟨w.heap.size + 1 + 1, 0, none⟩ = false := hho.frozen 0
    have HH2 := hid hho; have HB := hid hb; have HK := hid hk
    clear hb0 hb1 hho hno hb hk
    gi_wp2
    refine ⟨by simp, .inl ⟨_, _, rfl, run_takeDeferred (ds := []) ((Below.heap_setCell _ _ _ _ (by rw [hsz] at hD; exact (by omega : D ≠ w.heap.size + 1 + 1))).trans HK.out), ?_⟩⟩
    exact ⟨_, results_icD rfl rfl ((World.putObj_heap_other (by rw [hsz] at hD; omega)).trans (HH2.out.set 0 _)), by rw [HANS.out], below_putObjC (HB.out.setCell (p := ⟨w.heap.size + 1 + 1, 0, none⟩) (show w.heap.size ≤ w.heap.size + 1 + 1 by omega) _) _ (by rw [hsz] at hD; omega)⟩
  case stop =>
    rintro D c pre W hD hsp ⟨rfl, q, x, rfl, hno, hx, ho, hb⟩ hk
    have hans : findT t s = (x : Int) := by
      have : (placesP (hashF s.data.toList)).find? (hitT t s) = some x := find_firstD hsp (fun y hy => by have := hno y hy; rw [HH.out] at this; exact this) (by rw [HH.out] at hx; exact hx)
      unfold findT
      rw [if_neg hs0, this]; rfl
    have HANS := hid hans
    clear hans
    gi_wp2
    refine ⟨by simp, .inl ⟨_, _, rfl, run_takeDeferred hk, ?_⟩⟩
    exact ⟨_, results_icD rfl rfl ((World.putObj_heap_other (by rw [hsz] at hD; omega)).trans ho), by rw [HANS.out], below_putObjC hb _ (by rw [hsz] at hD; omega)⟩

end Go.Proofs.Ytejfkjfidhdfaaa
