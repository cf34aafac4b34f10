import Derived.Test.YtpiebklgpehafaaClockA
import Derived.Deep.RegionWith
namespace Go.Proofs.Ytpiebklgpehafaa
open Go.RowKit Go.WideShapes
set_option linter.unusedSimpArgs false
set_option linter.unusedVariables false

/-- whatever was there stays, but two blocks -/
structure Keep (h g : Nat) (w w' : World) : Prop where
  os : w'.os = w.os
  tape : w'.tape = w.tape
  output : w'.output = w.output
  size : w.heap.size ≤ w'.heap.size
  block : ∀ k, k < w.heap.size → k ≠ h → k ≠ g → w'.heap[k]? = w.heap[k]?
theorem Keep.refl (h g : Nat) (w : World) : Keep h g w w := ⟨rfl, rfl, rfl, Nat.le_refl _, fun _ _ _ _ => rfl⟩
theorem Keep.trans {h g : Nat} {w w1 w2 : World} (a : Keep h g w w1) (b : Keep h g w1 w2) : Keep h g w w2 :=
  ⟨b.os.trans a.os, b.tape.trans a.tape, b.output.trans a.output, Nat.le_trans a.size b.size, fun k hk h1 h2 => (b.block k (Nat.lt_of_lt_of_le hk a.size) h1 h2).trans (a.block k hk h1 h2)⟩
theorem Keep.of_below {h g : Nat} {w w' : World} (b : Below w.heap.size w w') : Keep h g w w' := ⟨b.os, b.tape, b.output, b.size, fun k hk _ _ => b.block k hk⟩
theorem Keep.of_grownH {h g : Nat} {w w' : World} (b : w.grownBy w' (some h)) : Keep h g w w' := ⟨b.os, b.tape, b.output, b.size, fun k hk h1 _ => b.block k hk (by simpa using h1)⟩
theorem Keep.of_grownG {h g : Nat} {w w' : World} (b : w.grownBy w' (some g)) : Keep h g w w' := ⟨b.os, b.tape, b.output, b.size, fun k hk _ h1 => b.block k hk (by simpa using h1)⟩
theorem grownC_set {w w' : World} {h : Nat} (g : w.grownBy w' (some h)) (i : Nat) (v : Value) : w.grownBy (w'.setCell ⟨h, i, none⟩ v) (some h) :=
  ⟨g.os, g.tape, g.output, by simp [World.setCell]; exact g.size, fun k hk hne => by
    rw [Below.heap_setCell _ _ _ _ (by rintro rfl; exact hne rfl)]; exact g.block k hk hne⟩
theorem grownC_refl (w : World) (r : Option Nat) : w.grownBy w r := ⟨rfl, rfl, rfl, Nat.le_refl _, fun _ _ _ => rfl⟩
theorem Keep.setH {h g : Nat} {w w' : World} (a : Keep h g w w') (i : Nat) (v : Value) : Keep h g w (w'.setCell ⟨h, i, none⟩ v) := a.trans (Keep.of_grownH (grownC_set (grownC_refl _ _) i v))
theorem Keep.setG {h g : Nat} {w w' : World} (a : Keep h g w w') (i : Nat) (v : Value) : Keep h g w (w'.setCell ⟨g, i, none⟩ v) := a.trans (Keep.of_grownG (grownC_set (grownC_refl _ _) i v))
theorem Keep.blk {h g k : Nat} {w w' : World} {e : TypeId} {L : List Value} (a : Keep h g w w') (b : Blk w k e L) (h1 : k ≠ h) (h2 : k ≠ g) : Blk w' k e L := (a.block k b.lt h1 h2).trans b
theorem Keep.cell {h g : Nat} {w w' : World} (a : Keep h g w w') {p : Addr} (hp : p.block < w.heap.size) (h1 : p.block ≠ h) (h2 : p.block ≠ g) : w'.cell? p = w.cell? p := World.cell?_of_block (w := w) (a.block p.block hp h1 h2)
/-- a slice that lies apart from two blocks -/
def Apart (a : Option Addr) (n h g : Nat) : Prop := 0 < n → ∀ b off, a = some ⟨b, off, none⟩ → b ≠ h ∧ b ≠ g
theorem apart_of {w : World} {sz n c h g : Nat} {a : Option Addr} {cs : List Value} (r : Row w sz a n c cs) (h1 : w.heap.size ≤ h) (h2 : w.heap.size ≤ g) : Apart a n h g := fun hn b off e => by
  obtain ⟨b', off', e', hlt, _⟩ := r.at hn
  rw [e] at e'
  cases e'
  omega
theorem Keep.row {h g : Nat} {w w' : World} (k : Keep h g w w') {sz : Nat} {a : Option Addr} {n c : Nat} {cs : List Value} (r : Row w sz a n c cs) (hap : Apart a n h g) : Row w' sz a n c cs := by
  obtain ⟨h1, h2, h3, h4, h5⟩ := r
  refine ⟨h1, h2, h3, h4, fun hn => ?_⟩
  obtain ⟨b, off, e, hlt, hc⟩ := h5 hn
  obtain ⟨n1, n2⟩ := hap hn b off e
  exact ⟨b, off, e, Nat.lt_of_lt_of_le hlt k.size, fun j u hu => (k.cell (p := ⟨b, off + j, none⟩) hlt n1 n2).trans (hc j u hu)⟩
theorem Keep.below {h g B : Nat} {w0 w w' : World} (b : Below B w0 w) (k : Keep h g w w') (hh : B ≤ h) (hg : B ≤ g) (hB : B ≤ w.heap.size) : Below B w0 w' :=
  b.trans ⟨k.os, k.tape, k.output, k.size, fun i hi => k.block i (by omega) (by omega) (by omega)⟩
theorem Keep.drew {h g : Nat} {w w' : World} (a : Keep h g w w') : Keep h g w w'.drew := ⟨a.os, a.tape, a.output, a.size, a.block⟩

/-- n ints -/
def arr (n : Nat) (f : Nat → Int) : List Value := (List.range n).map fun i => Value.int .i64 (f i)
theorem arr_length (n : Nat) (f : Nat → Int) : (arr n f).length = n := by simp [arr]
theorem arr_get (n : Nat) (f : Nat → Int) {i : Nat} (h : i < n) : (arr n f)[i]'(by rw [arr_length]; exact h) = .int .i64 (f i) := by simp [arr]
theorem arr_congr {n : Nat} {f f' : Nat → Int} (h : ∀ i, i < n → f i = f' i) : arr n f = arr n f' := by
  unfold arr; apply List.map_congr_left; intro i hi; rw [h i (by simpa using hi)]
theorem arr_set {n : Nat} {f f' : Nat → Int} {j : Nat} {v : Int} (hj : j < n) (h : ∀ i, i < n → f' i = if i = j then v else f i) : (arr n f).set j (.int .i64 v) = arr n f' := by
  apply List.ext_getElem
  · simp [arr]
  · intro i h1 h2
    rw [List.getElem_set]
    have hi : i < n := by simpa [arr] using h2
    by_cases e : j = i
    · subst e; simp [arr, h j hj]
    · simp [arr, h i hi, e]
      intro x; exact absurd x.symm e

theorem arr_zero (m : Nat) : arr m (fun _ => 0) = List.replicate m (.int .i64 0) := by
  unfold arr
  rw [List.eq_replicate_iff]
  exact ⟨by simp, fun b hb => by obtain ⟨i, _, rfl⟩ := List.mem_map.1 hb; rfl⟩

/-- clocks in memory: their block, the block of the eighths -/
structure Clk (w : World) (h g n : Nat) (T : Int) (E : Nat → Int) (l : Bool) : Prop where
  b : Blk w h 42 [.int .i64 T, .slice (some ⟨g, 0, none⟩) n n, .bool l]
  e : Blk w g 3 (arr n E)
  ne : h ≠ g
  n9 : 1 ≤ n ∧ n ≤ 9
  t : 0 ≤ T ∧ T ≤ 1099511627776
  bd : ∀ i, i < n → 0 ≤ E i ∧ E i ≤ 16 * T
theorem Clk.keep {w w' : World} {h g n h' g' : Nat} {T : Int} {E : Nat → Int} {l : Bool} (k : Clk w h g n T E l) (a : Keep h' g' w w') (n1 : h ≠ h') (n2 : h ≠ g') (n3 : g ≠ h') (n4 : g ≠ g') : Clk w' h g n T E l :=
  ⟨a.blk k.b n1 n2, a.blk k.e n3 n4, k.ne, k.n9, k.t, k.bd⟩
theorem Clk.below {w w' : World} {h g n : Nat} {T : Int} {E : Nat → Int} {l : Bool} (k : Clk w h g n T E l) (a : Below w.heap.size w w') : Clk w' h g n T E l :=
  ⟨k.b.mono a, k.e.mono a, k.ne, k.n9, k.t, k.bd⟩
theorem Clk.c0 {w : World} {h g n : Nat} {T : Int} {E : Nat → Int} {l : Bool} (k : Clk w h g n T E l) : w.cell? ⟨h, 0, none⟩ = some (.int .i64 T) := Blk.cell k.b (i := 0) (by simp)
theorem Clk.c1 {w : World} {h g n : Nat} {T : Int} {E : Nat → Int} {l : Bool} (k : Clk w h g n T E l) : w.cell? ⟨h, 1, none⟩ = some (.slice (some ⟨g, 0, none⟩) n n) := Blk.cell k.b (i := 1) (by simp)
theorem Clk.c2 {w : World} {h g n : Nat} {T : Int} {E : Nat → Int} {l : Bool} (k : Clk w h g n T E l) : w.cell? ⟨h, 2, none⟩ = some (.bool l) := Blk.cell k.b (i := 2) (by simp)
theorem Clk.ce {w : World} {h g n : Nat} {T : Int} {E : Nat → Int} {l : Bool} (k : Clk w h g n T E l) {i : Nat} (hi : i < n) : w.cell? ⟨g, i, none⟩ = some (.int .i64 (E i)) := by
  rw [Blk.cell k.e (i := i) (by rw [arr_length]; exact hi), arr_get n E hi]

set_option maxHeartbeats 1000000 in
theorem new_any (n : Int) (w : World) :
    Calls Try.prog 7 #[.int .i64 n] w fun e w' =>
      (¬ (1 ≤ n ∧ n ≤ 9) ∧ e = .returned (.pointer none) ∧ w = w') ∨
      (1 ≤ n ∧ n ≤ 9) ∧ ∃ h g, e = .returned (.pointer (some ⟨h, 0, none⟩)) ∧ Clk w' h g n.toNat 0 (fun _ => 0) false ∧ w.heap.size ≤ h ∧ w.heap.size ≤ g ∧ h < w'.heap.size ∧ g < w'.heap.size ∧ Below w.heap.size w w' := by
  rcases (by omega : n < 1 ∨ (1 ≤ n ∧ 9 < n) ∨ (1 ≤ n ∧ n ≤ 9)) with h1 | ⟨h1, h2⟩ | ⟨h1, h2⟩
  · go_enter Try.func7, Try.ntmps7
    go_wp2
    go_ret
    exact .inl ⟨by omega, rfl, rfl⟩
  · go_enter Try.func7, Try.ntmps7
    go_wp2
    go_ret
    exact .inl ⟨by omega, rfl, rfl⟩
  · obtain ⟨m, rfl⟩ := Int.eq_ofNat_of_zero_le (by omega : 0 ≤ n)
    go_enter Try.func7, Try.ntmps7
    go_wp2_with (first
      | (at_make; refine wpl_make rfl (.tmp 9) (.tmp 9) rfl Try.underlying30 (bytes := 8) (z := .int .i64 0) (by kernel_rfl) rfl rfl rfl rfl rfl (by omega) (by omega) ?_; intro w1 k1 b1))
    go_ret
    have ba : Below w.heap.size w (w1.alloc (.cells #[.int .i64 0, .slice (some ⟨w.heap.size, 0, none⟩) m m, .bool false] 42)) := b1.alloc b1.size _
    have hlt : w.heap.size < w1.heap.size := k1.lt
    refine .inr ⟨⟨h1, h2⟩, w1.heap.size, w.heap.size, rfl, ⟨?_, ?_, by omega, by simp; omega, by simp, by simp⟩, by omega, Nat.le_refl _, by simp, by simp; omega, ba⟩
    · rw [Int.toNat_natCast]; exact heap_alloc_new w1 _
    · rw [Int.toNat_natCast, arr_zero]; exact Blk.mono k1 ((Below.refl _ _).alloc (Nat.le_refl _) _)

theorem true_any (h g n : Nat) (T : Int) (E : Nat → Int) (l : Bool) (w : World) (k : Clk w h g n T E l) :
    Calls Try.prog 13 #[.pointer (some ⟨h, 0, none⟩)] w fun e w' => e = .returned (.int .i64 T) ∧ w = w' := by
  have c0 := k.c0
  clear k
  go_enter Try.func13, Try.ntmps13
  go_wp2
  go_ret
  exact ⟨rfl, rfl⟩

theorem kept_any (h g n : Nat) (T : Int) (E : Nat → Int) (l : Bool) (w : World) (k : Clk w h g n T E l) :
    Calls Try.prog 14 #[.pointer (some ⟨h, 0, none⟩)] w fun e w' => e = .returned (.bool (!l)) ∧ w = w' := by
  have c0 := k.c2
  clear k
  go_enter Try.func14, Try.ntmps14
  go_wp2
  go_ret
  exact ⟨rfl, rfl⟩

/-- what is shown -/
def shown (n : Nat) (E : Nat → Int) (k : Int) : Int := if 0 ≤ k ∧ k < n then E k.toNat / 8 else 0

set_option maxHeartbeats 1000000 in
theorem show_any (h g n : Nat) (T : Int) (E : Nat → Int) (l : Bool) (i : Int) (w : World) (k : Clk w h g n T E l) :
    Calls Try.prog 15 #[.pointer (some ⟨h, 0, none⟩), .int .i64 i] w fun e w' => e = .returned (.int .i64 (shown n E i)) ∧ w = w' := by
  have c1 := k.c1
  have hn := k.n9
  have ht := k.t
  rcases (by omega : i < 0 ∨ (0 ≤ i ∧ (n : Int) ≤ i) ∨ (0 ≤ i ∧ i < n)) with h1 | ⟨h1, h2⟩ | ⟨h1, h2⟩
  · have hs : shown n E i = 0 := if_neg (by omega)
    rw [hs]
    clear hs k
    go_enter Try.func15, Try.ntmps15
    go_wp2
    go_ret
    exact ⟨rfl, rfl⟩
  · have hs : shown n E i = 0 := if_neg (by omega)
    rw [hs]
    clear hs k
    go_enter Try.func15, Try.ntmps15
    go_wp2
    go_ret
    exact ⟨rfl, rfl⟩
  · obtain ⟨m, rfl⟩ := Int.eq_ofNat_of_zero_le h1
    have hs : shown n E m = E m / 8 := if_pos ⟨h1, h2⟩
    rw [hs]
    have ce := k.ce (show m < n by omega)
    have hb := k.bd m (by omega)
    clear hs k
    generalize E m = x at *
    go_enter Try.func15, Try.ntmps15
    go_wp2
    go_ret
    exact ⟨rfl, rfl⟩

end Go.Proofs.Ytpiebklgpehafaa
