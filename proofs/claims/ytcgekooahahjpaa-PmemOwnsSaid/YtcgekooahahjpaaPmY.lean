/- Deeds as an argument; a memory's sizes; whatever is asked of a memory. -/
import Derived.Test.YtcgekooahahjpaaPmX
import Derived.Deep.Slices
import Derived.Deep.Fields
import Derived.ChangeSame
namespace Go.Proofs.Ytcgekooahahjpaa
open Go.RowKit Go.WideShapes Go.ChangeShapes Go.Deep
set_option linter.unusedSimpArgs false
set_option linter.unusedVariables false

/-- ints that came in, with their bounds -/
theorem rowI_ofB {w : World} {a : Option Addr} {len cap : Nat} {zs : List Int}
    (h : (a = none ∧ len = 0 ∧ cap = 0 ∧ zs = []) ∨
      ∃ x, a = some x ∧ len ≤ cap ∧ cap ≤ maxLen ∧ zs.length = cap ∧ (∀ i, i < zs.length → w.cell? (x.add i) = some (.int .i64 (zs.getD i 0))) ∧ ∀ n ∈ zs, (Lit.int .i64 n).wf = true) :
    ∃ xs : List Int, len = xs.length ∧ RowI w a cap xs ∧ intsOk xs := by
  rcases h with ⟨rfl, rfl, rfl, _⟩ | ⟨x, rfl, h1, h2, h3, h4, h5⟩
  · exact ⟨[], rfl, Row.nil _ _, fun x hx => by cases hx⟩
  · refine ⟨zs.take len, by simp; omega, ⟨by simp, by simp; omega, h2, (fun h => by cases h), fun hn => ?_⟩, fun n hn => i64_bd (h5 n (List.mem_of_mem_take hn))⟩
    have hn' : 0 < zs.length := by simp at hn; omega
    have c0 := h4 0 hn'
    have hsp : x.spot = none := by
      unfold World.cell? Addr.add at c0
      cases hs : x.spot with
      | none => rfl
      | some q => simp [hs] at c0; split at c0 <;> simp_all
    have hx : x = ⟨x.block, x.off, none⟩ := by cases x; simp at hsp; simp [hsp]
    refine ⟨x.block, x.off, by rw [← hx], World.block_lt_of_cell? w x (u := .int .i64 (zs.getD 0 0)) (by simpa [Addr.add] using c0), fun j u hu => ?_⟩
    have hj : j < (zs.take len).length := by
      have := (List.getElem?_eq_some_iff.1 hu).1
      simpa using this
    have hj2 : j < zs.length := by simp at hj; omega
    have hc := h4 j hj2
    have ea : x.add j = ⟨x.block, x.off + j, none⟩ := by
      unfold Addr.add
      split
      · subst j; rw [Nat.add_zero, ← hx]
      · rfl
    rw [ea] at hc
    rw [hc]
    have hjl : j < len := by simp at hj; omega
    simp [List.getElem?_take, hjl, hj2, iV] at hu
    rw [← hu]; simp [hj2]

/-- a deed as the statement hands it in -/
structure DeedV where
  kind : Int
  at_ : Int
  n : Int
  sa : Option Addr
  sc : Nat
  S : List UInt8
  pa : Option Addr
  pc : Nat
  P : List Int
/-- deeds that can be read -/
def RowD (w : World) (a : Option Addr) (c n : Nat) (f : Nat → DeedV) : Prop :=
  n ≤ c ∧ c ≤ maxLen ∧ (0 < n → ∃ b off, a = some ⟨b, off, none⟩ ∧ b < w.heap.size ∧ ∀ i, i < n → w.cell? ⟨b, off + i * 5, none⟩ = some (.int .i64 (f i).kind) ∧ w.cell? ⟨b, off + i * 5 + 1, none⟩ = some (.int .i64 (f i).at_) ∧ w.cell? ⟨b, off + i * 5 + 2, none⟩ = some (.int .i64 (f i).n) ∧ w.cell? ⟨b, off + i * 5 + 3, none⟩ = some (.slice (f i).sa (f i).S.length (f i).sc) ∧ w.cell? ⟨b, off + i * 5 + 4, none⟩ = some (.slice (f i).pa (f i).P.length (f i).pc)) ∧
    ∀ i, i < n → RowB w (f i).sa (f i).sc (f i).S ∧ RowI w (f i).pa (f i).pc (f i).P ∧ intsOk (f i).P ∧ i64B (f i).at_ ∧ i64B (f i).n
theorem RowD.mono {w w' : World} {a : Option Addr} {c n : Nat} {f : Nat → DeedV} (h : RowD w a c n f) (b : Below w.heap.size w w') : RowD w' a c n f := by
  obtain ⟨h1, h2, h3, h4⟩ := h
  refine ⟨h1, h2, fun hn => ?_, fun i hi => ⟨(h4 i hi).1.mono b, (h4 i hi).2.1.mono b, (h4 i hi).2.2⟩⟩
  obtain ⟨bb, off, e, hlt, hc⟩ := h3 hn
  exact ⟨bb, off, e, Nat.lt_of_lt_of_le hlt b.size, fun i hi => ⟨(b.cell (p := ⟨bb, off + i * 5, none⟩) hlt).trans (hc i hi).1, (b.cell (p := ⟨bb, off + i * 5 + 1, none⟩) hlt).trans (hc i hi).2.1, (b.cell (p := ⟨bb, off + i * 5 + 2, none⟩) hlt).trans (hc i hi).2.2.1, (b.cell (p := ⟨bb, off + i * 5 + 3, none⟩) hlt).trans (hc i hi).2.2.2.1, (b.cell (p := ⟨bb, off + i * 5 + 4, none⟩) hlt).trans (hc i hi).2.2.2.2⟩⟩
theorem row_block {w : World} {sz : Nat} {a : Option Addr} {n c : Nat} {cs : List Value} (h : Row w sz a n c cs) (hn : 0 < n) {b : Nat} (hb : ∃ off, a = some ⟨b, off, none⟩) : b < w.heap.size := by
  obtain ⟨b', off, e, hlt, _⟩ := h.at hn
  obtain ⟨o, ho⟩ := hb
  rw [ho] at e; cases e; exact hlt
/-- a deed that came in lies apart from what the call made -/
theorem RowD.ok {w W : World} {a : Option Addr} {c n : Nat} {f : Nat → DeedV} (h : RowD w a c n f) (b : Below w.heap.size w W) {K : MemK} (hK : K.from w.heap.size) {i : Nat} (hi : i < n) : DeedOk W K (f i).at_ (f i).n (f i).sa (f i).sc (f i).S (f i).pa (f i).pc (f i).P := by
  obtain ⟨r1, r2, r3, r4, r5⟩ := h.2.2.2 i hi
  refine ⟨r4, r5, r1.mono b, r2.mono b, r3, fun hn k hk q => ?_, fun hn k hk q => ?_⟩
  · have := row_block r1 hn hk
    have := MemK.from_le hK k q
    omega
  · have := row_block r2 hn hk
    have := MemK.from_le hK k q
    omega

theorem spot_none03 {w : World} {x : Addr} {n : Int} (h : w.cell? x = some (.int .i64 n)) : x.spot = none := by
  unfold World.cell? at h
  cases hs : x.spot with
  | none => rfl
  | some q => simp [hs] at h; split at h <;> simp_all

theorem open_deeds {H : Type} {enc : TypeId × Value → H} {W : World} {base : Nat} {held : Bool} {a : Option Addr} {n c : Nat} {d : DataW H} {p : List MemPlace}
    (h : DataW.Trod enc Try.prog W base (fun _ => true) held 22 (.slice a n c) d p) : ∃ f, RowD W a c n f := by
  have kC : Try.prog.cellsOf 32 = 5 := by kernel_rfl
  have k1 : Try.prog.cellsOf 3 = 1 := by kernel_rfl
  have k2 : Try.prog.cellsOf 29 = 1 := by kernel_rfl
  have k3 : Try.prog.cellsOf 30 = 1 := by kernel_rfl
  obtain ⟨fuel, hf⟩ := h
  rcases open_slice Try.underlying22 hf with ⟨hcs, _⟩ | ⟨x, len, cap, m, q, D, Pl, hcs, _, hl, hm, hmm, _, hi⟩
  · simp [Value.cells] at hcs
    obtain ⟨rfl, rfl, rfl⟩ := hcs
    exact ⟨fun _ => ⟨0, 0, 0, none, 0, [], none, 0, []⟩, Nat.le_refl _, Nat.zero_le _, fun h => absurd h (by omega), fun i h => absurd h (by omega)⟩
  · simp [Value.cells] at hcs
    obtain ⟨rfl, rfl, rfl⟩ := hcs
    have hnm : n ≤ m := by rw [hmm]; split <;> omega
    have one : ∀ i, ∃ v : DeedV, i < n → W.cell? ((x.add (i * 5)).add 0) = some (.int .i64 v.kind) ∧ W.cell? ((x.add (i * 5)).add 1) = some (.int .i64 v.at_) ∧ W.cell? ((x.add (i * 5)).add 2) = some (.int .i64 v.n) ∧ W.cell? ((x.add (i * 5)).add 3) = some (.slice v.sa v.S.length v.sc) ∧ W.cell? ((x.add (i * 5)).add 4) = some (.slice v.pa v.P.length v.pc) ∧
        (RowB W v.sa v.sc v.S ∧ RowI W v.pa v.pc v.P ∧ intsOk v.P ∧ i64B v.at_ ∧ i64B v.n) := by
      intro i
      by_cases hlt : i < n
      · obtain ⟨cs', hc, ht⟩ := hi i (by omega)
        rw [kC] at hc
        obtain ⟨_, hlen, hat⟩ := World.cells?_some hc
        obtain ⟨ys, r, _, _, _, hyl, hg⟩ := DataW.trod_struct Try.underlying32 ht
        have hyl' : ys.length = 5 := hyl
        match cs', hlen with
        | [u0, u1, u2, u3, u4], _ =>
          have g0 := hg 0 _ rfl
          have g1 := hg 1 _ rfl
          have g2 := hg 2 _ rfl
          have g3 := hg 3 _ rfl
          have g4 := hg 4 _ rfl
          simp [k1, k2, k3] at g0 g1 g2 g3 g4
          rw [List.getElem?_eq_getElem (by omega)] at g0 g1 g2 g3 g4
          obtain ⟨t0, e0, _, w0⟩ := DataW.trod_int Try.underlying3 g0
          obtain ⟨t1, e1, _, w1⟩ := DataW.trod_int Try.underlying3 g1
          obtain ⟨t2, e2, _, w2⟩ := DataW.trod_int Try.underlying3 g2
          simp only [List.cons.injEq, and_true] at e0 e1 e2
          subst e0 e1 e2
          have a0 := hat 0 (by omega)
          have a1 := hat 1 (by omega)
          have a2 := hat 2 (by omega)
          have a3 := hat 3 (by omega)
          have a4 := hat 4 (by omega)
          simp at a0 a1 a2 a3 a4
          obtain ⟨sa, sc, S, s1, s2⟩ : ∃ sa sc S, u3 = .slice sa (List.length S) sc ∧ RowB W sa sc S := by
            rcases open_ints Try.underlying29 Try.underlying5 (by kernel_rfl) g3 with ⟨hcs, _⟩ | ⟨y, l, c', zs, hcs, _, hl', hm', hz', _, hcell, hwz⟩
            · simp at hcs
              exact ⟨none, 0, [], hcs, Row.nil _ _⟩
            · simp at hcs
              obtain ⟨S, e1, hr⟩ := rowB_of (w := W) (a := some y) (len := l) (cap := c') (zs := zs) (.inr ⟨_, rfl, hl', hm', by simpa using hz', hcell, hwz⟩)
              exact ⟨some y, c', S, by rw [hcs, e1], hr⟩
          obtain ⟨pa, pc, P, p1, p2, p3⟩ : ∃ pa pc P, u4 = .slice pa (List.length P) pc ∧ RowI W pa pc P ∧ intsOk P := by
            rcases open_ints Try.underlying30 Try.underlying3 (by kernel_rfl) g4 with ⟨hcs, _⟩ | ⟨y, l, c', zs, hcs, _, hl', hm', hz', _, hcell, hwz⟩
            · simp at hcs
              exact ⟨none, 0, [], hcs, Row.nil _ _, fun x hx => by cases hx⟩
            · simp at hcs
              obtain ⟨P, e1, hr, ho⟩ := rowI_ofB (w := W) (a := some y) (len := l) (cap := c') (zs := zs) (.inr ⟨_, rfl, hl', hm', by simpa using hz', hcell, hwz⟩)
              exact ⟨some y, c', P, by rw [hcs, e1], hr, ho⟩
          exact ⟨⟨t0, t1, t2, sa, sc, S, pa, pc, P⟩, fun _ => ⟨a0, a1, a2, by rw [a3, s1], by rw [a4, p1], s2, p2, p3, i64_bd w1, i64_bd w2⟩⟩
      · exact ⟨⟨0, 0, 0, none, 0, [], none, 0, []⟩, fun h => absurd h hlt⟩
    obtain ⟨f, hf⟩ := Classical.skolem.1 one
    refine ⟨f, hl, hm, fun hn => ?_, fun i hi => (hf i hi).2.2.2.2.2⟩
    have hq := (hf 0 hn).1
    rw [Nat.zero_mul, show x.add 0 = x from by unfold Addr.add; simp, show x.add 0 = x from by unfold Addr.add; simp] at hq
    have hsp := spot_none03 hq
    obtain ⟨b, off, sp⟩ := x
    simp at hsp
    subst hsp
    refine ⟨b, off, rfl, World.block_lt_of_cell? W _ hq, fun i hi => ?_⟩
    have h0 := (hf i hi).1
    have h1 := (hf i hi).2.1
    have h2 := (hf i hi).2.2.1
    have h3 := (hf i hi).2.2.2.1
    have h4 := (hf i hi).2.2.2.2.1
    rw [Addr.add_mid, Addr.add_mid] at h0 h1 h2 h3 h4
    exact ⟨h0, h1, h2, h3, h4⟩

set_option maxHeartbeats 4000000 in
theorem PmemSizes_walk (w : World) (n : Int) (wn : (Lit.int .i64 n).wf = true) :
    Calls Try.prog 4 #[.int .i64 n] w fun e w' => e = .returned (.bool true) ∧ Below w.heap.size w w' := by
  have hn := i64_bd wn
  have HNew := hid (newM_any n w hn)
  clear wn
  by_cases h : validM n
  · have hN : Hid (Calls Try.prog 9 #[.int .i64 n] w fun e w' => ∃ g v d p, e = .returned (.pointer (some ⟨g, 0, none⟩)) ∧ MemP w' g v d p (newM n.toNat) ∧ (w.heap.size ≤ g ∧ w.heap.size ≤ v ∧ w.heap.size ≤ d ∧ w.heap.size ≤ p) ∧ Below w.heap.size w w') := HNew.out.mono fun e w' z => by
      unfold NewP at z; rw [if_pos h] at z; exact z
    obtain ⟨h1, h2, h3⟩ := h
    have d1 : decide (64 ≤ n) = true := decide_eq_true h1
    have d2 : decide (n ≤ 1048576) = true := decide_eq_true h2
    have e1 : n.tmod 64 = 0 := by rw [Int.tmod_eq_emod_of_nonneg (by omega)]; exact h3
    have hz : IntKind.i64.wrap 0 = 0 := rfl
    have hl : ((newM n.toNat).V.length : Int) = n := by simp [newM]; omega
    have HLN := hid hl
    clear HNew h3 hl
    go_enter Try.func4, Try.ntmps4
    go_wp2_with fail
    refine hN.out.mono ?_
    rintro e w1 ⟨g, v, d, p, rfl, m1, _, b1⟩
    have hs := size_any m1
    rw [HLN.out] at hs
    have HS := hid hs
    have B1 := hid b1
    clear b1 m1 hs
    go_wp2_with fail
    refine HS.out.mono ?_
    rintro e w2 ⟨rfl, rfl⟩
    go_wp2_with fail
    refine (lives_any _).mono ?_
    rintro e w3 ⟨rfl, b3⟩
    have B3 := hid (kept_trans B1.out b3)
    clear b3
    go_wp2_with fail
    go_ret
    exact ⟨rfl, B3.out⟩
  · have hN : Hid (Calls Try.prog 9 #[.int .i64 n] w fun e w' => e = .returned (.pointer none) ∧ w = w') := HNew.out.mono fun e w' z => by
      unfold NewP at z; rw [if_neg h] at z; exact z
    clear HNew
    have fin : ∀ _ : True, True := fun _ => trivial
    by_cases h1 : 64 ≤ n
    · have d1 : decide (64 ≤ n) = true := decide_eq_true h1
      by_cases h2 : n ≤ 1048576
      · have d2 : decide (n ≤ 1048576) = true := decide_eq_true h2
        have h3 : ¬ n % 64 = 0 := fun q => h ⟨h1, h2, q⟩
        have e1 : n.tmod 64 = n % 64 := Int.tmod_eq_emod_of_nonneg (by omega)
        have e2 : IntKind.i64.wrap (n % 64) = n % 64 := IntWalk.i64_in _ (by omega)
        clear h
        generalize n % 64 = r at *
        have d3 : (r == 0) = false := by simpa using h3
        clear h3
        go_enter Try.func4, Try.ntmps4
        go_wp2_with fail
        refine hN.out.mono ?_
        rintro e w1 ⟨rfl, rfl⟩
        go_wp2_with fail
        refine (lives_any _).mono ?_
        rintro e w3 ⟨rfl, b3⟩
        go_wp2_with fail
        go_ret
        exact ⟨rfl, b3⟩
      · have d2 : decide (n ≤ 1048576) = false := decide_eq_false h2
        go_enter Try.func4, Try.ntmps4
        go_wp2_with fail
        refine hN.out.mono ?_
        rintro e w1 ⟨rfl, rfl⟩
        go_wp2_with fail
        refine (lives_any _).mono ?_
        rintro e w3 ⟨rfl, b3⟩
        go_wp2_with fail
        go_ret
        exact ⟨rfl, b3⟩
    · have d1 : decide (64 ≤ n) = false := decide_eq_false h1
      go_enter Try.func4, Try.ntmps4
      go_wp2_with fail
      refine hN.out.mono ?_
      rintro e w1 ⟨rfl, rfl⟩
      go_wp2_with fail
      refine (lives_any _).mono ?_
      rintro e w3 ⟨rfl, b3⟩
      go_wp2_with fail
      go_ret
      exact ⟨rfl, b3⟩
end Go.Proofs.Ytcgekooahahjpaa
