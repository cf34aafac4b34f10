/- Deeds as an argument; whatever happens to a bag. -/
import Derived.Test.YtgigadjohjpdkaaNetR
import Derived.Deep.Slices
import Derived.Deep.Fields
import Derived.ChangeSame
namespace Go.Proofs.Ytgigadjohjpdkaa
open Go.RowKit Go.WideShapes Go.ChangeShapes Go.Deep
set_option linter.unusedSimpArgs false
set_option linter.unusedVariables false

/-- a deed as the statement hands it in -/
structure DeedV where
  kind : Int
  n : Int
  sa : Option Addr
  sc : Nat
  S : List UInt8
/-- deeds that can be read -/
def RowD (w : World) (a : Option Addr) (c n : Nat) (f : Nat → DeedV) : Prop :=
  n ≤ c ∧ c ≤ maxLen ∧ (0 < n → ∃ b off, a = some ⟨b, off, none⟩ ∧ b < w.heap.size ∧ ∀ i, i < n → w.cell? ⟨b, off + i * 3, none⟩ = some (.int .i64 (f i).kind) ∧ w.cell? ⟨b, off + i * 3 + 1, none⟩ = some (.int .i64 (f i).n) ∧ w.cell? ⟨b, off + i * 3 + 2, none⟩ = some (.slice (f i).sa (f i).S.length (f i).sc)) ∧
    ∀ i, i < n → RowB w (f i).sa (f i).sc (f i).S
theorem RowD.mono {w w' : World} {a : Option Addr} {c n : Nat} {f : Nat → DeedV} (h : RowD w a c n f) (b : Below w.heap.size w w') : RowD w' a c n f := by
  obtain ⟨h1, h2, h3, h4⟩ := h
  refine ⟨h1, h2, fun hn => ?_, fun i hi => (h4 i hi).mono b⟩
  obtain ⟨bb, off, e, hlt, hc⟩ := h3 hn
  exact ⟨bb, off, e, Nat.lt_of_lt_of_le hlt b.size, fun i hi => ⟨(b.cell (p := ⟨bb, off + i * 3, none⟩) hlt).trans (hc i hi).1, (b.cell (p := ⟨bb, off + i * 3 + 1, none⟩) hlt).trans (hc i hi).2.1, (b.cell (p := ⟨bb, off + i * 3 + 2, none⟩) hlt).trans (hc i hi).2.2⟩⟩

theorem spot_none21 {w : World} {x : Addr} {n : Int} (h : w.cell? x = some (.int .i64 n)) : x.spot = none := by
  unfold World.cell? at h
  cases hs : x.spot with
  | none => rfl
  | some q => simp [hs] at h; split at h <;> simp_all

theorem open_deeds {H : Type} {enc : TypeId × Value → H} {W : World} {base : Nat} {held : Bool} {a : Option Addr} {n c : Nat} {d : DataW H} {p : List MemPlace}
    (h : DataW.Trod enc Try.prog W base (fun _ => true) held 22 (.slice a n c) d p) : ∃ f, RowD W a c n f := by
  have kC : Try.prog.cellsOf 32 = 3 := by kernel_rfl
  have k1 : Try.prog.cellsOf 3 = 1 := by kernel_rfl
  have k2 : Try.prog.cellsOf 30 = 1 := by kernel_rfl
  obtain ⟨fuel, hf⟩ := h
  rcases open_slice Try.underlying22 hf with ⟨hcs, _⟩ | ⟨x, len, cap, m, q, D, Pl, hcs, _, hl, hm, hmm, _, hi⟩
  · simp [Value.cells] at hcs
    obtain ⟨rfl, rfl, rfl⟩ := hcs
    exact ⟨fun _ => ⟨0, 0, none, 0, []⟩, Nat.le_refl _, Nat.zero_le _, fun h => absurd h (by omega), fun i h => absurd h (by omega)⟩
  · simp [Value.cells] at hcs
    obtain ⟨rfl, rfl, rfl⟩ := hcs
    have hnm : n ≤ m := by rw [hmm]; split <;> omega
    have one : ∀ i, ∃ v : DeedV, i < n → W.cell? ((x.add (i * 3)).add 0) = some (.int .i64 v.kind) ∧ W.cell? ((x.add (i * 3)).add 1) = some (.int .i64 v.n) ∧ W.cell? ((x.add (i * 3)).add 2) = some (.slice v.sa v.S.length v.sc) ∧ RowB W v.sa v.sc v.S := by
      intro i
      by_cases hlt : i < n
      · obtain ⟨cs', hc, ht⟩ := hi i (by omega)
        rw [kC] at hc
        obtain ⟨_, hlen, hat⟩ := World.cells?_some hc
        obtain ⟨ys, r, _, _, _, hyl, hg⟩ := DataW.trod_struct Try.underlying32 ht
        have hyl' : ys.length = 3 := hyl
        match cs', hlen with
        | [u0, u1, u2], _ =>
          have g0 := hg 0 _ rfl
          have g1 := hg 1 _ rfl
          have g2 := hg 2 _ rfl
          simp [k1, k2] at g0 g1 g2
          rw [List.getElem?_eq_getElem (by omega)] at g0 g1 g2
          obtain ⟨t0, e0, _, w0⟩ := DataW.trod_int Try.underlying3 g0
          obtain ⟨t1, e1, _, w1⟩ := DataW.trod_int Try.underlying3 g1
          simp only [List.cons.injEq, and_true] at e0 e1
          subst e0 e1
          have a0 := hat 0 (by omega)
          have a1 := hat 1 (by omega)
          have a2 := hat 2 (by omega)
          simp at a0 a1 a2
          rcases open_ints Try.underlying30 Try.underlying5 (by kernel_rfl) g2 with ⟨hcs, _⟩ | ⟨y, l, c', zs, hcs, _, hl', hm', hz', _, hcell, hwz⟩
          · simp at hcs
            subst hcs
            exact ⟨⟨t0, t1, none, 0, []⟩, fun _ => ⟨a0, a1, a2, Row.nil _ _⟩⟩
          · simp at hcs
            subst hcs
            obtain ⟨S, e1, hr⟩ := rowB_of (w := W) (a := some y) (len := l) (cap := c') (zs := zs) (.inr ⟨_, rfl, hl', hm', by simpa using hz', hcell, hwz⟩)
            exact ⟨⟨t0, t1, some y, c', S⟩, fun _ => ⟨a0, a1, by rw [a2, e1], hr⟩⟩
      · exact ⟨⟨0, 0, none, 0, []⟩, fun h => absurd h hlt⟩
    obtain ⟨f, hf⟩ := Classical.skolem.1 one
    refine ⟨f, hl, hm, fun hn => ?_, fun i hi => (hf i hi).2.2.2⟩
    have hq := (hf 0 hn).1
    rw [Nat.zero_mul, show x.add 0 = x from by unfold Addr.add; simp, show x.add 0 = x from by unfold Addr.add; simp] at hq
    have hsp := spot_none21 hq
    obtain ⟨b, off, sp⟩ := x
    simp at hsp
    subst hsp
    refine ⟨b, off, rfl, World.block_lt_of_cell? W _ hq, fun i hi => ?_⟩
    have h0 := (hf i hi).1
    have h1 := (hf i hi).2.1
    have h2 := (hf i hi).2.2.1
    rw [Addr.add_mid, Addr.add_mid] at h0 h1 h2
    exact ⟨h0, h1, h2⟩

set_option maxHeartbeats 4000000 in
theorem NetPlays_walk (w : World) (a : Option Addr) (n c : Nat) (f : Nat → DeedV) (r : RowD w a c n f) :
    Calls Try.prog 3 #[.slice a n c] w fun e w' => e = .returned (.bool true) ∧ Below w.heap.size w w' := by
  have hnc := r.1
  have hc9 := r.2.1
  have HR := hid r
  clear r
  go_enter Try.func3, Try.ntmps3
  go_wp2_with fail
  refine (new_any w).mono ?_
  rintro e w1 ⟨rfl, p1, b1⟩
  have hB1 := b1.size
  have M1 : Mid (w1.alloc (.cells #[.slice none 0 0] 28)) w.heap.size w.heap.size w1.heap.size [] [] := by
    refine ⟨⟨none, 0, p1.mono (albO w1 _)⟩, ⟨none, 0, hB1, blk_newO (W := w1) rfl 28 [.slice none 0 0], Own.nil _ _ _ _⟩, by simp, by simp, (fun p hp => by cases hp), by simp; omega⟩
  have M1 := hid M1
  have BB1 := hid (kept_trans b1 (albO w1 (.cells #[.slice none 0 0] 28)))
  clear p1 b1
  go_wp2_with fail
  go_loopw [5] (fun i wr => ∃ (j : Nat) (L : List PkT), j ≤ n ∧ j ≤ 60 ∧ i = .int .i64 j ∧ Mid wr w.heap.size w.heap.size w1.heap.size L (L.map seenP) ∧ Below w.heap.size w wr) (fun i _ => n - (intOf i).toNat)
  case atStart => exact ⟨0, [], Nat.zero_le _, Nat.zero_le _, rfl, M1.out, BB1.out⟩
  case round =>
    obtain ⟨j, L, hj, hj6, rfl, hm, hbel⟩ := hrel
    by_cases hlt : j < n ∧ j < 60
    · obtain ⟨hlt, hlt6⟩ := hlt
      have ltd : decide ((j : Int) < (n : Int)) = true := decide_eq_true (by omega)
      have ltd6 : decide ((j : Int) < 60) = true := decide_eq_true (by omega)
      obtain ⟨_, _, h3, h4⟩ := HR.out.mono hbel
      obtain ⟨b, off, e, hbl, hc⟩ := h3 (by omega)
      subst e
      obtain ⟨x0, x1, x2⟩ := hc j hlt
      have hr := HR.out.2.2.2 j hlt
      have HD := hid (does_any w.heap.size w.heap.size w1.heap.size L (f j).kind (f j).n (f j).sa (f j).sc (f j).S wr hm (fun X bX => hr.mono (hbel.trans bX)))
      have HBL := hid hbel
      clear hc h3 h4 hr hm hbel
      generalize (f j).kind = t0 at *
      generalize (f j).n = t1 at *
      generalize (f j).sa = t2 at *
      generalize (f j).sc = t3 at *
      generalize (f j).S.length = t4 at *
      go_wp2_with fail
      refine HD.out.mono ?_
      rintro e w3 ⟨rfl, L', m3, b3⟩
      have M3 := hid m3; have B3 := hid (HBL.out.trans b3)
      clear m3 b3 x0 x1 x2
      go_wp2_with fail
      go_roundw
      case rel => exact ⟨j + 1, L', by omega, by omega, by go_num, M3.out, B3.out⟩
      case measure => simp [intOf]; omega
    · have HL := hid (like_any w.heap.size w.heap.size w1.heap.size L wr hm)
      have HBL := hid hbel
      clear hm hbel
      by_cases hn : j < n
      · have ltd : decide ((j : Int) < (n : Int)) = true := decide_eq_true (by omega)
        have ltd6 : decide ((j : Int) < 60) = false := decide_eq_false (by omega)
        go_wp2_with fail
        refine HL.out.mono ?_
        rintro e w3 ⟨rfl, b3⟩
        have B3 := hid (kept_trans HBL.out b3)
        clear b3
        go_wp2_with fail
        refine (lives_any _).mono ?_
        rintro e w8 ⟨rfl, b8⟩
        have B8 := hid (kept_trans B3.out b8)
        clear b8
        go_wp2_with fail
        go_ret
        exact ⟨rfl, B8.out⟩
      · have ltd : decide ((j : Int) < (n : Int)) = false := decide_eq_false (by omega)
        go_wp2_with fail
        refine HL.out.mono ?_
        rintro e w3 ⟨rfl, b3⟩
        have B3 := hid (kept_trans HBL.out b3)
        clear b3
        go_wp2_with fail
        refine (lives_any _).mono ?_
        rintro e w8 ⟨rfl, b8⟩
        have B8 := hid (kept_trans B3.out b8)
        clear b8
        go_wp2_with fail
        go_ret
        exact ⟨rfl, B8.out⟩
end Go.Proofs.Ytgigadjohjpdkaa
