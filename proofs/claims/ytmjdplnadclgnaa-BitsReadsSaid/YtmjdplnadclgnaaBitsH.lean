import Derived.Test.YtmjdplnadclgnaaBitsG
namespace Go.Proofs.Ytmjdplnadclgnaa
open Go.RowKit Go.WideShapes Go.ChangeShapes
set_option linter.unusedSimpArgs false
set_option linter.unusedVariables false

theorem list_bytes (l : List Value) (h : ∀ v ∈ l, ∃ b : UInt8, v = byteV b) : ∃ xs : List UInt8, l = xs.map byteV := by
  induction l with
  | nil => exact ⟨[], rfl⟩
  | cons v l ih =>
    obtain ⟨b, rfl⟩ := h v (by simp)
    obtain ⟨xs, rfl⟩ := ih (fun u hu => h u (by simp [hu]))
    exact ⟨b :: xs, rfl⟩

theorem open_map {H : Type} {enc : TypeId × Value → H} {W : World} {base base' : Nat} {spare : Nat → Bool} {held : Bool} {v : Value} {d : DataW H} {p : List MemPlace}
    (hv : Value.okWide Try.prog W .any base' 24 v) (h : DataW.Trod enc Try.prog W base spare held 24 v d p) :
    ∃ xs : List UInt8, v = .agg (mapC xs) ∧ xs.length = 16 := by
  obtain ⟨cs, rfl, hsz, _⟩ : ∃ cs, v = .agg cs ∧ cs.size = Try.prog.cellsOf 24 ∧ Row.okWide Try.prog W .any base' 24 cs := by
    simpa [Value.okWide, Try.underlying24] using hv
  have k16 : Try.prog.cellsOf 24 = 16 := by kernel_rfl
  have k1 : Try.prog.cellsOf 5 = 1 := by kernel_rfl
  obtain ⟨fuel, hf⟩ := h
  obtain ⟨ys, m, _, hx, _, hlen, hi⟩ := DataW.trod_array Try.underlying24 hf
  rw [k16] at hsz
  obtain ⟨xs, hxs⟩ := list_bytes cs.toList (by
    intro u hu
    obtain ⟨i, hil, rfl⟩ := List.mem_iff_getElem.1 hu
    have hi16 : i < 16 := by simpa [hsz] using hil
    have h1 := hi i hi16
    rw [k1, Nat.mul_one] at h1
    have e1 : (((Value.agg cs).cells.toList).drop i).take 1 = [cs.toList[i]] := by
      show ((cs.toList).drop i).take 1 = _
      rw [List.drop_eq_getElem_cons hil]; rfl
    rw [e1] at h1
    have hys : ys[i]? = some (ys[i]'(by omega)) := List.getElem?_eq_getElem (by omega)
    obtain ⟨n, e2, _, w2⟩ := DataW.trod_int Try.underlying5 (h1.trans hys)
    have hb := u8_bd w2
    refine ⟨UInt8.ofNat n.toNat, ?_⟩
    simp only [List.cons.injEq, and_true] at e2
    rw [e2]
    unfold byteV
    simp
    omega)
  refine ⟨xs, ?_, ?_⟩
  · unfold mapC; rw [← hxs]
  · have : cs.toList.length = 16 := by simpa using hsz
    rw [hxs] at this; simpa using this

theorem pick_any (n : Int) (w : World) (hn : -9223372036854775808 ≤ n ∧ n ≤ 9223372036854775807) :
    Calls Try.prog 15 #[.int .i64 n] w fun e w' => e = .returned (.int .i64 (if 1 ≤ n ∧ n ≤ 128 then n - 1 else 0)) ∧ w = w' := by
  rcases (by omega : n < 1 ∨ (1 ≤ n ∧ n ≤ 128) ∨ (1 ≤ n ∧ 128 < n)) with h | ⟨h1, h2⟩ | ⟨h1, h2⟩
  · rw [if_neg (by omega)]
    go_enter Try.func15, Try.ntmps15
    go_wp2
    go_ret
    exact ⟨rfl, rfl⟩
  · rw [if_pos ⟨h1, h2⟩]
    have e1 : IntKind.i64.wrap (n - 1) = n - 1 := IntWalk.i64_in _ (by omega)
    go_enter Try.func15, Try.ntmps15
    go_wp2
    go_ret
    exact ⟨rfl, rfl⟩
  · rw [if_neg (by omega)]
    go_enter Try.func15, Try.ntmps15
    go_wp2
    go_ret
    exact ⟨rfl, rfl⟩

set_option maxHeartbeats 4000000 in
set_option maxRecDepth 100000 in
theorem BitsUsed_walk (w : World) (xs : List UInt8) (hx : xs.length = 16) (n : Int) (wn : (Lit.int .i64 n).wf = true) :
    Calls Try.prog 4 #[.agg (mapC xs), .int .i64 n] w fun e w' => e = .returned (.bool true) ∧ Below w.heap.size w w' := by
  have hn := i64_bd wn
  have K0 : Blk (w.alloc (.cells (mapC xs) 24)) w.heap.size 24 (xs.map byteV) := heap_alloc_new w _
  have B0 : Below w.heap.size w (w.alloc (.cells (mapC xs) 24)) := (Below.refl _ w).alloc (Nat.le_refl _) _
  have HU := hid (fun w1 => used_any xs n w1 hx hn)
  have HP := hid (fun w1 => pick_any n w1 hn)
  by_cases h : 1 ≤ n ∧ n ≤ 128
  · have hu : usedB xs n = bitB xs (n - 1).toNat := by unfold usedB; rw [decide_eq_true h, Bool.true_and]
    rw [hu] at HU
    rw [if_pos h] at HP
    obtain ⟨k, rfl⟩ : ∃ k : Nat, n = (k : Int) + 1 := ⟨(n - 1).toNat, by omega⟩
    have e1 : (k : Int) + 1 - 1 = k := by omega
    rw [e1] at HP HU
    rw [Int.toNat_natCast] at HU
    have hk : k < 128 := by omega
    have g1 : decide ((1 : Int) ≤ (k : Int) + 1) = true := decide_eq_true (by omega)
    have g2 : decide ((k : Int) + 1 ≤ 128) = true := decide_eq_true (by omega)
    obtain ⟨h1, h2⟩ := h
    go_enter Try.func4, Try.ntmps4
    go_wp2_with (first
      | ((with_reducible refine wpl_loadM rfl _ rfl w.heap.size rfl xs hx (by assumption) ?_))
      | (go_at_call 14; refine (truths_any xs _ hx).mono ?_; rintro e w1 ⟨a1, c1, rfl, o1, b1⟩; have k1 := Blk.mono K0 b1; have q1 := (o1.row.at (by omega)))
      | (go_at_call 15; refine (HP.out _).mono ?_; rintro e w2 ⟨rfl, rfl⟩; obtain ⟨bb, off, rfl, hbb, hc⟩ := q1; have ck := hc k _ (truthsV_get xs (by omega)))
      | (go_at_call 16; refine (HU.out _).mono ?_; rintro e w3 ⟨rfl, b3⟩)
      | (go_at_call 11; refine (lives10_any _).mono ?_; rintro e w4 ⟨rfl, b4⟩))
    go_ret
    exact ⟨rfl, kept_trans (kept_trans (kept_trans B0 b1) b3) b4⟩
  · have hu : usedB xs n = false := by unfold usedB; rw [decide_eq_false h]; rfl
    rw [hu] at HU
    rw [if_neg h] at HP
    by_cases h1 : 1 ≤ n
    · have h2 : 128 < n := by omega
      have g1 : decide ((1 : Int) ≤ n) = true := decide_eq_true h1
      have g2 : decide (n ≤ 128) = false := decide_eq_false (by omega)
      clear hu
      go_enter Try.func4, Try.ntmps4
      go_wp2_with (first
        | ((with_reducible refine wpl_loadM rfl _ rfl w.heap.size rfl xs hx (by assumption) ?_))
        | (go_at_call 14; refine (truths_any xs _ hx).mono ?_; rintro e w1 ⟨a1, c1, rfl, o1, b1⟩; have k1 := Blk.mono K0 b1)
        | (go_at_call 15; refine (HP.out _).mono ?_; rintro e w2 ⟨rfl, rfl⟩)
        | (go_at_call 16; refine (HU.out _).mono ?_; rintro e w3 ⟨rfl, b3⟩)
        | (go_at_call 11; refine (lives10_any _).mono ?_; rintro e w4 ⟨rfl, b4⟩))
      go_ret
      exact ⟨rfl, kept_trans (kept_trans (kept_trans B0 b1) b3) b4⟩
    · have g1 : decide ((1 : Int) ≤ n) = false := decide_eq_false h1
      clear hu
      go_enter Try.func4, Try.ntmps4
      go_wp2_with (first
        | ((with_reducible refine wpl_loadM rfl _ rfl w.heap.size rfl xs hx (by assumption) ?_))
        | (go_at_call 14; refine (truths_any xs _ hx).mono ?_; rintro e w1 ⟨a1, c1, rfl, o1, b1⟩; have k1 := Blk.mono K0 b1)
        | (go_at_call 15; refine (HP.out _).mono ?_; rintro e w2 ⟨rfl, rfl⟩)
        | (go_at_call 16; refine (HU.out _).mono ?_; rintro e w3 ⟨rfl, b3⟩)
        | (go_at_call 11; refine (lives10_any _).mono ?_; rintro e w4 ⟨rfl, b4⟩))
      go_ret
      exact ⟨rfl, kept_trans (kept_trans (kept_trans B0 b1) b3) b4⟩

end Go.Proofs.Ytmjdplnadclgnaa
