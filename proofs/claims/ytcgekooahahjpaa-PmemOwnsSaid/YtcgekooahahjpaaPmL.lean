/- Lines flushed. -/
import Derived.Test.YtcgekooahahjpaaPmK
namespace Go.Proofs.Ytcgekooahahjpaa
open Go.RowKit Go.Shelf
set_option linter.unusedSimpArgs false
set_option linter.unusedVariables false
attribute [local go_sem] Oper.semAt_some

/-- those that were on their way, and the dirty ones of some cells -/
def flT (M : MemM) (f : Nat → Bool) : List Bool := tabF M.A.length fun k => M.A.getD k false || (f k && dirtyB M.V M.D k)
theorem flT_len (M : MemM) (f : Nat → Bool) : (flT M f).length = M.A.length := tabF_len _ _
theorem flT_none (M : MemM) : flT M (fun _ => false) = M.A := by
  unfold flT
  rw [tabF_congr (g := fun k => M.A.getD k false) (fun k _ => by simp), tabF_self]
theorem flT_congr {M : MemM} {f f' : Nat → Bool} (h : ∀ k, k < M.A.length → f k = f' k) : flT M f = flT M f' := tabF_congr fun k hk => by rw [h k hk]
theorem flT_set (M : MemM) (f : Nat → Bool) (x : Nat) (hd : dirtyB M.V M.D x = true) : (flT M f).set x true = flT M fun k => f k || k == x := by
  unfold flT
  rw [tabF_set]
  refine tabF_congr fun k hk => ?_
  by_cases e : k = x
  · subst e; rw [if_pos rfl, hd]; simp
  · rw [if_neg e]; show _ = (_ || (f k || k == x) && _); rw [show (k == x) = false from by simpa using e, Bool.or_false]
theorem flT_not (M : MemM) (f : Nat → Bool) (x : Nat) (hd : dirtyB M.V M.D x = false) : flT M f = flT M fun k => f k || k == x := by
  unfold flT
  refine tabF_congr fun k hk => ?_
  by_cases e : k = x
  · subst e; rw [hd]; simp
  · show _ = (_ || (f k || k == x) && _); rw [show (k == x) = false from by simpa using e, Bool.or_false]
theorem flT_ok {M : MemM} (h : M.ok) (f : Nat → Bool) : (⟨M.V, M.D, flT M f⟩ : MemM).ok := by
  simpa only [MemM.ok, flT_len] using h
theorem flushM_flT (M : MemM) (at_ n : Nat) : flushM M at_ n = ⟨M.V, M.D, flT M fun k => decide (k / 8 ∈ touchL at_ n 64)⟩ := by
  unfold flushM flT
  rw [tabF_congr fun k hk => ?_]
  have : inT at_ n 64 (k / 8) = decide (k / 8 ∈ touchL at_ n 64) := by
    rw [Bool.eq_iff_iff, decide_eq_true_eq]; exact (touchL_mem _ _ _ _ (.inr rfl)).symm
  rw [this]

/-- what Flush does -/
def FlushP (g v d p : Nat) (M : MemM) (at_ n : Int) (w : World) (e : Ending) (w' : World) : Prop :=
  if inM M at_ n = true then e = .returned (.int .i64 0) ∧ MemP w' g v d p (flushM M at_.toNat n.toNat) ∧ Turns (fun k => k = p) w w' else e = .returned (.int .i64 1) ∧ Below w.heap.size w w'

set_option maxHeartbeats 4000000 in
set_option maxRecDepth 100000 in
theorem flush_any {w : World} {g v d p : Nat} {M : MemM} (h : MemP w g v d p M) (at_ n : Int) (ha : -9223372036854775808 ≤ at_ ∧ at_ ≤ 9223372036854775807) (hn : -9223372036854775808 ≤ n ∧ n ≤ 9223372036854775807) :
    Calls Try.prog 15 #[.pointer (some ⟨g, 0, none⟩), .int .i64 at_, .int .i64 n] w (FlushP g v d p M at_ n w) := by
  have hd : Fence.wide.depth = none := rfl
  obtain ⟨w1, hw1⟩ : ∃ w1, w1 = w.alloc (.cells #[.pointer (some ⟨g, 0, none⟩)] 23) := ⟨_, rfl⟩
  have b1 : Below w.heap.size w w1 := by rw [hw1]; exact albO w _
  have k1 : Blk w1 w.heap.size 23 [.pointer (some ⟨g, 0, none⟩)] := by rw [hw1]; exact blk_newO rfl _ _
  have s1 : w1.heap.size = w.heap.size + 1 := by rw [hw1]; simp
  have m1 := h.mono b1
  have c1 : w1.cell? ⟨w.heap.size, 0, none⟩ = some (.pointer (some ⟨g, 0, none⟩)) := k1.cell (i := 0) (by simp)
  have HW := within_any m1 at_ n ha hn
  have HW1 := hid hw1
  by_cases hi : inM M at_ n = true
  · have hE : FlushP g v d p M at_ n w = fun e w' => e = .returned (.int .i64 0) ∧ MemP w' g v d p (flushM M at_.toNat n.toNat) ∧ Turns (fun k => k = p) w w' := by
      funext e w'; unfold FlushP; rw [if_pos hi]
    rw [hE]
    rw [hi] at HW
    clear hE
    obtain ⟨a0, n0, rfl, rfl, hl⟩ := inM_true hi
    rw [show ((a0 : Int)).toNat = a0 from rfl, show ((n0 : Int)).toNat = n0 from rfl]
    obtain ⟨av, ag1, ag2, ap1, ap2, ap3, gl, vl, dl, pl⟩ := mem_apart h
    have hVl : M.V.length ≤ 1048576 := m1.1.2.2.2.2
    have hAl : M.A.length * 8 = M.V.length := m1.1.2.1
    have hV64 : M.V.length % 64 = 0 := m1.1.2.2.1
    have ht := fun X => touched_any a0 n0 64 X
    simp only [show ((64 : Nat) : Int) = 64 from rfl] at ht
    have HT := hid ht
    have HWI := hid HW
    have M1 := hid m1; have K1 := hid k1; have S1 := hid s1
    clear HW ht m1 k1 s1 hw1 hi
    refine (callsIn_wide (n := 8)).1 ?_
    refine callsIn_of_wp_marks Try.func15 rfl trivial ?_ rfl
    simp only [Try.ntmps15, List.size_toArray, List.length_cons, List.length_nil, Nat.reduceAdd, Nat.reduceSub, Array.replicate_succ, Array.replicate_zero, List.push_toArray, List.append_toArray, List.nil_append, List.cons_append]
    gi_wp2_with (first
      | ((try refine ⟨trivial, ?_⟩); gi_at_call 33; rw [← HW1.out]; refine (callsIn_wide.2 HWI.out).mono ?_; rintro e w2 ⟨rfl, rfl⟩)
      | ((try refine ⟨trivial, ?_⟩); gi_at_call 34; refine (callsIn_wide.2 (HT.out _)).mono ?_; rintro e w4 ⟨rfl, k4, b4, s4⟩; have K4 := hid k4; have B4 := hid b4; have S4 := hid s4; clear k4 b4 s4))
    have s1 := S1.out
    have l4 := B4.out.size
    have h4 := S4.out
    have hI : StabC w4.heap.size (fun (pre : List Nat) W => Blk W w.heap.size 23 [.pointer (some ⟨g, 0, none⟩)] ∧ MemP W g v d p ⟨M.V, M.D, flT M fun k => decide (k / 8 ∈ pre)⟩ ∧ CapT (w1.heap.size + 1) w1.heap.size (w1.heap.size + 1 + 1) a0 n0 64 W ∧ Turns (fun k => k = p) w W) := by
      rintro pre X Y ⟨i1, i2, i3, i4⟩ bb
      exact ⟨(bb.block _ (by omega)).trans i1, i2.up bb (by omega) (by omega) (by omega) (by omega), i3.up bb (by omega) (by omega) (by omega), i4.up bb (by omega)⟩
    have hx4 := K1.out.mono B4.out
    have hm4 := M1.out.mono B4.out
    have ht4 : Turns (fun k => k = p) w w4 := (Turns.of_below b1).trans (Turns.of_below B4.out)
    have hz : (⟨M.V, M.D, flT M fun k => decide (k / 8 ∈ ([] : List Nat))⟩ : MemM) = M := by
      rw [flT_congr (f' := fun _ => false) (fun k _ => by simp), flT_none]
    refine wpIn_rangeFunc_K1 rfl (by omega) (gf := 43) rfl trivial (enters_of Try.func43 (by kernel_rfl) rfl) (by simp) (val := fun x : Nat => .int .i64 (x : Int))
      (touched_seq (8 - 1) w4 a0 n0 64 (.inr rfl) (by omega) (by omega) (w1.heap.size + 1) w1.heap.size (w1.heap.size + 1 + 1) _ (Nat.le_refl _)) (Below.refl _ _)
      _ (fun _ _ _ => False) hI (fun _ _ _ _ q _ => q) ⟨hx4, by rw [hz]; exact hm4, K4.out, ht4⟩ (fun _ _ q => q.2.2.1) ?body ?done ?stop
    case body =>
      rintro l pre ln W hlb hlr ⟨i1, i2, i3, i4⟩ hlt _ hsp
      have hlm : ln ∈ touchL a0 n0 64 := hsp.subset (by simp)
      have hln := of_decide_eq_true ((touchL_mem a0 n0 64 ln (.inr rfl)).1 hlm)
      have hle : ln ≤ 16384 := by omega
      have hlA : ∀ k, k / 8 = ln → k < M.A.length := fun k hk => by omega
      have HLA := hid hlA
      have HCO := hid (fun X => cellsOf_any ln (by omega) X)
      have I1 := hid i1; have I2 := hid i2; have I3 := hid i3; have I4 := hid i4; have HLR := hid hlr
      clear i1 i2 i3 i4 hsp hlm hln hlr hlA s1 h4
      simp only [List.setIfInBounds_toArray, List.set_cons_succ, List.set_cons_zero]
      gi_wp2_with (first
        | ((try refine ⟨trivial, ?_⟩); gi_at_call 35; refine (CallsIn.inRound l (callsIn_wide.2 (HCO.out _))).mono ?_; rintro e w5 ⟨rfl, k5, b5, s5⟩; have K5 := hid k5; have B5 := hid b5; have S5 := hid s5; clear k5 b5 s5))
      obtain ⟨r, hr⟩ := HLR.out
      have hlW : l < W.heap.size := (Array.getElem?_eq_some_iff.1 hr).1
      have hr5 : w5.heap[l]? = some (.loop r) := (B5.out.block l hlW).trans hr
      have l5 := B5.out.size
      have h5 := S5.out
      have hI5 : StabC w5.heap.size (fun (q : List Nat) Z => Blk Z w.heap.size 23 [.pointer (some ⟨g, 0, none⟩)] ∧ MemP Z g v d p ⟨M.V, M.D, flT M fun k => decide (k / 8 ∈ pre) || decide (k ∈ q)⟩ ∧ CapT (w1.heap.size + 1) w1.heap.size (w1.heap.size + 1 + 1) a0 n0 64 Z ∧ CapT (W.heap.size + 1) W.heap.size (W.heap.size + 1 + 1) (64 * ln) 64 8 Z ∧ Turns (fun k => k = p) w Z ∧ KeepUp w4.heap.size W Z) := by
        have s1 := S1.out
        have h4 := S4.out
        rintro q X Y ⟨j1, j2, j3, j3', j4, j5⟩ bb
        exact ⟨(bb.block _ (by omega)).trans j1, j2.up bb (by omega) (by omega) (by omega) (by omega), j3.up bb (by omega) (by omega) (by omega), j3'.up bb (by omega) (by omega) (by omega), j4.up bb (by omega), j5.up bb (by omega)⟩
      have hz5 : (⟨M.V, M.D, flT M fun k => decide (k / 8 ∈ pre) || decide (k ∈ ([] : List Nat))⟩ : MemM) = ⟨M.V, M.D, flT M fun k => decide (k / 8 ∈ pre)⟩ := by
        rw [flT_congr (f' := fun k => decide (k / 8 ∈ pre)) (fun k _ => by simp)]
      refine wpIn_rangeFunc_KN1 (l₀ := l) (r₀ := r) rfl hr5 (by omega) (gf := 43) rfl trivial (enters_of Try.func43 (by kernel_rfl) rfl) (by simp) (val := fun x : Nat => .int .i64 (x : Int))
        (SeqK.inRound l (touched_seq (8 - 1 - 1 - 1) w5 (64 * ln) 64 8 (.inl rfl) (by omega) (by omega) (W.heap.size + 1) W.heap.size (W.heap.size + 1 + 1) _ (Nat.le_refl _))) (Below.refl _ _)
        _ (fun _ _ _ => False) hI5 (fun _ _ _ _ q _ => q)
        ⟨I1.out.mono B5.out, by rw [hz5]; exact I2.out.mono B5.out, I3.out.mono B5.out, K5.out, I4.out.trans (Turns.of_below B5.out), (KeepUp.refl _ _).trans (KeepUp.of_below B5.out)⟩ (fun _ _ q => q.2.2.2.1) ?body2 ?done2 ?stop2
      case body2 =>
        rintro l2 q x Z _ _ ⟨j1, j2, j3, j3', j4, j5⟩ hlt2 _ hsp2
        have hxm : x ∈ touchL (64 * ln) 64 8 := hsp2.subset (by simp)
        have hxl : x < M.A.length := HLA.out x ((mem_line x ln).1 hxm)
        have y0 : Z.cell? ⟨w.heap.size, 0, none⟩ = some (.pointer (some ⟨g, 0, none⟩)) := j1.cell (i := 0) (by simp)
        have HD := hid (dirty_any j2 x (by show x < (flT M _).length; rw [flT_len]; exact hxl))
        have J1 := hid j1; have J2 := hid j2; have J3 := hid j3; have J3' := hid j3'; have J4 := hid j4; have J5 := hid j5
        clear j1 j2 j3 j3' j4 j5 hsp2 hxm h5
        simp only [List.setIfInBounds_toArray, List.set_cons_succ, List.set_cons_zero]
        by_cases hdx : dirtyB M.V M.D x = true
        · have HDX := hid hdx
          have hD2 := HD.out
          rw [show dirtyB (⟨M.V, M.D, flT M fun k => decide (k / 8 ∈ pre) || decide (k ∈ q)⟩ : MemM).V (⟨M.V, M.D, flT M fun k => decide (k / 8 ∈ pre) || decide (k ∈ q)⟩ : MemM).D x = true from hdx] at hD2
          have HD2 := hid hD2
          clear hD2 HD hdx
          gi_wp2_with (first
            | ((try refine ⟨trivial, ?_⟩); gi_at_call 36; refine (CallsIn.inRound l2 (CallsIn.inRound l (callsIn_wide.2 HD2.out))).mono ?_; rintro e w7 ⟨rfl, b7⟩; have x0 : w7.cell? ⟨w.heap.size, 0, none⟩ = some (.pointer (some ⟨g, 0, none⟩)) := (J1.out.mono b7).cell (i := 0) (by simp); have M7 := hid (J2.out.mono b7); have x2 := M7.out.cells.2.2; have B7 := hid b7; clear b7)
            | (gi_at_mapUpdate; refine wpi_putP rfl _ _ _ rfl Try.underlying50 rfl rfl rfl (by rw [flT_len]; exact hxl) (by omega) (by rw [flT_len]; omega) M7.out.2.2.2.2.2 ?_; intro w8 p8 g8; have P8 := hid p8; have G8 := hid g8; clear p8 g8))
          have t8 : Turns (fun k => k = p) w7 w8 := Turns.of_grown G8.out rfl
          have t78 : Turns (fun k => k = p) Z w8 := (Turns.of_below B7.out).trans t8
          have s1 := S1.out; have h4 := S4.out; have h5 := S5.out
          refine ⟨t78.keepUp (by omega), t78.blk J1.out (by omega), ?_, J3.out.turns t78 (by omega) (by omega) (by omega), J3'.out.turns t78 (by omega) (by omega) (by omega), J4.out.trans t78, J5.out.trans ((t78.keepUp (by omega)))⟩
          have := M7.out.setA P8.out (by simp) t8
          rw [flT_set _ _ _ HDX.out] at this
          rw [flT_congr (f' := fun k => (decide (k / 8 ∈ pre) || decide (k ∈ q)) || k == x) (fun k _ => by rw [Bool.eq_iff_iff]; simp [or_assoc])]
          exact this
        · have hdx' : dirtyB M.V M.D x = false := by simpa using hdx
          have HDX := hid hdx'
          have hD2 := HD.out
          rw [show dirtyB (⟨M.V, M.D, flT M fun k => decide (k / 8 ∈ pre) || decide (k ∈ q)⟩ : MemM).V (⟨M.V, M.D, flT M fun k => decide (k / 8 ∈ pre) || decide (k ∈ q)⟩ : MemM).D x = false from hdx'] at hD2
          have HD2 := hid hD2
          clear hD2 HD hdx hdx'
          gi_wp2_with (first
            | ((try refine ⟨trivial, ?_⟩); gi_at_call 36; refine (CallsIn.inRound l2 (CallsIn.inRound l (callsIn_wide.2 HD2.out))).mono ?_; rintro e w7 ⟨rfl, b7⟩; have M7 := hid (J2.out.mono b7); have B7 := hid b7; clear b7))
          have t78 : Turns (fun k => k = p) Z w7 := Turns.of_below B7.out
          have s1 := S1.out; have h4 := S4.out; have h5 := S5.out
          refine ⟨t78.keepUp (by omega), t78.blk J1.out (by omega), ?_, J3.out.turns t78 (by omega) (by omega) (by omega), J3'.out.turns t78 (by omega) (by omega) (by omega), J4.out.trans t78, J5.out.trans ((t78.keepUp (by omega)))⟩
          have := M7.out
          rw [flT_not _ _ _ HDX.out] at this
          rw [flT_congr (f' := fun k => (decide (k / 8 ∈ pre) || decide (k ∈ q)) || k == x) (fun k _ => by rw [Bool.eq_iff_iff]; simp [or_assoc])]
          exact this
      case done2 =>
        rintro xs Z rfl ⟨j1, j2, j3, j3', j4, j5⟩
        rw [flT_congr (f' := fun k => decide (k / 8 ∈ pre ++ [ln])) (fun k _ => by rw [Bool.eq_iff_iff]; simp [mem_line])] at j2
        gi_wp2
        exact ⟨j5, j1, j2, j3, j4⟩
      case stop2 =>
        rintro c q Z _ h
        exact h.elim
    case done =>
      rintro D xs W hD rfl ⟨i1, i2, i3, i4⟩ hk
      rw [← flushM_flT] at i2
      have I2 := hid i2; have I4 := hid i4
      clear i1 i2 i3 i4
      gi_wp2
      refine ⟨by simp, .inl ⟨_, _, rfl, run_takeDeferred hk, ?_⟩⟩
      have hb : ∀ o, Below w4.heap.size W (W.putObj D o) := fun o => below_putObjC (Below.refl _ _) o hD
      exact ⟨_, results_tmp rfl _ _ _, rfl, I2.out.up (hb _) (by omega) (by omega) (by omega) (by omega), I4.out.up (hb _) (by omega)⟩
    case stop =>
      rintro D c pre W _ _ h _
      exact h.elim
  · have hE : FlushP g v d p M at_ n w = fun e w' => e = .returned (.int .i64 1) ∧ Below w.heap.size w w' := by
      funext e w'; unfold FlushP; rw [if_neg hi]
    rw [hE]
    rw [show inM M at_ n = false by simpa using hi] at HW
    have HW := hid HW
    clear hE hi h m1 hw1 s1
    go_enter Try.func15, Try.ntmps15
    go_wp2_with (first | (go_at_call 33; rw [← HW1.out]; refine HW.out.mono ?_; rintro e w2 ⟨rfl, rfl⟩))
    go_ret
    exact ⟨rfl, b1⟩
end Go.Proofs.Ytcgekooahahjpaa
