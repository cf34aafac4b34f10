/- A memory's cells: one made to last, one looked at. -/
import Derived.Test.YtcgekooahahjpaaPmB
import Derived.Laws.BitsAllLaws
namespace Go.Proofs.Ytcgekooahahjpaa
open Go.RowKit
set_option linter.unusedSimpArgs false
set_option linter.unusedVariables false

/-- the end of a block, as a slice -/
theorem row_end {w : World} {g : Nat} {e : TypeId} {L : List Value} (h : Blk w g e L) (lo : Nat) (hl : L.length ≤ 9223372036854775807) (hlo : lo ≤ L.length) : Row w 1 (some ⟨g, lo, none⟩) (L.length - lo) (L.length - lo) (L.drop lo) :=
  ⟨by simp, Nat.le_refl _, by unfold maxLen; omega, (fun h => by cases h), fun hn => ⟨g, lo, rfl, h.lt, fun j u hu => by
    rw [List.getElem?_drop] at hu
    obtain ⟨h1, h2⟩ := List.getElem?_eq_some_iff.1 hu
    rw [h.cell h1, h2]⟩⟩
theorem row_mid {w : World} {g : Nat} {e : TypeId} {L : List Value} (h : Blk w g e L) (lo n c : Nat) (hc : n ≤ c) (hc2 : c ≤ 9223372036854775807) (hlo : lo + n ≤ L.length) : Row w 1 (some ⟨g, lo, none⟩) n c ((L.drop lo).take n) :=
  ⟨by simp; omega, hc, by unfold maxLen; omega, (fun h => by cases h), fun hn => ⟨g, lo, rfl, h.lt, fun j u hu => by
    rw [List.getElem?_take] at hu
    split at hu
    · rw [List.getElem?_drop] at hu
      obtain ⟨h1, h2⟩ := List.getElem?_eq_some_iff.1 hu
      rw [h.cell h1, h2]
    · cases hu⟩⟩
theorem map_drop8 (V : List UInt8) (k n : Nat) (hn : min n 8 = 8) : ((V.map byteV).drop (8 * k)).take (min n 8) = (cell8 V k).map byteV := by
  rw [hn, cell8, List.map_take, List.map_drop]

set_option maxHeartbeats 1000000 in
theorem persist_any {w : World} {g v d p : Nat} {M : MemM} (h : MemP w g v d p M) (k : Nat) (hk : k < M.A.length) :
    Calls Try.prog 37 #[.pointer (some ⟨g, 0, none⟩), .int .i64 (k : Int)] w fun e w' => (∃ x, e = .returned x) ∧ MemP w' g v d p ⟨M.V, mixF (fun i => i == k) M.V M.D, M.A⟩ ∧ Turns (fun b => b = d) w w' := by
  obtain ⟨hok, hne, hg, hv, hd, hp⟩ := h
  obtain ⟨_, ag1, ag2, ag3, ag4, ag5, _, _, _, _⟩ := mem_apart ⟨hok, hne, hg, hv, hd, hp⟩
  obtain ⟨c0, c1, c2⟩ := MemP.cells ⟨hok, hne, hg, hv, hd, hp⟩
  obtain ⟨l1, l2, l3, l4, l5⟩ := hok
  have hk8 : 8 * k + 8 ≤ M.V.length := by omega
  have e1 : IntKind.i64.wrap ((k : Int) * 8) = ((8 * k : Nat) : Int) := by rw [IntWalk.i64_in _ (by omega)]; omega
  have e2 : IntKind.i64.wrap (((8 * k : Nat) : Int) + 8) = ((8 * k + 8 : Nat) : Int) := by rw [IntWalk.i64_in _ (by omega)]; omega
  have hsrc := row_end hv (8 * k) (by simp; omega) (by simp; omega)
  rw [List.length_map] at hsrc
  have H0 : ∀ w', Blk w' d 5 (splice (M.D.map byteV) (8 * k) (((M.V.map byteV).drop (8 * k)).take (min (M.V.length - 8 * k) 8))) → w.grownBy w' (some d) → MemP w' g v d p ⟨M.V, mixF (fun i => i == k) M.V M.D, M.A⟩ ∧ Turns (fun b => b = d) w w' := by
    intro w' hb hg'
    have t : Turns (fun b => b = d) w w' := Turns.of_grown hg' rfl
    rw [map_drop8 _ _ _ (by omega), ← map_splice, splice_mix l1 (by omega)] at hb
    refine ⟨⟨⟨by rw [mixF_len]; exact l1, l2, l3, l4, l5⟩, hne, t.blk hg ag2, t.blk hv hne, hb, t.pend hp ag5⟩, t⟩
  have HO := hid H0; have HD := hid hd; have HS := hid hsrc; have HK := hid hk8
  have hDl : M.D.length = M.V.length := l1
  have HL := hid hDl
  have hVl : M.V.length ≤ 1048576 := l5
  clear H0 hd hsrc hv hg hp hDl l1 l2 l3 l4 l5 ag1 ag2 ag3 ag4 ag5 c2
  generalize hq : 8 * k = q at *
  have HQ := hid hq; clear hq
  have f1 : (0 ≤ (q : Int) + 8) = True := eq_true (by omega)
  have f2 : ((q : Int) + 8 ≤ (M.V.length : Int)) = True := eq_true (by omega)
  have f3 : ((q : Int) + 8).toNat = q + 8 := by omega
  have f4 : (M.V.length = q) = False := eq_false (by omega)
  have f5 : ((q : Int) ≤ (M.V.length : Int)) = True := eq_true (by omega)
  have f6 : (q ≤ M.V.length) = True := eq_true (by omega)
  have f7 : (q + 8 ≤ M.V.length) = True := eq_true (by omega)
  go_enter Try.func37, Try.ntmps37
  go_wp2_with fail
  go_region_law (refine step_copyG rfl (.tmp 14) (.tmp 20) rfl Try.underlying29 (by kernel_rfl) rfl rfl (fun _ => rfl) HD.out HS.out (fun u hu => byteV_one M.V u (List.mem_of_mem_drop hu)) (by rw [List.length_map, HL.out]; omega) ?_; intro w4 b4 g4)
  all_goals
    have G4 := hid (HO.out w4 b4 ⟨g4.os, g4.tape, g4.output, g4.size, g4.block⟩)
    clear b4 g4
    go_end0
    exact ⟨⟨_, rfl⟩, G4.out⟩

/-! arrays of eight bytes compared -/
def arrC8 (xs : List UInt8) : Array Value := (xs.map byteV).toArray
theorem run_size8' (w : World) : (sizeOf 5).run Try.prog w = .ok 1 w := by
  have : (Try.prog.info? 5).map (·.size) = some 1 := by kernel_rfl
  cases hq : Try.prog.info? 5 with
  | none => simp [hq] at this
  | some i =>
    simp [hq] at this
    simp [sizeOf, typeInfo, hq, this]
theorem run_part8 (xs : List UInt8) (i : Nat) (w : World) (hi : i < xs.length) : (part 5 (arrC8 xs) i).run Try.prog w = .ok (.int .u8 (bAt xs i : Int)) w := by
  have hagg : (isAgg 5).run Try.prog w = .ok false w := by
    unfold isAgg
    rw [Sem.run_bind, run_underlying Try.underlying5 w]
    rfl
  have hc : (arrC8 xs)[i]? = some (.int .u8 (bAt xs i : Int)) := by
    simp [arrC8, hi, byteV, bAt_eq hi]
  simp [part, Sem.run_bind, hagg, hc]
theorem drop_bAt8 {xs : List UInt8} {i : Nat} (h : i < xs.length) : xs.drop i = UInt8.ofNat (bAt xs i) :: xs.drop (i + 1) := by
  rw [List.drop_eq_getElem_cons h, bAt_eq h]; simp
theorem run_eqLoop8 (xs ys : List UInt8) (w : World) (d : Nat) (hx : xs.length = 8) (hy : ys.length = 8) : ∀ (n i : Nat), i + n = 8 →
    Sem.run Try.prog (forIn (List.range' i n) ((none : Option Bool), ()) fun i __s => do
      let a ← part 5 (arrC8 xs) i
      let b ← part 5 (arrC8 ys) i
      let c ← Op.equalIn (d + 1) 5 a b
      if (!c) = true then pure (ForInStep.done (some false, ())) else pure (ForInStep.yield (none, ()))) w = .ok (if xs.drop i = ys.drop i then (none, ()) else (some false, ())) w
  | 0, i, h => by
    have h1 : xs.drop i = [] := List.drop_eq_nil_of_le (by omega)
    have h2 : ys.drop i = [] := List.drop_eq_nil_of_le (by omega)
    simp [h1, h2]
  | n + 1, i, h => by
    have ih := run_eqLoop8 xs ys w d hx hy n (i + 1) (by omega)
    rw [List.range'_succ, List.forIn_cons]
    simp only [Sem.run_bind, run_part8 xs i w (by omega), run_part8 ys i w (by omega), Result.andThen_ok, run_equalIn_int w d 5 .u8 .u8 _ _ Try.underlying5]
    have ha := bAt_lt xs i
    have hb := bAt_lt ys i
    by_cases e : bAt xs i = bAt ys i
    · have e' : ((bAt xs i : Int) == (bAt ys i : Int)) = true := by simp [e]
      simp only [e', Bool.not_true, Bool.false_eq_true, if_false, Sem.run_pure, Result.andThen_ok]
      rw [ih, drop_bAt8 (xs := xs) (i := i) (by omega), drop_bAt8 (xs := ys) (i := i) (by omega), e]
      simp
    · have e' : ((bAt xs i : Int) == (bAt ys i : Int)) = false := by simp; omega
      simp only [e', Bool.not_false, if_true, Sem.run_pure, Result.andThen_ok]
      rw [drop_bAt8 (xs := xs) (i := i) (by omega), drop_bAt8 (xs := ys) (i := i) (by omega), if_neg]
      intro h2
      injection h2 with h3 _
      have := congrArg UInt8.toNat h3
      simp at this
      omega
theorem run_eq8' (xs ys : List UInt8) (w : World) (d : Nat) (hx : xs.length = 8) (hy : ys.length = 8) :
    (Op.equalIn (d + 1 + 1) 67 (.agg (arrC8 xs)) (.agg (arrC8 ys))).run Try.prog w = .ok (decide (xs = ys)) w := by
  rw [Op.equalIn]
  simp only [Sem.run_bind, run_underlying Try.underlying67, Result.andThen_ok, run_size8', Nat.mul_one]
  rw [Std.Legacy.Range.forIn_eq_forIn_range']
  simp only [Std.Legacy.Range.size, Nat.sub_zero]
  rw [show (8 + 1 - 1) / 1 = 8 from rfl, run_eqLoop8 xs ys w d hx hy 8 0 rfl]
  simp only [List.drop_zero, Result.andThen_ok]
  by_cases h : xs = ys
  · simp [h]
  · simp [h]
theorem run_neq8 (xs ys : List UInt8) (w : World) (hx : xs.length = 8) (hy : ys.length = 8) :
    (binOp .neq 67 (.agg (arrC8 xs)) (.agg (arrC8 ys))).run Try.prog w = .ok (.bool (decide (xs ≠ ys))) w := by
  have h0 : (Op.equalIn 10000 67 (.agg (arrC8 xs)) (.agg (arrC8 ys))).run Try.prog w = .ok (decide (xs = ys)) w := run_eq8' xs ys w 9998 hx hy
  simp only [binOp]
  simp [Op.equal, Op.maxDepth, h0]
theorem run_array8 (a : Option Addr) (n c : Nat) (w : World) (h : 8 ≤ n) : (Instr.arrayAt 67 (.slice a n c)).run Try.prog w = .ok (.pointer a) w := by
  simp [Instr.arrayAt, run_underlying Try.underlying67]
  omega
end Go.Proofs.Ytcgekooahahjpaa
