import Derived.Test.YtmjdplnadclgnaaBitsP
namespace Go.Proofs.Ytmjdplnadclgnaa
open Go.RowKit Go.WideShapes
set_option linter.unusedSimpArgs false
set_option linter.unusedVariables false

theorem run_size8 (w : World) : (sizeOf 5).run Try.prog w = .ok 1 w := by
  have : (Try.prog.info? 5).map (·.size) = some 1 := by kernel_rfl
  cases hq : Try.prog.info? 5 with
  | none => simp [hq] at this
  | some i =>
    simp [hq] at this
    simp [sizeOf, typeInfo, hq, this]

theorem run_partM (xs : List UInt8) (i : Nat) (w : World) (hi : i < xs.length) : (part 5 (mapC xs) i).run Try.prog w = .ok (.int .u8 (bAt xs i : Int)) w := by
  have hagg : (isAgg 5).run Try.prog w = .ok false w := by
    unfold isAgg
    rw [Sem.run_bind, run_underlying Try.underlying5 w]
    rfl
  have hc : (mapC xs)[i]? = some (.int .u8 (bAt xs i : Int)) := by
    simp [mapC, hi, byteV, bAt_eq hi]
  simp [part, Sem.run_bind, hagg, hc]

theorem drop_bAt {xs : List UInt8} {i : Nat} (h : i < xs.length) : xs.drop i = UInt8.ofNat (bAt xs i) :: xs.drop (i + 1) := by
  rw [List.drop_eq_getElem_cons h, bAt_eq h]; simp

theorem run_eqLoop (xs ys : List UInt8) (w : World) (d : Nat) (hx : xs.length = 16) (hy : ys.length = 16) : ∀ (n i : Nat), i + n = 16 →
    Sem.run Try.prog (forIn (List.range' i n) ((none : Option Bool), ()) fun i __s => do
      let a ← part 5 (mapC xs) i
      let b ← part 5 (mapC ys) i
      let c ← Op.equalIn (d + 1) 5 a b
      if (!c) = true then pure (ForInStep.done (some false, ())) else pure (ForInStep.yield (none, ()))) w = .ok (if xs.drop i = ys.drop i then (none, ()) else (some false, ())) w
  | 0, i, h => by
    have h1 : xs.drop i = [] := List.drop_eq_nil_of_le (by omega)
    have h2 : ys.drop i = [] := List.drop_eq_nil_of_le (by omega)
    simp [h1, h2]
  | n + 1, i, h => by
    have ih := run_eqLoop xs ys w d hx hy n (i + 1) (by omega)
    rw [List.range'_succ, List.forIn_cons]
    simp only [Sem.run_bind, run_partM xs i w (by omega), run_partM ys i w (by omega), Result.andThen_ok, run_equalIn_int w d 5 .u8 .u8 _ _ Try.underlying5]
    have ha := bAt_lt xs i
    have hb := bAt_lt ys i
    by_cases e : bAt xs i = bAt ys i
    · have e' : ((bAt xs i : Int) == (bAt ys i : Int)) = true := by simp [e]
      simp only [e', Bool.not_true, Bool.false_eq_true, if_false, Sem.run_pure, Result.andThen_ok]
      rw [ih, drop_bAt (xs := xs) (i := i) (by omega), drop_bAt (xs := ys) (i := i) (by omega), e]
      simp
    · have e' : ((bAt xs i : Int) == (bAt ys i : Int)) = false := by simp; omega
      simp only [e', Bool.not_false, if_true, Sem.run_pure, Result.andThen_ok]
      rw [drop_bAt (xs := xs) (i := i) (by omega), drop_bAt (xs := ys) (i := i) (by omega), if_neg]
      intro h2
      injection h2 with h3 _
      have := congrArg UInt8.toNat h3
      simp at this
      omega

theorem run_eqM' (xs ys : List UInt8) (w : World) (d : Nat) (hx : xs.length = 16) (hy : ys.length = 16) :
    (Op.equalIn (d + 1 + 1) 24 (.agg (mapC xs)) (.agg (mapC ys))).run Try.prog w = .ok (decide (xs = ys)) w := by
  rw [Op.equalIn]
  simp only [Sem.run_bind, run_underlying Try.underlying24, Result.andThen_ok, run_size8, Nat.mul_one]
  rw [Std.Legacy.Range.forIn_eq_forIn_range']
  simp only [Std.Legacy.Range.size, Nat.sub_zero]
  rw [show (16 + 1 - 1) / 1 = 16 from rfl, run_eqLoop xs ys w d hx hy 16 0 rfl]
  simp only [List.drop_zero, Result.andThen_ok]
  by_cases h : xs = ys
  · simp [h]
  · simp [h]

/-- two maps compared -/
theorem run_eqM (xs ys : List UInt8) (w : World) (hx : xs.length = 16) (hy : ys.length = 16) :
    (Op.equalIn 10000 24 (.agg (mapC xs)) (.agg (mapC ys))).run Try.prog w = .ok (decide (xs = ys)) w := run_eqM' xs ys w 9998 hx hy

end Go.Proofs.Ytmjdplnadclgnaa
