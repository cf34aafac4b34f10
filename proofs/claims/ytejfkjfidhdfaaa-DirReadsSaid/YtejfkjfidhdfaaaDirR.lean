/- Two tables compared; what was encoded is decoded. -/
import Derived.Test.YtejfkjfidhdfaaaDirQ
namespace Go.Proofs.Ytejfkjfidhdfaaa
open Go.RowKit Go.Shelf Go.WideShapes
set_option linter.unusedSimpArgs false
set_option linter.unusedVariables false

theorem run_sizeEnt (w : World) : (sizeOf 24).run Try.prog w = .ok 2 w := by
  have : (Try.prog.info? 24).map (·.size) = some 2 := infoEnt
  cases hq : Try.prog.info? 24 with
  | none => simp [hq] at this
  | some i =>
    simp [hq] at this
    simp [sizeOf, typeInfo, hq, this]
theorem run_partT (t : List EntT) (i : Nat) (w : World) (hi : i < t.length) : (part 24 (tabC t).toArray (i * 2)).run Try.prog w = .ok (.agg #[.string t[i].nm, .int .i64 t[i].ino]) w := by
  have hagg : (isAgg 24).run Try.prog w = .ok true w := by
    unfold isAgg
    rw [Sem.run_bind, run_underlying Try.underlying24 w]
    rfl
  obtain ⟨h1, h2⟩ := tabC_get t i hi
  have he : List.take 2 (List.drop (i * 2) (tabC t)) = [.string t[i].nm, .int .i64 t[i].ino] := by
    apply List.ext_getElem?
    intro j
    rw [List.getElem?_take, List.getElem?_drop]
    match j with
    | 0 => rw [if_pos (by omega), Nat.add_zero, Nat.mul_comm, h1]; rfl
    | 1 => rw [if_pos (by omega), Nat.mul_comm, h2]; rfl
    | j + 2 => rw [if_neg (by omega)]; rfl
  simp [part, Sem.run_bind, hagg, run_sizeEnt, he]
set_option maxHeartbeats 4000000 in
theorem eqEntD9 (a : ByteArray) (i : Int) (w : World) : (Op.equalIn 9999 24 (.agg #[.string a, .int .i64 i]) (.agg #[.string a, .int .i64 i])).run Try.prog w = .ok true w := by
  have u3 := Try.underlying3
  have a3 := Try.isAgg3
  have z3 := Try.sizeOf3
  have u9 := Try.underlying9
  have a9 := Try.isAgg9
  have z9 := Try.sizeOf9
  have hS : Try.prog.underlying 24 = some (.struct (Try.prog.fieldsOf 24)) := by kernel_rfl
  have hp : Try.prog.stoodInHeld 24 = false := by kernel_rfl
  rw [show (9999 : Nat) = 9998 + 1 from rfl, run_equalIn_agg w 9998 24 _ _ hS hp]
  simp only [Program.fieldsOf, Try.underlying24]
  go_simp
theorem run_eqTabLoop (t : List EntT) (w : World) (ht : t.length = 16) : ∀ (n i : Nat), i + n = 16 →
    Sem.run Try.prog (forIn (List.range' i n) ((none : Option Bool), ()) fun i __s => do
      let a ← part 24 (tabC t).toArray (i * 2)
      let b ← part 24 (tabC t).toArray (i * 2)
      let c ← Op.equalIn 9999 24 a b
      if (!c) = true then pure (ForInStep.done (some false, ())) else pure (ForInStep.yield (none, ()))) w = .ok (none, ()) w
  | 0, i, h => by simp
  | n + 1, i, h => by
    have ih := run_eqTabLoop t w ht n (i + 1) (by omega)
    rw [List.range'_succ, List.forIn_cons]
    simp only [Sem.run_bind, run_partT t i w (by omega), Result.andThen_ok, eqEntD9]
    simp only [Bool.not_true, Bool.false_eq_true, if_false, Sem.run_pure, Result.andThen_ok]
    rw [ih]
theorem run_eqTab' (t : List EntT) (w : World) (ht : t.length = 16) : (Op.equalIn (9999 + 1) 26 (.agg (tabC t).toArray) (.agg (tabC t).toArray)).run Try.prog w = .ok true w := by
  rw [Op.equalIn]
  simp only [Sem.run_bind, run_underlying Try.underlying26, Result.andThen_ok, run_sizeEnt]
  rw [Std.Legacy.Range.forIn_eq_forIn_range']
  simp only [Std.Legacy.Range.size, Nat.sub_zero]
  rw [show (16 + 1 - 1) / 1 = 16 from rfl, run_eqTabLoop t w ht 16 0 rfl]
  simp
/-- a table compared with itself -/
theorem run_eqTab (t : List EntT) (w : World) (ht : t.length = 16) : (Op.equalIn 10000 26 (.agg (tabC t).toArray) (.agg (tabC t).toArray)).run Try.prog w = .ok true w := run_eqTab' t w ht

theorem dec_enc {n : ByteArray} {i : Int} (h : mayE n i = true) : decR (entB n i) = some ⟨n, i⟩ := by
  obtain ⟨h0, h1, h2⟩ := mayE_bd h
  have hl := entB_len n i (by omega)
  have hn : n.data.toList.length = n.size := by simp
  have b0 : bAt (entB n i) 0 = i.toNat := by
    show (UInt8.ofNat i.toNat).toNat = i.toNat
    rw [UInt8.toNat_ofNat', Nat.mod_eq_of_lt (by omega)]
  have b1 : bAt (entB n i) 1 = n.size := by
    show (UInt8.ofNat n.size).toNat = n.size
    rw [UInt8.toNat_ofNat', Nat.mod_eq_of_lt (by omega)]
  have hd : (entB n i).drop 2 = n.data.toList ++ List.replicate (14 - n.size) 0 := by simp [entB]
  have hnm : nmR (entB n i) = n := by
    unfold nmR
    rw [b1, hd, ← hn, List.take_left' rfl]
  have hz : ((entB n i).drop (2 + bAt (entB n i) 1)).all (fun b => b == 0) = true := by
    rw [b1, ← List.drop_drop, hd, ← hn, List.drop_left' rfl]
    simp
  unfold decR
  rw [hnm, b0, show ((i.toNat : Nat) : Int) = i by omega, if_pos ⟨by rw [b1]; exact h2, h, hz⟩]
theorem chunk_flat : ∀ (es : List EntT), es.all (fun e => mayE e.nm e.ino) = true → ∀ (j : Nat) (hj : j < es.length), chunk (es.flatMap fun e => entB e.nm e.ino) j = entB es[j].nm es[j].ino
  | e :: r, h, 0, hj => by
    simp only [List.all_cons, Bool.and_eq_true] at h
    have hl := entB_len e.nm e.ino (by have := (mayE_bd h.1).2.2; omega)
    unfold chunk
    rw [List.flatMap_cons, Nat.mul_zero, List.drop_zero, ← hl, List.take_left' rfl]; rfl
  | e :: r, h, j + 1, hj => by
    simp only [List.all_cons, Bool.and_eq_true] at h
    have hl := entB_len e.nm e.ino (by have := (mayE_bd h.1).2.2; omega)
    have ih := chunk_flat r h.2 j (by simpa using hj)
    unfold chunk at ih ⊢
    rw [List.flatMap_cons, show 16 * (j + 1) = (entB e.nm e.ino).length + 16 * j by rw [hl]; omega, List.drop_length_add_append]
    exact ih
theorem rdF_flat {es : List EntT} (h : es.all (fun e => mayE e.nm e.ino) = true) : ∀ j, j ≤ es.length → rdF (es.flatMap fun e => entB e.nm e.ino) j = some (es.take j)
  | 0, _ => by simp [rdF]
  | j + 1, hj => by
    have ih := rdF_flat h j (by omega)
    have hm : mayE es[j].nm es[j].ino = true := List.all_eq_true.1 h es[j] (List.getElem_mem _)
    rw [List.take_succ_eq_append_getElem (by omega)]
    exact rdF_ok ih (by rw [chunk_flat es h j (by omega)]; exact dec_enc hm)
/-- a table's first blocks, none behind -/
def backT (t : List EntT) (k : Nat) : List EntT := t.take (4 * k) ++ zeroT.drop (4 * k)
theorem backT_len {t : List EntT} (ht : t.length = 16) {k : Nat} (hk : k ≤ 4) : (backT t k).length = 16 := by
  unfold backT; rw [List.length_append, List.length_take, List.length_drop, zero_len]; omega
theorem backT_zero (t : List EntT) : backT t 0 = zeroT := by simp [backT]
theorem backT_all {t : List EntT} (ht : t.length = 16) : backT t 4 = t := by
  unfold backT
  rw [List.take_of_length_le (by omega), List.drop_of_length_le (by rw [zero_len]; omega), List.append_nil]
theorem backT_step {t : List EntT} (ht : t.length = 16) {k : Nat} (hk : k < 4) : setN (backT t k) k ((t.drop (4 * k)).take 4) = backT t (k + 1) := by
  have h1 : (t.take (4 * k)).length = 4 * k := by rw [List.length_take]; omega
  have h2 : ((t.drop (4 * k)).take 4).length = 4 := by rw [List.length_take, List.length_drop]; omega
  unfold setN splice backT
  rw [h2, List.take_left' h1, show 4 * k + 4 = (t.take (4 * k)).length + 4 by omega, List.drop_length_add_append, List.drop_drop, show 4 * (k + 1) = 4 * k + 4 by omega, List.take_add, List.append_assoc]
theorem blkO_some {es : List EntT} {bs : List UInt8} (h : blkO es = some bs) : es.all (fun e => mayE e.nm e.ino) = true ∧ bs = es.flatMap fun e => entB e.nm e.ino := by
  unfold blkO at h
  split at h
  · rename_i ha; cases h; exact ⟨ha, rfl⟩
  · cases h
/-- what was told as bytes is read as the same block -/
theorem read_back {t : List EntT} (ht : t.length = 16) {k : Nat} (hk : k < 4) {bs : List UInt8} (h : blockF t (k : Int) = some bs) : readT (backT t k) (k : Int) bs = (backT t (k + 1), 0) ∧ bs.length = 64 := by
  unfold blockF at h
  rw [if_pos ⟨by omega, by omega⟩, show ((k : Int)).toNat = k by omega] at h
  obtain ⟨ha, hb⟩ := blkO_some h
  have hl : ((t.drop (4 * k)).take 4).length = 4 := by rw [List.length_take, List.length_drop]; omega
  have hbl := flat_lenE _ ha
  rw [← hb, hl] at hbl
  refine ⟨?_, hbl⟩
  unfold readT
  rw [if_pos ⟨by omega, by omega⟩, if_neg (by omega), show ((k : Int)).toNat = k by omega, hb, rdF_flat ha 4 (by omega), List.take_of_length_le (by omega)]
  show (setN _ _ _, (0 : Int)) = _
  rw [backT_step ht hk]
end Go.Proofs.Ytejfkjfidhdfaaa
