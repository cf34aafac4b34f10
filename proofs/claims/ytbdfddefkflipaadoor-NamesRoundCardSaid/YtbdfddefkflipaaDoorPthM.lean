/- The statements of stage 5: the document's Join; NamesJoins. -/
import Derived.Test.YtbdfddefkflipaaDoorPthL
import Derived.Deep.Strs
namespace Go.Proofs.YtbdfddefkflipaaDoor
open Go.RowKit Go.Shelf Go.WideShapes Go.ChangeShapes Go.Deep
set_option linter.unusedSimpArgs false
set_option linter.unusedVariables false

theorem jS_len {L : List ByteArray} (h : L.all mayN = true) : (jS L).length ≤ 13 * L.length := by
  have h1 := lens_le L h
  unfold jS
  rw [Lib.joinTail_length, List.length_map]
  simp only [List.length_cons, List.length_nil]
  omega
theorem jS_succ (L : List ByteArray) (k : Nat) (hk : k < L.length) : strB (jS (L.take k)) ++ ⟨#[47]⟩ ++ L[k] = strB (jS (L.take (k + 1))) := by
  have h := Lib.joinTail_take_succ [47] (L.map (·.data.toList)) k (L[k]).data.toList (by rw [List.getElem?_map, List.getElem?_eq_getElem hk]; rfl)
  unfold jS
  rw [List.map_take, List.map_take, h]
  rw [← strB_app, ← strB_app]
  rfl
theorem joinR_nil : joinR [] = .tuple #[.string ⟨#[47]⟩, .int .i64 0] := rfl

set_option maxHeartbeats 2000000 in
theorem joinRef_any (a : Option Addr) (c : Nat) (L : List ByteArray) (w : World) (h : RowS w a c L) :
    Calls Tryd.prog 21 #[.slice a L.length c] w fun e w' => e = .returned (joinR L) ∧ Below w.heap.size w w' := by
  have hl := rowS_len h
  rcases Nat.eq_zero_or_pos L.length with h0 | h0
  · obtain rfl : L = [] := List.eq_nil_of_length_eq_zero h0
    rw [joinR_nil, List.length_nil]
    clear h h0
    go_enter Tryd.func21, Tryd.ntmps21
    go_wp2_with fail
    go_ret2
    exact ⟨rfl, Below.refl _ _⟩
  have e0 : ((L.length : Int) == 0) = false := by rw [beq_eq_false_iff_ne]; omega
  by_cases h6 : 6 < L.length
  · have d6 : decide (6 < (L.length : Int)) = true := decide_eq_true (by omega)
    rw [joinR_bad (.inl h6)]
    clear h h6
    go_enter Tryd.func21, Tryd.ntmps21
    go_wp2_with fail
    go_ret2
    exact ⟨rfl, Below.refl _ _⟩
  have d6 : decide (6 < (L.length : Int)) = false := decide_eq_false (by omega)
  have HR := hid h
  have h6' : L.length ≤ 6 := by omega
  obtain ⟨z, hz⟩ : ∃ z, z = joinR L := ⟨_, rfl⟩
  rw [← hz]
  have HZ := hid hz
  clear h h6 hz
  go_enter Tryd.func21, Tryd.ntmps21
  go_wp2_with fail
  go_loopw [4, 5] (fun s i wr => ∃ k : Nat, k ≤ L.length ∧ s = .string (strB (jS (L.take k))) ∧ i = .int .i64 k ∧ (L.take k).all mayN = true ∧ Below w.heap.size w wr) (fun _ i _ => L.length - (intOf i).toNat)
  case atStart => exact ⟨0, by omega, rfl, by first | rfl | go_num, rfl, Below.refl _ _⟩
  case round =>
    obtain ⟨k, hk, rfl, rfl, hall, hb⟩ := hrel
    have HB := hid hb
    by_cases hkl : k < L.length
    · obtain ⟨b, off, rfl, hbl, hc⟩ := rowS_cells (HR.out.mono hb) (by omega)
      have ck := hc k hkl
      have ik : (k : Int) < L.length := by omega
      have dk : decide ((k : Int) < (L.length : Int)) = true := decide_eq_true ik
      have hsn : (L.take (k + 1)).all mayN = mayN L[k] := by rw [List.take_succ_eq_append_getElem hkl, List.all_append, hall]; simp
      have hbad : mayN L[k] = false → L.all mayN = false := fun h => by
        rw [List.all_eq_false]; exact ⟨L[k], List.getElem_mem _, by rw [h]; simp⟩
      have hsu := jS_succ L k hkl
      have hts : (strB (jS (L.take k))).size ≤ 1000 := by
        have := jS_len hall
        rw [List.length_take] at this
        rw [strB_size]; omega
      have HM := fun w1 => mayNRef_any L[k] w1
      have HSN := hid hsn; have HBAD := hid hbad
      clear hc hsn hbad hall hb
      obtain ⟨t', ht'⟩ : ∃ t', t' = strB (jS (L.take (k + 1))) := ⟨_, rfl⟩
      rw [← ht'] at hsu
      have HT := hid ht'
      clear ht'
      generalize strB (jS (L.take k)) = t at *
      generalize L[k] = x at *
      cases hm : mayN x with
      | true =>
        rw [hm] at HM HSN
        have HM := hid HM
        have hx := mayN_size hm
        have hs1 : (⟨#[47]⟩ : ByteArray).size = 1 := rfl
        have hs2 : ¬ (t.size + (⟨#[47]⟩ : ByteArray).size > 9223372036854775807) := by rw [hs1]; omega
        have hs3 : ¬ (9223372036854775807 < t.size + 1) := by omega
        have hs4 : ¬ ((t ++ ⟨#[47]⟩).size + x.size > 9223372036854775807) := by rw [ByteArray.size_append, hs1]; omega
        have hs5 : ¬ (9223372036854775807 < t.size + 1 + x.size) := by omega
        have hs6 : t.size + 1 ≤ 9223372036854775807 := by omega
        have hs7 : t.size + 1 + x.size ≤ 9223372036854775807 := by omega
        clear hm
        go_wp2_with (go_at_call 13; refine (HM.out _).mono ?_; rintro e w1 ⟨rfl, rfl⟩)
        go_roundw
        case rel => exact ⟨k + 1, by omega, by rw [← HT.out], by go_num, HSN.out, HB.out⟩
        case measure => simp [intOf]; omega
      | false =>
        rw [hm] at HM
        have HF := hid (HZ.out.trans (joinR_bad (.inr (HBAD.out hm))))
        have HM := hid HM
        clear hm hsu
        go_wp2_with (go_at_call 13; refine (HM.out _).mono ?_; rintro e w1 ⟨rfl, rfl⟩)
        go_ret2
        exact ⟨by rw [HF.out]; rfl, HB.out⟩
    · obtain rfl : k = L.length := by omega
      have dk : decide ((L.length : Int) < (L.length : Int)) = false := decide_eq_false (by omega)
      rw [List.take_length] at hall ⊢
      have hj : joinB L = strB (jS L) := by unfold joinB; rw [if_neg (fun h => by rw [h] at h0; simp at h0)]
      have HF := hid (HZ.out.trans (joinR_good h6' hall))
      rw [hj] at HF
      clear hall hb hj
      generalize strB (jS L) = t at *
      go_wp2_with fail
      go_ret2
      exact ⟨by rw [HF.out]; rfl, HB.out⟩

theorem joinR_form (L : List ByteArray) : ∃ z er, joinR L = .tuple #[.string z, .int .i64 er] := by
  unfold joinR
  split
  · exact ⟨_, _, rfl⟩
  · exact ⟨_, _, rfl⟩

set_option maxHeartbeats 2000000 in
theorem NamesJoins_walk (w : World) (a : Option Addr) (c : Nat) (L : List ByteArray) (hr : RowS w a c L) : Calls Tryd.prog 6 #[.slice a L.length c] w fun e w' => e = .returned (.bool true) ∧ Below w.heap.size w w' := by
  have HL := hid (fun w1 (hb : Below w.heap.size w w1) => list_any a c L w1 (hr.mono hb))
  generalize listL L = M at *
  obtain ⟨z, er, hz⟩ := joinR_form M
  have H1 := fun a1 c1 w1 hr1 => join_any a1 c1 M w1 hr1
  have H2 := fun a1 c1 w1 hr1 => joinRef_any a1 c1 M w1 hr1
  rw [hz] at H1 H2
  have H1 := hid H1; have H2 := hid H2
  clear hr hz
  go_enter Tryd.func6, Tryd.ntmps6
  go_wp2_with (go_at_call 19; fail)
  refine (HL.out _ (Below.refl _ _)).mono ?_
  rintro e w1 ⟨a1, c1, rfl, o1, b1⟩
  have R1 := hid o1.row; have B1 := hid b1
  clear o1 b1
  go_wp2_with (go_at_call 20; fail)
  refine (H1.out _ _ _ R1.out).mono ?_
  rintro e w2 ⟨rfl, b2⟩
  have R2 := hid (R1.out.mono b2); have B2 := hid (kept_trans B1.out b2)
  clear b2
  go_wp2_with (go_at_call 21; fail)
  refine (H2.out _ _ _ R2.out).mono ?_
  rintro e w3 ⟨rfl, b3⟩
  have B3 := hid (kept_trans B2.out b3)
  clear b3
  go_wp2_with (go_at_call 14; fail)
  refine (lives5_any _).mono ?_
  rintro e w5 ⟨rfl, b5⟩
  have B5 := hid (kept_trans B3.out b5)
  clear b5
  go_wp2_with fail
  go_ret
  exact ⟨rfl, B5.out⟩

theorem spot_noneS {w : World} {x : Addr} {n : ByteArray} (h : w.cell? x = some (.string n)) : x.spot = none := by
  unfold World.cell? at h
  cases hs : x.spot with
  | none => rfl
  | some q => simp [hs] at h; split at h <;> simp_all
theorem open_strL {H : Type} {enc : TypeId × Value → H} {W : World} {base : Nat} {held : Bool} {a : Option Addr} {n c : Nat} {d : DataW H} {p : List MemPlace}
    (h : DataW.Trod enc Tryd.prog W base (fun _ => true) held 25 (.slice a n c) d p) : ∃ L : List ByteArray, n = L.length ∧ RowS W a c L := by
  obtain ⟨fuel, hf⟩ := h
  rcases open_strs Tryd.underlying25 Tryd.underlying9 (by kernel_rfl) hf with ⟨hcs, _⟩ | ⟨x, len, cap, m, Sx, hcs, _, hl, hm, hmm, _, hi⟩
  · simp [Value.cells] at hcs
    obtain ⟨rfl, rfl, rfl⟩ := hcs
    exact ⟨[], rfl, Row.nil _ _⟩
  · simp [Value.cells] at hcs
    obtain ⟨rfl, rfl, rfl⟩ := hcs
    have hnm : n ≤ m := by rw [hmm]; split <;> omega
    refine ⟨(List.range n).map Sx, by simp, by simp, by simpa using hl, hm, (fun h => by cases h), fun hn => ?_⟩
    have hn' : 0 < n := by simpa using hn
    have hq := (hi 0 (by omega)).1
    rw [show x.add 0 = x from by unfold Addr.add; simp] at hq
    have hsp := spot_noneS hq
    obtain ⟨b, off, sp⟩ := x
    simp at hsp
    subst hsp
    refine ⟨b, off, rfl, World.block_lt_of_cell? W _ hq, fun j u hu => ?_⟩
    have hj := (List.getElem?_eq_some_iff.1 hu).1
    simp only [List.length_map, List.length_range] at hj
    have h1 := (hi j (by omega)).1
    rw [add_plain] at h1
    simp only [List.getElem?_map, List.getElem?_range hj, Option.map_some, Option.some.injEq] at hu
    rw [h1, ← hu]; rfl
end Go.Proofs.YtbdfddefkflipaaDoor
