/- The statements of stage 5: list; names.Join, the document's Join. -/
import Derived.Test.YtbdfddefkflipaaDoorPthG
import Derived.Test.YtbdfddefkflipaaDoorShelfJ
namespace Go.Proofs.YtbdfddefkflipaaDoor
open Go.RowKit Go.Shelf
set_option linter.unusedSimpArgs false
set_option linter.unusedVariables false

/-- the first twenty bytes -/
def cutS (x : ByteArray) : ByteArray := strB (x.data.toList.take 20)
/-- the first nine names -/
def listL (L : List ByteArray) : List ByteArray := (L.take 9).map cutS
theorem cutS_low {x : ByteArray} (h : x.size ≤ 20) : cutS x = x := by
  have hl : x.data.toList.length = x.size := by simp
  unfold cutS; rw [List.take_of_length_le (by omega)]; rfl
theorem cutS_up (x : ByteArray) : cutS x = x.extract 0 20 := by rw [ext_str]; rfl
theorem cutS_size (x : ByteArray) : (cutS x).size ≤ 20 := by unfold cutS; rw [strB_size, List.length_take]; omega
theorem listL_len (L : List ByteArray) : (listL L).length ≤ 9 := by unfold listL; rw [List.length_map, List.length_take]; omega
theorem listL_mem {L : List ByteArray} {x : ByteArray} (h : x ∈ listL L) : x.size ≤ 20 := by
  unfold listL at h
  obtain ⟨y, _, rfl⟩ := List.mem_map.1 h
  exact cutS_size y

set_option maxHeartbeats 2000000 in
theorem list_any (a : Option Addr) (c : Nat) (L : List ByteArray) (w : World) (hr : RowS w a c L) :
    Calls Tryd.prog 19 #[.slice a L.length c] w fun e w' => ∃ a' c', e = .returned (.slice a' (listL L).length c') ∧ OwnS w' w.heap.size a' c' (listL L) ∧ Below w.heap.size w w' := by
  have HR := hid hr
  have hl := rowS_len hr
  clear hr
  go_enter Tryd.func19, Tryd.ntmps19
  go_wp2_with fail
  go_loopw [3, 4] (fun o i wr => ∃ (j : Nat) (a1 : Option Addr) (c1 : Nat), j ≤ L.length ∧ j ≤ 9 ∧ i = .int .i64 j ∧ o = .slice a1 j c1 ∧ OwnS wr w.heap.size a1 c1 ((L.take j).map cutS) ∧ Below w.heap.size w wr) (fun _ i _ => L.length - (intOf i).toNat)
  case atStart => exact ⟨0, none, 0, by omega, by omega, by first | rfl | go_num, by first | rfl | go_num, Own.nil _ _ _ _, Below.refl _ _⟩
  case round =>
    obtain ⟨j, a1, c1, hj, hj9, rfl, rfl, ho, hb⟩ := hrel
    have HO := hid ho; have HB := hid hb
    clear ho hb
    by_cases hlt : j < L.length ∧ j < 9
    · obtain ⟨hlt, h9⟩ := hlt
      obtain ⟨b, off, rfl, hbl, hc⟩ := rowS_cells (HR.out.mono HB.out) (by omega)
      have cj := hc j hlt
      have ij : (j : Int) < L.length := by omega
      have ij9 : (j : Int) < 9 := by omega
      have dj : decide ((j : Int) < (L.length : Int)) = true := decide_eq_true ij
      have d9 : decide ((j : Int) < 9) = true := decide_eq_true ij9
      have htk : (L.take (j + 1)).map cutS = (L.take j).map cutS ++ [cutS L[j]] := by rw [List.take_succ_eq_append_getElem hlt, List.map_append]; rfl
      have HTK := hid htk
      clear hc htk
      generalize L[j] = x at *
      have HO1 : Own wr w.heap.size 9 1 a1 j c1 (((L.take j).map cutS).map strV) := by have := HO.out; unfold OwnS at this; rw [List.length_map, List.length_take, Nat.min_eq_left (by omega)] at this; exact this
      have HO2 := hid HO1
      have R1 := hid (row_blkO (blk_newO (W := wr) rfl 9 [.string (cutS x)]) 1 1 rfl (by omega))
      clear HO1
      by_cases h20 : x.size ≤ 20
      · have d20 : decide (20 < (x.size : Int)) = false := decide_eq_false (by omega)
        have ex := cutS_low h20
        rw [ex] at R1 HTK
        clear ex h20
        go_wp2_with (at_builtin; (refine wpl_append rfl (.tmp 25) (.tmp 27) rfl ES w.heap.size rfl rfl (HO2.out.alloc (.cells #[.string x] 9)) R1.out (by intro u hu; simp only [List.mem_cons, List.not_mem_nil, or_false] at hu; subst hu; rfl) (by omega) (by omega) (Nat.le_trans HB.out.size (by simp)) ?_); intro a2 c2 w2 o2 g2 b2; have O2 := hid o2; have B2 := hid ((HB.out.alloc HB.out.size (.cells #[.string x] 9)).trans b2); clear o2 g2 b2)
        go_roundw
        case rel =>
          refine ⟨j + 1, a2, c2, by omega, by omega, by go_num, rfl, ?_, B2.out⟩
          have := O2.out
          unfold OwnS
          rw [HTK.out, List.length_append, List.length_map, List.length_take, Nat.min_eq_left (by omega), List.map_append]
          exact this
        case measure => simp [intOf]; omega
      · have d20 : decide (20 < (x.size : Int)) = true := decide_eq_true (by omega)
        have i20 : (20 : Int) ≤ x.size := by omega
        rw [cutS_up] at R1 HTK
        clear h20
        go_wp2_with (at_builtin; (refine wpl_append rfl (.tmp 25) (.tmp 27) rfl ES w.heap.size rfl rfl (HO2.out.alloc (.cells #[.string (x.extract 0 20)] 9)) R1.out (by intro u hu; simp only [List.mem_cons, List.not_mem_nil, or_false] at hu; subst hu; rfl) (by omega) (by omega) (Nat.le_trans HB.out.size (by simp)) ?_); intro a2 c2 w2 o2 g2 b2; have O2 := hid o2; have B2 := hid ((HB.out.alloc HB.out.size (.cells #[.string (x.extract 0 20)] 9)).trans b2); clear o2 g2 b2)
        go_roundw
        case rel =>
          refine ⟨j + 1, a2, c2, by omega, by omega, by go_num, rfl, ?_, B2.out⟩
          have := O2.out
          unfold OwnS
          rw [HTK.out, List.length_append, List.length_map, List.length_take, Nat.min_eq_left (by omega), List.map_append]
          exact this
        case measure => simp [intOf]; omega
    · have he : (L.take j).map cutS = listL L := by
        unfold listL
        by_cases h9 : j = 9
        · rw [h9]
        · rw [List.take_of_length_le (by omega), List.take_of_length_le (by omega)]
      have hjn : j = (listL L).length := by rw [← he, List.length_map, List.length_take]; omega
      have HJN := hid hjn
      rw [he] at HO
      clear he hjn
      by_cases hj2 : j < L.length
      · obtain rfl : j = 9 := by omega
        have ij : ((9 : Nat) : Int) < L.length := by omega
        have dj : decide (((9 : Nat) : Int) < (L.length : Int)) = true := decide_eq_true ij
        have dj' : decide ((9 : Int) < (L.length : Int)) = true := decide_eq_true ij
        go_wp2_with fail
        go_ret
        exact ⟨_, _, by rw [← HJN.out]; rfl, HO.out, HB.out⟩
      · obtain rfl : j = L.length := by omega
        have dj : decide ((L.length : Int) < (L.length : Int)) = false := decide_eq_false (by omega)
        go_wp2_with fail
        go_ret
        exact ⟨_, _, by rw [← HJN.out]; rfl, HO.out, HB.out⟩

/-- a slash before each -/
def jS (L : List ByteArray) : List UInt8 := Lib.joinTail [47] (L.map (·.data.toList))
def joinB (L : List ByteArray) : ByteArray := if L = [] then strB [47] else strB (jS L)
def goodJ (L : List ByteArray) : Bool := decide (L.length ≤ 6) && L.all mayN
def joinR (L : List ByteArray) : Value := if goodJ L then .tuple #[.string (joinB L), .int .i64 0] else .tuple #[.string ⟨#[]⟩, .int .i64 15]
theorem strB_app (a b : List UInt8) : strB a ++ strB b = strB (a ++ b) := by
  apply ByteArray.ext
  rw [ByteArray.data_append]
  apply Array.ext'
  rw [Array.toList_append]; rfl
theorem joinB_of (L : List ByteArray) : strB (47 :: Lib.join (L.map (·.data.toList)) [47]) = joinB L := by
  cases L with
  | nil => rfl
  | cons x r =>
    unfold joinB
    rw [if_neg (by simp)]
    unfold jS
    rw [List.map_cons, Lib.join_cons]
    congr 1
theorem mayN_size {x : ByteArray} (h : mayN x = true) : x.size ≤ 12 := by
  unfold mayN at h
  simp at h
  omega
theorem lens_le : ∀ (L : List ByteArray), L.all mayN = true → Lib.lens (L.map (·.data.toList)) ≤ 12 * L.length
  | [], _ => by simp [Lib.lens]
  | x :: r, h => by
    rw [List.all_cons, Bool.and_eq_true] at h
    have h1 := lens_le r h.2
    have h2 := mayN_size h.1
    have h3 : x.data.toList.length = x.size := by simp
    unfold Lib.lens at h1 ⊢
    rw [List.map_cons, List.map_cons, List.sum_cons, List.length_cons]
    omega
theorem join_short {L : List ByteArray} (h6 : L.length ≤ 6) (h : L.all mayN = true) : (Lib.join (L.map (·.data.toList)) [47]).length ≤ 140737488355328 := by
  have h1 := lens_le L h
  cases L with
  | nil => simp [Lib.join_nil]
  | cons x r =>
    rw [List.map_cons] at h1 ⊢
    have h2 := Lib.join_length x.data.toList (r.map (·.data.toList)) [47]
    simp only [List.length_cons, List.length_nil, List.length_map] at h2 h6 h1
    omega
theorem sjoin_any (a : Option Addr) (c : Nat) (L : List ByteArray) (w : World) (h : RowS w a c L) (h6 : L.length ≤ 6) (hall : L.all mayN = true) :
    Calls Tryd.prog 30 #[.slice a L.length c, .string ⟨#[47]⟩] w fun e w' => e = .returned (.string (strB (Lib.join (L.map (·.data.toList)) [47]))) ∧ Below w.heap.size w w' := by
  cases L with
  | nil => exact (strings_Join_none a c ⟨#[47]⟩ w).mono fun e w' h => ⟨h.1, h.2 ▸ Below.refl _ _⟩
  | cons x r =>
    obtain ⟨b, off, rfl, hb, hc⟩ := rowS_cells h (by simp)
    refine (strings_Join b off c (x :: r) ⟨#[47]⟩ w (fun j y hy => ?_) hb (by omega) h.2.1 (join_short h6 hall)).mono fun e w' h => h
    obtain ⟨hj, rfl⟩ := List.getElem?_eq_some_iff.1 hy
    exact hc j hj

theorem joinR_bad {L : List ByteArray} (h : 6 < L.length ∨ L.all mayN = false) : joinR L = .tuple #[.string ⟨#[]⟩, .int .i64 15] := by
  unfold joinR
  rw [if_neg]
  unfold goodJ
  rw [Bool.and_eq_true, decide_eq_true_iff]
  rintro ⟨h1, h2⟩
  rcases h with h | h
  · omega
  · rw [h2] at h; cases h
theorem joinR_good {L : List ByteArray} (h6 : L.length ≤ 6) (h : L.all mayN = true) : joinR L = .tuple #[.string (joinB L), .int .i64 0] := by
  unfold joinR
  rw [if_pos]
  unfold goodJ
  rw [h, decide_eq_true h6]; rfl
theorem strB_slash (l : List UInt8) : (⟨#[47]⟩ : ByteArray) ++ strB l = strB (47 :: l) := strB_app [47] l

set_option maxHeartbeats 2000000 in
theorem join_any (a : Option Addr) (c : Nat) (L : List ByteArray) (w : World) (h : RowS w a c L) :
    Calls Tryd.prog 20 #[.slice a L.length c] w fun e w' => e = .returned (joinR L) ∧ Below w.heap.size w w' := by
  have hl := rowS_len h
  by_cases h6 : L.length ≤ 6
  · have d6 : decide (6 < (L.length : Int)) = false := decide_eq_false (by omega)
    have HA := fun w1 (hb : Below w.heap.size w w1) => areNames_any a c L w1 (h.mono hb)
    cases hall : L.all mayN with
    | false =>
      rw [hall] at HA
      rw [joinR_bad (.inr hall)]
      have HA := hid HA
      clear h hall
      go_enter Tryd.func20, Tryd.ntmps20
      go_wp2_with (go_at_call 29; refine (HA.out _ (Below.refl _ _)).mono ?_; rintro e w1 ⟨rfl, b1⟩; have B1 := hid b1; clear b1)
      go_ret2
      exact ⟨rfl, B1.out⟩
    | true =>
      rw [hall] at HA
      rw [joinR_good h6 hall]
      have hjb := joinB_of L
      have hsz : (strB (Lib.join (L.map (·.data.toList)) [47])).size ≤ 140737488355328 := by rw [strB_size]; exact join_short h6 hall
      have HS := hid (fun w1 (hb : Below w.heap.size w w1) => sjoin_any a c L w1 (h.mono hb) h6 hall)
      generalize Lib.join (L.map (·.data.toList)) [47] = J at *
      have hsl := strB_slash J
      rw [hjb] at hsl
      generalize strB J = t at *
      generalize joinB L = z at *
      have hs1 : (⟨#[47]⟩ : ByteArray).size = 1 := rfl
      have hs2 : (1 : Nat) + t.size ≤ 9223372036854775807 := by omega
      have hs3 : (1 : Int) + t.size ≤ 9223372036854775807 := by omega
      have hs4 : ¬ ((⟨#[47]⟩ : ByteArray).size + t.size > 9223372036854775807) := by rw [hs1]; omega
      have hs5 : ¬ ((⟨#[47]⟩ : ByteArray).size + t.size > 9223372036854775807) := hs4
      have hs6 : ¬ (9223372036854775807 < 1 + t.size) := by omega
      have hs7 : 1 + t.size ≤ 9223372036854775807 := by omega
      have HA := hid HA
      clear h hall hjb h6
      go_enter Tryd.func20, Tryd.ntmps20
      go_wp2_with (first
        | (go_at_call 29; refine (HA.out _ (Below.refl _ _)).mono ?_; rintro e w1 ⟨rfl, b1⟩; have B1 := hid b1; clear b1)
        | (go_at_call 30; refine (HS.out _ B1.out).mono ?_; rintro e w2 ⟨rfl, b2⟩; have B2 := hid (kept_trans B1.out b2); clear b2))
      go_ret2
      exact ⟨rfl, B2.out⟩
  · have d6 : decide (6 < (L.length : Int)) = true := decide_eq_true (by omega)
    rw [joinR_bad (.inl (by omega))]
    clear h h6
    go_enter Tryd.func20, Tryd.ntmps20
    go_wp2_with fail
    go_ret2
    exact ⟨rfl, Below.refl _ _⟩
end Go.Proofs.YtbdfddefkflipaaDoor
