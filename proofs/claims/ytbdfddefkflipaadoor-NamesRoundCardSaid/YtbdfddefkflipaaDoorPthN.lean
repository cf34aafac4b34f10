/- The statements of stage 5: NamesRound. -/
import Derived.Test.YtbdfddefkflipaaDoorPthM
import Derived.Test.YtbdfddefkflipaaDoorPthH
namespace Go.Proofs.YtbdfddefkflipaaDoor
open Go.RowKit Go.Shelf Go.WideShapes Go.ChangeShapes Go.Deep
set_option linter.unusedSimpArgs false
set_option linter.unusedVariables false

theorem joinTail_cons (x : List UInt8) (r : List (List UInt8)) : Lib.joinTail [47] (x :: r) = 47 :: (x ++ Lib.joinTail [47] r) := by
  unfold Lib.joinTail; rfl
/-- the pieces, joined, are the text -/
theorem join_pieces : ∀ l : List UInt8, Lib.joinTail [47] (pieces l) = 47 :: l
  | [] => rfl
  | b :: l => by
    have ih := join_pieces l
    rw [pieces_cons]
    by_cases hb : (b == 47) = true
    · rw [if_pos hb, joinTail_cons, ih]
      rw [show b = 47 by simpa using hb]; rfl
    · rw [if_neg hb]
      cases hp : pieces l with
      | nil => exact absurd hp (pieces_ne l)
      | cons p r =>
        rw [hp, joinTail_cons] at ih
        injection ih with _ ih
        show Lib.joinTail [47] ((b :: p) :: r) = _
        rw [joinTail_cons, List.cons_append, ih]
/-- names without a slash, joined: their pieces -/
theorem pieces_join : ∀ (r : List (List UInt8)) (x : List UInt8), (∀ p ∈ x :: r, ∀ b ∈ p, b ≠ 47) → pieces (x ++ Lib.joinTail [47] r) = x :: r
  | [], x, h => by
    rw [show Lib.joinTail [47] [] = [] from rfl, List.append_nil]
    exact pieces_none (h x (by simp))
  | y :: r, x, h => by
    rw [joinTail_cons, pieces_at _ _ (h x (by simp)), pieces_join r y (fun p hp => h p (by simp at hp ⊢; exact .inr hp))]
theorem map_strB (M : List ByteArray) : (M.map (·.data.toList)).map strB = M := by
  rw [List.map_map]
  have : (strB ∘ fun (x : ByteArray) => x.data.toList) = id := by funext x; rfl
  rw [this, List.map_id]
theorem strB_map (P : List (List UInt8)) : (P.map strB).map (·.data.toList) = P := by
  rw [List.map_map]
  have : ((fun (x : ByteArray) => x.data.toList) ∘ strB) = id := by funext x; rfl
  rw [this, List.map_id]
theorem goodJ_iff {M : List ByteArray} (h : goodJ M = true) : M.length ≤ 6 ∧ M.all mayN = true := by
  unfold goodJ at h
  rw [Bool.and_eq_true, decide_eq_true_iff] at h
  exact h
theorem joinR_ok {M : List ByteArray} (h : goodJ M = true) : joinR M = .tuple #[.string (joinB M), .int .i64 0] := joinR_good (goodJ_iff h).1 (goodJ_iff h).2
theorem joinR_path {X : List UInt8} {A : List ByteArray} (h : pathO X = some A) : joinR A = .tuple #[.string (strB X), .int .i64 0] := by
  unfold pathO at h
  split at h
  · rename_i hx
    cases h
    rw [hx]; rfl
  · unfold restO at h
    split at h
    · rename_i b r hn0
      split at h
      · rename_i hb
        subst hb
        unfold namesO at h
        split at h
        · rename_i hq
          cases h
          rw [joinR_good (by rw [List.length_map]; exact hq.1) hq.2]
          have hn : (pieces r).map strB ≠ [] := fun h => pieces_ne r (by simpa using h)
          unfold joinB
          rw [if_neg hn]
          unfold jS
          rw [strB_map, join_pieces]
        · cases h
      · cases h
    · cases h
theorem path_join {M : List ByteArray} (h : goodJ M = true) : ∃ Z : List UInt8, Z.length ≤ 1000 ∧ joinB M = strB Z ∧ pathO Z = some M := by
  obtain ⟨h6, hall⟩ := goodJ_iff h
  cases M with
  | nil => exact ⟨[47], by decide, rfl, by unfold pathO; rw [if_pos rfl]⟩
  | cons x r =>
    have hl := jS_len hall
    refine ⟨jS (x :: r), by omega, by unfold joinB; rw [if_neg (by simp)], ?_⟩
    have hx : mayN x = true := by rw [List.all_cons, Bool.and_eq_true] at hall; exact hall.1
    have hxs : 1 ≤ x.data.toList.length := by
      have : 1 ≤ x.size := by unfold mayN at hx; simp at hx; omega
      have h3 : x.data.toList.length = x.size := by simp
      omega
    have hp : pieces (x.data.toList ++ Lib.joinTail [47] (r.map (·.data.toList))) = (x :: r).map (·.data.toList) := by
      rw [List.map_cons]
      refine pieces_join _ _ (fun p hp b hb e => ?_)
      rw [← List.map_cons (f := fun (x : ByteArray) => x.data.toList)] at hp
      obtain ⟨y, hy, rfl⟩ := List.mem_map.1 hp
      have h1 := List.all_eq_true.1 hall y hy
      rw [e] at hb
      rw [mayN_noslash hb] at h1
      cases h1
    unfold jS
    rw [List.map_cons, joinTail_cons]
    generalize hR : x.data.toList ++ Lib.joinTail [47] (r.map (·.data.toList)) = R at *
    have hne : R ≠ [] := fun h0 => by
      rw [h0] at hR
      have := congrArg List.length hR
      rw [List.length_append] at this
      simp only [List.length_nil] at this
      omega
    unfold pathO
    rw [if_neg (fun h0 => hne (by injection h0))]
    show (if (47 : UInt8) = 47 then namesO R else none) = _
    rw [if_pos rfl]
    have hm : (pieces R).map strB = x :: r := by rw [hp, map_strB]
    unfold namesO
    rw [hm, if_pos ⟨by rw [hp, List.length_map]; exact h6, hall⟩]

set_option maxHeartbeats 2000000 in
theorem round11 (s s0 z : ByteArray) (a : Option Addr) (c n : Nat) (A M : List ByteArray) (w : World)
    (HF : ∀ w1, Calls Tryd.prog 11 #[.string s] w1 fun e w' => e = .returned (.string s0) ∧ w1 = w')
    (HL : ∀ w1, Below w.heap.size w w1 → Calls Tryd.prog 19 #[.slice a n c] w1 fun e w' => ∃ a' c', e = .returned (.slice a' M.length c') ∧ OwnS w' w1.heap.size a' c' M ∧ Below w1.heap.size w1 w')
    (H1 : ∀ w1, Calls Tryd.prog 15 #[.string s0] w1 fun e w' => ∃ a c, e = .returned (.tuple #[.slice a A.length c, .int .i64 0]) ∧ OwnS w' w1.heap.size a c A ∧ Below w1.heap.size w1 w')
    (HJ : ∀ a c w1, RowS w1 a c A → Calls Tryd.prog 20 #[.slice a A.length c] w1 fun e w' => e = .returned (.tuple #[.string s0, .int .i64 0]) ∧ Below w1.heap.size w1 w')
    (HK : ∀ a c w1, RowS w1 a c M → Calls Tryd.prog 20 #[.slice a M.length c] w1 fun e w' => e = .returned (.tuple #[.string z, .int .i64 0]) ∧ Below w1.heap.size w1 w')
    (HP : ∀ w1, Calls Tryd.prog 15 #[.string z] w1 fun e w' => ∃ a c, e = .returned (.tuple #[.slice a M.length c, .int .i64 0]) ∧ OwnS w' w1.heap.size a c M ∧ Below w1.heap.size w1 w')
    (HS : ∀ a b c d w1, RowS w1 a c M → RowS w1 b d M → Calls Tryd.prog 17 #[.slice a M.length c, .slice b M.length d] w1 fun e w' => e = .returned (.bool true) ∧ Below w1.heap.size w1 w') :
    Calls Tryd.prog 7 #[.string s, .slice a n c] w fun e w' => e = .returned (.bool true) ∧ Below w.heap.size w w' := by
  have HF := hid HF; have HL := hid HL
  have H1 := hid H1; have HJ := hid HJ; have HK := hid HK; have HP := hid HP; have HS := hid HS
  go_enter Tryd.func7, Tryd.ntmps7
  go_wp2_with (go_at_call 11; fail)
  refine (HF.out _).mono ?_
  rintro e w0 ⟨rfl, rfl⟩
  go_wp2_with (go_at_call 19; fail)
  refine (HL.out _ (Below.refl _ _)).mono ?_
  rintro e w1 ⟨a1, c1, rfl, o1, b1⟩
  have R1 := hid o1.row; have B1 := hid b1
  clear o1 b1
  go_wp2_with (go_at_call 15; fail)
  refine (H1.out _).mono ?_
  rintro e w2 ⟨a2, c2, rfl, o2, b2⟩
  have R2 := hid (R1.out.mono b2); have RA := hid o2.row; have B2 := hid (kept_trans B1.out b2)
  clear o2 b2
  go_wp2_with (go_at_call 20; fail)
  refine (HJ.out _ _ _ RA.out).mono ?_
  rintro e w3 ⟨rfl, b3⟩
  have R3 := hid (R2.out.mono b3); have B3 := hid (kept_trans B2.out b3)
  clear b3
  go_wp2_with (go_at_call 20; fail)
  refine (HK.out _ _ _ R3.out).mono ?_
  rintro e w4 ⟨rfl, b4⟩
  have R4 := hid (R3.out.mono b4); have B4 := hid (kept_trans B3.out b4)
  clear b4
  go_wp2_with (go_at_call 15; fail)
  refine (HP.out _).mono ?_
  rintro e w5 ⟨a5, c5, rfl, o5, b5⟩
  have R5 := hid (R4.out.mono b5); have RB := hid o5.row; have B5 := hid (kept_trans B4.out b5)
  clear o5 b5
  go_wp2_with (go_at_call 17; fail)
  refine (HS.out _ _ _ _ _ RB.out R5.out).mono ?_
  rintro e w6 ⟨rfl, b6⟩
  have B6 := hid (kept_trans B5.out b6)
  clear b6
  go_wp2_with (go_at_call 14; fail)
  refine (lives5_any _).mono ?_
  rintro e w7 ⟨rfl, b7⟩
  have B7 := hid (kept_trans B6.out b7)
  clear b7
  go_wp2_with fail
  go_ret
  exact ⟨rfl, B7.out⟩

set_option maxHeartbeats 2000000 in
theorem round10 (s s0 z : ByteArray) (a : Option Addr) (c n : Nat) (A M : List ByteArray) (w : World)
    (HF : ∀ w1, Calls Tryd.prog 11 #[.string s] w1 fun e w' => e = .returned (.string s0) ∧ w1 = w')
    (HL : ∀ w1, Below w.heap.size w w1 → Calls Tryd.prog 19 #[.slice a n c] w1 fun e w' => ∃ a' c', e = .returned (.slice a' M.length c') ∧ OwnS w' w1.heap.size a' c' M ∧ Below w1.heap.size w1 w')
    (H1 : ∀ w1, Calls Tryd.prog 15 #[.string s0] w1 fun e w' => ∃ a c, e = .returned (.tuple #[.slice a A.length c, .int .i64 0]) ∧ OwnS w' w1.heap.size a c A ∧ Below w1.heap.size w1 w')
    (HJ : ∀ a c w1, RowS w1 a c A → Calls Tryd.prog 20 #[.slice a A.length c] w1 fun e w' => e = .returned (.tuple #[.string s0, .int .i64 0]) ∧ Below w1.heap.size w1 w')
    (HK : ∀ a c w1, RowS w1 a c M → Calls Tryd.prog 20 #[.slice a M.length c] w1 fun e w' => e = .returned (.tuple #[.string ⟨#[]⟩, .int .i64 15]) ∧ Below w1.heap.size w1 w') :
    Calls Tryd.prog 7 #[.string s, .slice a n c] w fun e w' => e = .returned (.bool true) ∧ Below w.heap.size w w' := by
  have HF := hid HF; have HL := hid HL
  have H1 := hid H1; have HJ := hid HJ; have HK := hid HK
  go_enter Tryd.func7, Tryd.ntmps7
  go_wp2_with (go_at_call 11; fail)
  refine (HF.out _).mono ?_
  rintro e w0 ⟨rfl, rfl⟩
  go_wp2_with (go_at_call 19; fail)
  refine (HL.out _ (Below.refl _ _)).mono ?_
  rintro e w1 ⟨a1, c1, rfl, o1, b1⟩
  have R1 := hid o1.row; have B1 := hid b1
  clear o1 b1
  go_wp2_with (go_at_call 15; fail)
  refine (H1.out _).mono ?_
  rintro e w2 ⟨a2, c2, rfl, o2, b2⟩
  have R2 := hid (R1.out.mono b2); have RA := hid o2.row; have B2 := hid (kept_trans B1.out b2)
  clear o2 b2
  go_wp2_with (go_at_call 20; fail)
  refine (HJ.out _ _ _ RA.out).mono ?_
  rintro e w3 ⟨rfl, b3⟩
  have R3 := hid (R2.out.mono b3); have B3 := hid (kept_trans B2.out b3)
  clear b3
  go_wp2_with (go_at_call 20; fail)
  refine (HK.out _ _ _ R3.out).mono ?_
  rintro e w4 ⟨rfl, b4⟩
  have R4 := hid (R3.out.mono b4); have B4 := hid (kept_trans B3.out b4)
  clear b4
  have B6 := hid B4.out
  go_wp2_with (go_at_call 14; fail)
  refine (lives5_any _).mono ?_
  rintro e w7 ⟨rfl, b7⟩
  have B7 := hid (kept_trans B6.out b7)
  clear b7
  go_wp2_with fail
  go_ret
  exact ⟨rfl, B7.out⟩

set_option maxHeartbeats 2000000 in
theorem round01 (s s0 z : ByteArray) (a : Option Addr) (c n : Nat) (A M : List ByteArray) (w : World)
    (HF : ∀ w1, Calls Tryd.prog 11 #[.string s] w1 fun e w' => e = .returned (.string s0) ∧ w1 = w')
    (HL : ∀ w1, Below w.heap.size w w1 → Calls Tryd.prog 19 #[.slice a n c] w1 fun e w' => ∃ a' c', e = .returned (.slice a' M.length c') ∧ OwnS w' w1.heap.size a' c' M ∧ Below w1.heap.size w1 w')
    (H1 : ∀ w1, Calls Tryd.prog 15 #[.string s0] w1 fun e w' => ∃ a c, e = .returned (.tuple #[.slice a 0 c, .int .i64 15]) ∧ Below w1.heap.size w1 w')
    (HK : ∀ a c w1, RowS w1 a c M → Calls Tryd.prog 20 #[.slice a M.length c] w1 fun e w' => e = .returned (.tuple #[.string z, .int .i64 0]) ∧ Below w1.heap.size w1 w')
    (HP : ∀ w1, Calls Tryd.prog 15 #[.string z] w1 fun e w' => ∃ a c, e = .returned (.tuple #[.slice a M.length c, .int .i64 0]) ∧ OwnS w' w1.heap.size a c M ∧ Below w1.heap.size w1 w')
    (HS : ∀ a b c d w1, RowS w1 a c M → RowS w1 b d M → Calls Tryd.prog 17 #[.slice a M.length c, .slice b M.length d] w1 fun e w' => e = .returned (.bool true) ∧ Below w1.heap.size w1 w') :
    Calls Tryd.prog 7 #[.string s, .slice a n c] w fun e w' => e = .returned (.bool true) ∧ Below w.heap.size w w' := by
  have HF := hid HF; have HL := hid HL
  have H1 := hid H1; have HK := hid HK; have HP := hid HP; have HS := hid HS
  go_enter Tryd.func7, Tryd.ntmps7
  go_wp2_with (go_at_call 11; fail)
  refine (HF.out _).mono ?_
  rintro e w0 ⟨rfl, rfl⟩
  go_wp2_with (go_at_call 19; fail)
  refine (HL.out _ (Below.refl _ _)).mono ?_
  rintro e w1 ⟨a1, c1, rfl, o1, b1⟩
  have R1 := hid o1.row; have B1 := hid b1
  clear o1 b1
  go_wp2_with (go_at_call 15; fail)
  refine (H1.out _).mono ?_
  rintro e w3 ⟨a2, c2, rfl, b3⟩
  have R3 := hid (R1.out.mono b3); have B3 := hid (kept_trans B1.out b3)
  clear b3
  go_wp2_with (go_at_call 20; fail)
  refine (HK.out _ _ _ R3.out).mono ?_
  rintro e w4 ⟨rfl, b4⟩
  have R4 := hid (R3.out.mono b4); have B4 := hid (kept_trans B3.out b4)
  clear b4
  go_wp2_with (go_at_call 15; fail)
  refine (HP.out _).mono ?_
  rintro e w5 ⟨a5, c5, rfl, o5, b5⟩
  have R5 := hid (R4.out.mono b5); have RB := hid o5.row; have B5 := hid (kept_trans B4.out b5)
  clear o5 b5
  go_wp2_with (go_at_call 17; fail)
  refine (HS.out _ _ _ _ _ RB.out R5.out).mono ?_
  rintro e w6 ⟨rfl, b6⟩
  have B6 := hid (kept_trans B5.out b6)
  clear b6
  go_wp2_with (go_at_call 14; fail)
  refine (lives5_any _).mono ?_
  rintro e w7 ⟨rfl, b7⟩
  have B7 := hid (kept_trans B6.out b7)
  clear b7
  go_wp2_with fail
  go_ret
  exact ⟨rfl, B7.out⟩

set_option maxHeartbeats 2000000 in
theorem round00 (s s0 z : ByteArray) (a : Option Addr) (c n : Nat) (A M : List ByteArray) (w : World)
    (HF : ∀ w1, Calls Tryd.prog 11 #[.string s] w1 fun e w' => e = .returned (.string s0) ∧ w1 = w')
    (HL : ∀ w1, Below w.heap.size w w1 → Calls Tryd.prog 19 #[.slice a n c] w1 fun e w' => ∃ a' c', e = .returned (.slice a' M.length c') ∧ OwnS w' w1.heap.size a' c' M ∧ Below w1.heap.size w1 w')
    (H1 : ∀ w1, Calls Tryd.prog 15 #[.string s0] w1 fun e w' => ∃ a c, e = .returned (.tuple #[.slice a 0 c, .int .i64 15]) ∧ Below w1.heap.size w1 w')
    (HK : ∀ a c w1, RowS w1 a c M → Calls Tryd.prog 20 #[.slice a M.length c] w1 fun e w' => e = .returned (.tuple #[.string ⟨#[]⟩, .int .i64 15]) ∧ Below w1.heap.size w1 w') :
    Calls Tryd.prog 7 #[.string s, .slice a n c] w fun e w' => e = .returned (.bool true) ∧ Below w.heap.size w w' := by
  have HF := hid HF; have HL := hid HL
  have H1 := hid H1; have HK := hid HK
  go_enter Tryd.func7, Tryd.ntmps7
  go_wp2_with (go_at_call 11; fail)
  refine (HF.out _).mono ?_
  rintro e w0 ⟨rfl, rfl⟩
  go_wp2_with (go_at_call 19; fail)
  refine (HL.out _ (Below.refl _ _)).mono ?_
  rintro e w1 ⟨a1, c1, rfl, o1, b1⟩
  have R1 := hid o1.row; have B1 := hid b1
  clear o1 b1
  go_wp2_with (go_at_call 15; fail)
  refine (H1.out _).mono ?_
  rintro e w3 ⟨a2, c2, rfl, b3⟩
  have R3 := hid (R1.out.mono b3); have B3 := hid (kept_trans B1.out b3)
  clear b3
  go_wp2_with (go_at_call 20; fail)
  refine (HK.out _ _ _ R3.out).mono ?_
  rintro e w4 ⟨rfl, b4⟩
  have R4 := hid (R3.out.mono b4); have B4 := hid (kept_trans B3.out b4)
  clear b4
  have B6 := hid B4.out
  go_wp2_with (go_at_call 14; fail)
  refine (lives5_any _).mono ?_
  rintro e w7 ⟨rfl, b7⟩
  have B7 := hid (kept_trans B6.out b7)
  clear b7
  go_wp2_with fail
  go_ret
  exact ⟨rfl, B7.out⟩

theorem NamesRound_walk (w : World) (s : ByteArray) (ws : s.size ≤ maxLen) (a : Option Addr) (c : Nat) (L : List ByteArray) (hr : RowS w a c L) : Calls Tryd.prog 7 #[.string s, .slice a L.length c] w fun e w' => e = .returned (.bool true) ∧ Below w.heap.size w w' := by
  have hX := fewL_len s.data.toList
  have HF := fun w1 => few5_any s w1
  have HL := fun w1 (hb : Below w.heap.size w w1) => list_any a c L w1 (hr.mono hb)
  have HK := fun a1 c1 w1 (hr1 : RowS w1 a1 c1 (listL L)) => join_any a1 c1 (listL L) w1 hr1
  have HS := fun a1 b1 c1 d1 w1 (h1 : RowS w1 a1 c1 (listL L)) (h2 : RowS w1 b1 d1 (listL L)) => sameS_any (listL L) a1 b1 c1 d1 w1 h1 h2
  generalize fewL s.data.toList = X at *
  generalize listL L = M at *
  cases hk : goodJ M with
  | true =>
    have hkr := joinR_ok hk
    obtain ⟨Z, hZ, hz, hpz⟩ := path_join hk
    rw [hkr, hz] at HK
    have HP := fun w1 => path_some Z hZ hpz w1
    cases ho : pathO X with
    | some A =>
      have HJ := fun a1 c1 w1 (h1 : RowS w1 a1 c1 A) => join_any a1 c1 A w1 h1
      rw [joinR_path ho] at HJ
      exact round11 s (strB X) (strB Z) a c L.length A M w HF HL (fun w1 => path_some X hX ho w1) HJ HK HP HS
    | none => exact round01 s (strB X) (strB Z) a c L.length [] M w HF HL (fun w1 => lvN X hX ho w1) HK HP HS
  | false =>
    have hkr : joinR M = .tuple #[.string ⟨#[]⟩, .int .i64 15] := by unfold joinR; rw [hk]; rfl
    rw [hkr] at HK
    cases ho : pathO X with
    | some A =>
      have HJ := fun a1 c1 w1 (h1 : RowS w1 a1 c1 A) => join_any a1 c1 A w1 h1
      rw [joinR_path ho] at HJ
      exact round10 s (strB X) (strB X) a c L.length A M w HF HL (fun w1 => path_some X hX ho w1) HJ HK
    | none => exact round00 s (strB X) (strB X) a c L.length [] M w HF HL (fun w1 => lvN X hX ho w1) HK
end Go.Proofs.YtbdfddefkflipaaDoor
