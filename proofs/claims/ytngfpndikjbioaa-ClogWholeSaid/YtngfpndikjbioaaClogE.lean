import Derived.Test.YtngfpndikjbioaaLib
namespace Go.Proofs.Ytngfpndikjbioaa
open Go.RowKit
set_option linter.unusedSimpArgs false
set_option linter.unusedVariables false

theorem results_tmp3 {fn : Func} {t u v : Tmp} (h : fn.results = #[.tmp t, .tmp u, .tmp v]) (tmps : Array Value) (P : Program) (w : World) :
    (results fn tmps).run P w = .ok (.tuple #[tmps.getD t undef, tmps.getD u undef, tmps.getD v undef]) w := by
  simp [results, h]

def okE (p n : Int) : Bool := decide (0 ≤ p ∧ p ≤ 1073741824 ∧ 0 ≤ n ∧ n ≤ 1016 ∧ n % 8 = 0)
def endX (p n : Int) : Int := if okE p n then 4294967296 * p + n else 0
def endE (p n : Int) : Int := if okE p n then 0 else 1
def endR (p n : Int) : Int := if okE p n then 4294967296 * p + n else -1
theorem okE_cases (p n : Int) : (p < 0) ∨ (0 ≤ p ∧ 1073741824 < p) ∨ (0 ≤ p ∧ p ≤ 1073741824 ∧ n < 0) ∨ (0 ≤ p ∧ p ≤ 1073741824 ∧ 0 ≤ n ∧ 1016 < n) ∨ (0 ≤ p ∧ p ≤ 1073741824 ∧ 0 ≤ n ∧ n ≤ 1016 ∧ ¬ n % 8 = 0) ∨ (0 ≤ p ∧ p ≤ 1073741824 ∧ 0 ≤ n ∧ n ≤ 1016 ∧ n % 8 = 0) := by omega
theorem okE_f {p n : Int} (h : ¬ (0 ≤ p ∧ p ≤ 1073741824 ∧ 0 ≤ n ∧ n ≤ 1016 ∧ n % 8 = 0)) : okE p n = false := decide_eq_false h
theorem okE_t {p n : Int} (h : 0 ≤ p ∧ p ≤ 1073741824 ∧ 0 ≤ n ∧ n ≤ 1016 ∧ n % 8 = 0) : okE p n = true := decide_eq_true h

set_option maxHeartbeats 2000000 in
theorem end_any (p n : Int) (w : World) :
    Calls Try.prog 17 #[.int .i64 p, .int .i64 n] w fun e w' => e = .returned (.tuple #[.int .i64 (endX p n), .int .i64 (endE p n)]) ∧ w = w' := by
  rcases okE_cases p n with a1 | ⟨a1, a2⟩ | ⟨a1, a2, a3⟩ | ⟨a1, a2, a3, a4⟩ | ⟨a1, a2, a3, a4, a5⟩ | ⟨a1, a2, a3, a4, a5⟩
  all_goals
    first
      | (have h1 : endX p n = 4294967296 * p + n := by unfold endX; rw [okE_t (by omega), if_pos rfl]
         have h2 : endE p n = 0 := by unfold endE; rw [okE_t (by omega), if_pos rfl]
         rw [h1, h2]
         clear h1 h2)
      | (have h1 : endX p n = 0 := by unfold endX; rw [okE_f (by omega)]; rfl
         have h2 : endE p n = 1 := by unfold endE; rw [okE_f (by omega)]; rfl
         rw [h1, h2]
         clear h1 h2)
    try (have hb : (n % 8 != 0) = true := by simp; omega)
    go_enter Try.func17, Try.ntmps17
    go_wp2_with fail
    go_ret2
    exact ⟨rfl, rfl⟩

set_option maxHeartbeats 2000000 in
theorem endRef_any (p n : Int) (w : World) :
    Calls Try.prog 18 #[.int .i64 p, .int .i64 n] w fun e w' => e = .returned (.int .i64 (endR p n)) ∧ w = w' := by
  rcases okE_cases p n with a1 | ⟨a1, a2⟩ | ⟨a1, a2, a3⟩ | ⟨a1, a2, a3, a4⟩ | ⟨a1, a2, a3, a4, a5⟩ | ⟨a1, a2, a3, a4, a5⟩
  all_goals
    first
      | (have h1 : endR p n = 4294967296 * p + n := by unfold endR; rw [okE_t (by omega), if_pos rfl]
         rw [h1]
         clear h1)
      | (have h1 : endR p n = -1 := by unfold endR; rw [okE_f (by omega)]; rfl
         rw [h1]
         clear h1)
    try (have hb : (n % 8 != 0) = true := by simp; omega)
    go_enter Try.func18, Try.ntmps18
    go_wp2_with fail
    go_ret
    exact ⟨ret_int (by omega), rfl⟩

def okS (x : Int) : Bool := decide (0 ≤ x) && okE (x / 4294967296) (x % 4294967296)
def splitV (x : Int) : Value := if okS x then .tuple #[.int .i64 (x / 4294967296), .int .i64 (x % 4294967296), .bool true] else .tuple #[.int .i64 0, .int .i64 0, .bool false]

set_option maxHeartbeats 2000000 in
theorem split_any (x : Int) (w : World) (hx : x ≤ 9223372036854775807) :
    Calls Try.prog 19 #[.int .i64 x] w fun e w' => e = .returned (splitV x) ∧ w = w' := by
  rcases (by omega : x < 0 ∨ 0 ≤ x) with h0 | h0
  · have h1 : splitV x = .tuple #[.int .i64 0, .int .i64 0, .bool false] := by
      unfold splitV okS; rw [decide_eq_false (by omega)]; rfl
    rw [h1]
    clear h1
    go_enter Try.func19, Try.ntmps19
    go_wp2_with fail
    refine bodyPost_ret (results_tmp3 rfl _ _ _) rfl ?_
    exact ⟨rfl, rfl⟩
  · have he := end_any (x / 4294967296) (x % 4294967296) w
    unfold endX endE at he
    by_cases hok : okE (x / 4294967296) (x % 4294967296) = true
    · have h1 : splitV x = .tuple #[.int .i64 (x / 4294967296), .int .i64 (x % 4294967296), .bool true] := by
        unfold splitV okS; rw [hok, decide_eq_true h0]; rfl
      rw [h1]
      simp only [hok, if_true] at he
      have HE := hid he
      clear h1 he hok
      go_enter Try.func19, Try.ntmps19
      go_wp2_with fail
      refine HE.out.mono ?_
      rintro e w1 ⟨rfl, rfl⟩
      go_wp2_with fail
      refine bodyPost_ret (results_tmp3 rfl _ _ _) rfl ?_
      exact ⟨rfl, rfl⟩
    · have hok' : okE (x / 4294967296) (x % 4294967296) = false := by simpa using hok
      have h1 : splitV x = .tuple #[.int .i64 0, .int .i64 0, .bool false] := by
        unfold splitV okS; rw [hok', Bool.and_false]; rfl
      rw [h1]
      simp only [hok, if_false] at he
      have HE := hid he
      clear h1 he hok hok'
      go_enter Try.func19, Try.ntmps19
      go_wp2_with fail
      refine HE.out.mono ?_
      rintro e w1 ⟨rfl, rfl⟩
      go_wp2_with fail
      refine bodyPost_ret (results_tmp3 rfl _ _ _) rfl ?_
      exact ⟨rfl, rfl⟩

set_option maxHeartbeats 2000000 in
theorem lives16_any (w : World) : Calls Try.prog 13 #[] w fun e w' => e = .returned (.bool true) ∧ w = w' := by
  have h1 := fun w1 => end_any 1 24 w1
  have h2 := fun w1 => split_any 4294967320 w1 (by omega)
  rw [show endX 1 24 = 4294967320 from rfl, show endE 1 24 = 0 from rfl] at h1
  rw [show splitV 4294967320 = .tuple #[.int .i64 1, .int .i64 24, .bool true] from rfl] at h2
  have H1 := hid h1; have H2 := hid h2
  clear h1 h2
  go_enter Try.func13, Try.ntmps13
  go_wp2_with fail
  refine (H1.out w).mono ?_
  rintro e w1 ⟨rfl, rfl⟩
  go_wp2_with fail
  refine (H2.out w).mono ?_
  rintro e w1 ⟨rfl, rfl⟩
  go_wp2_with fail
  go_ret
  exact ⟨rfl, rfl⟩

set_option maxHeartbeats 8000000 in
theorem ClogEnds_walk (w : World) (p : Int) (hp : (Lit.int .i64 p).wf = true) (n : Int) (hn : (Lit.int .i64 n).wf = true) (x : Int) (hx : (Lit.int .i64 x).wf = true) :
    Calls Try.prog 6 #[.int .i64 p, .int .i64 n, .int .i64 x] w fun e w' => e = .returned (.bool true) ∧ Below w.heap.size w w' := by
  have hxb := i64_bd hx
  have hnb := i64_bd hn
  have hpb := i64_bd hp
  clear hx hn hp
  have HL := hid (fun w1 => lives16_any w1)
  have he := fun w1 => end_any p n w1
  have hr := fun w1 => endRef_any p n w1
  have hs := fun w1 => split_any x w1 hxb.2
  have hr2 := fun w1 => endRef_any (x / 4294967296) (x % 4294967296) w1
  unfold endX endE at he
  unfold endR at hr hr2
  by_cases h1 : okE p n = true
  · have hpn : 0 ≤ p ∧ p ≤ 1073741824 ∧ 0 ≤ n ∧ n ≤ 1016 ∧ n % 8 = 0 := of_decide_eq_true h1
    have hd1 : (4294967296 * p + n) / 4294967296 = p := by omega
    have hd2 : (4294967296 * p + n) % 4294967296 = n := by omega
    have hs1 := fun w1 => split_any (4294967296 * p + n) w1 (by omega)
    have hsv : splitV (4294967296 * p + n) = .tuple #[.int .i64 p, .int .i64 n, .bool true] := by
      unfold splitV okS; rw [hd1, hd2, h1, decide_eq_true (by omega)]; rfl
    rw [hsv] at hs1
    simp only [h1, if_true] at he hr
    have HE := hid he; have HR := hid hr; have HS1 := hid hs1
    obtain ⟨q0, q1⟩ : 0 ≤ 4294967296 * p + n ∧ 4294967296 * p + n ≤ 4611686018427388920 := by omega
    clear h1 hd1 hd2 hsv he hr hs1 hpn
    generalize 4294967296 * p + n = y at *
    by_cases hx0 : x < 0
    · have hv : splitV x = .tuple #[.int .i64 0, .int .i64 0, .bool false] := by
        unfold splitV okS; rw [decide_eq_false (by omega)]; rfl
      rw [hv] at hs
      have HS := hid hs
      clear hs hr2 hv
      go_enter Try.func6, Try.ntmps6
      go_wp2_with fail
      refine (HE.out w).mono ?_
      rintro e w1 ⟨rfl, rfl⟩
      go_wp2_with fail
      refine (HR.out w).mono ?_
      rintro e w1 ⟨rfl, rfl⟩
      go_wp2_with fail
      refine (HS1.out w).mono ?_
      rintro e w1 ⟨rfl, rfl⟩
      go_wp2_with fail
      refine (HS.out w).mono ?_
      rintro e w1 ⟨rfl, rfl⟩
      go_wp2_with fail
      refine (HL.out w).mono ?_
      rintro e w1 ⟨rfl, rfl⟩
      go_wp2_with fail
      go_ret
      exact ⟨rfl, Below.refl _ _⟩
    · have hx0' : 0 ≤ x := by omega
      by_cases h2 : okE (x / 4294967296) (x % 4294967296) = true
      · have hv : splitV x = .tuple #[.int .i64 (x / 4294967296), .int .i64 (x % 4294967296), .bool true] := by
          unfold splitV okS; rw [h2, decide_eq_true hx0']; rfl
        have hxx : 4294967296 * (x / 4294967296) + x % 4294967296 = x := by omega
        rw [hv] at hs
        simp only [h2, if_true, hxx] at hr2
        have HS := hid hs; have HR2 := hid hr2
        clear hs hr2 hv h2 hxx
        go_enter Try.func6, Try.ntmps6
        go_wp2_with fail
        refine (HE.out w).mono ?_
        rintro e w1 ⟨rfl, rfl⟩
        go_wp2_with fail
        refine (HR.out w).mono ?_
        rintro e w1 ⟨rfl, rfl⟩
        go_wp2_with fail
        refine (HS1.out w).mono ?_
        rintro e w1 ⟨rfl, rfl⟩
        go_wp2_with fail
        refine (HS.out w).mono ?_
        rintro e w1 ⟨rfl, rfl⟩
        go_wp2_with fail
        refine (HR2.out w).mono ?_
        rintro e w1 ⟨rfl, rfl⟩
        go_wp2_with fail
        refine (HL.out w).mono ?_
        rintro e w1 ⟨rfl, rfl⟩
        go_wp2_with fail
        go_ret
        exact ⟨rfl, Below.refl _ _⟩
      · have hv : splitV x = .tuple #[.int .i64 0, .int .i64 0, .bool false] := by
          unfold splitV okS; rw [show okE (x / 4294967296) (x % 4294967296) = false from by simpa using h2, Bool.and_false]; rfl
        rw [hv] at hs
        simp only [h2, if_false] at hr2
        have HS := hid hs; have HR2 := hid hr2
        clear hs hr2 hv h2
        go_enter Try.func6, Try.ntmps6
        go_wp2_with fail
        refine (HE.out w).mono ?_
        rintro e w1 ⟨rfl, rfl⟩
        go_wp2_with fail
        refine (HR.out w).mono ?_
        rintro e w1 ⟨rfl, rfl⟩
        go_wp2_with fail
        refine (HS1.out w).mono ?_
        rintro e w1 ⟨rfl, rfl⟩
        go_wp2_with fail
        refine (HS.out w).mono ?_
        rintro e w1 ⟨rfl, rfl⟩
        go_wp2_with fail
        refine (HR2.out w).mono ?_
        rintro e w1 ⟨rfl, rfl⟩
        go_wp2_with fail
        refine (HL.out w).mono ?_
        rintro e w1 ⟨rfl, rfl⟩
        go_wp2_with fail
        go_ret
        exact ⟨rfl, Below.refl _ _⟩
  · simp only [h1, if_false] at he hr
    have HE := hid he; have HR := hid hr
    clear h1 he hr
    by_cases hx0 : x < 0
    · have hv : splitV x = .tuple #[.int .i64 0, .int .i64 0, .bool false] := by
        unfold splitV okS; rw [decide_eq_false (by omega)]; rfl
      rw [hv] at hs
      have HS := hid hs
      clear hs hr2 hv
      go_enter Try.func6, Try.ntmps6
      go_wp2_with fail
      refine (HE.out w).mono ?_
      rintro e w1 ⟨rfl, rfl⟩
      go_wp2_with fail
      refine (HR.out w).mono ?_
      rintro e w1 ⟨rfl, rfl⟩
      go_wp2_with fail
      refine (HS.out w).mono ?_
      rintro e w1 ⟨rfl, rfl⟩
      go_wp2_with fail
      refine (HL.out w).mono ?_
      rintro e w1 ⟨rfl, rfl⟩
      go_wp2_with fail
      go_ret
      exact ⟨rfl, Below.refl _ _⟩
    · have hx0' : 0 ≤ x := by omega
      by_cases h2 : okE (x / 4294967296) (x % 4294967296) = true
      · have hv : splitV x = .tuple #[.int .i64 (x / 4294967296), .int .i64 (x % 4294967296), .bool true] := by
          unfold splitV okS; rw [h2, decide_eq_true hx0']; rfl
        have hxx : 4294967296 * (x / 4294967296) + x % 4294967296 = x := by omega
        rw [hv] at hs
        simp only [h2, if_true, hxx] at hr2
        have HS := hid hs; have HR2 := hid hr2
        clear hs hr2 hv h2 hxx
        go_enter Try.func6, Try.ntmps6
        go_wp2_with fail
        refine (HE.out w).mono ?_
        rintro e w1 ⟨rfl, rfl⟩
        go_wp2_with fail
        refine (HR.out w).mono ?_
        rintro e w1 ⟨rfl, rfl⟩
        go_wp2_with fail
        refine (HS.out w).mono ?_
        rintro e w1 ⟨rfl, rfl⟩
        go_wp2_with fail
        refine (HR2.out w).mono ?_
        rintro e w1 ⟨rfl, rfl⟩
        go_wp2_with fail
        refine (HL.out w).mono ?_
        rintro e w1 ⟨rfl, rfl⟩
        go_wp2_with fail
        go_ret
        exact ⟨rfl, Below.refl _ _⟩
      · have hv : splitV x = .tuple #[.int .i64 0, .int .i64 0, .bool false] := by
          unfold splitV okS; rw [show okE (x / 4294967296) (x % 4294967296) = false from by simpa using h2, Bool.and_false]; rfl
        rw [hv] at hs
        simp only [h2, if_false] at hr2
        have HS := hid hs; have HR2 := hid hr2
        clear hs hr2 hv h2
        go_enter Try.func6, Try.ntmps6
        go_wp2_with fail
        refine (HE.out w).mono ?_
        rintro e w1 ⟨rfl, rfl⟩
        go_wp2_with fail
        refine (HR.out w).mono ?_
        rintro e w1 ⟨rfl, rfl⟩
        go_wp2_with fail
        refine (HS.out w).mono ?_
        rintro e w1 ⟨rfl, rfl⟩
        go_wp2_with fail
        refine (HR2.out w).mono ?_
        rintro e w1 ⟨rfl, rfl⟩
        go_wp2_with fail
        refine (HL.out w).mono ?_
        rintro e w1 ⟨rfl, rfl⟩
        go_wp2_with fail
        go_ret
        exact ⟨rfl, Below.refl _ _⟩

end Go.Proofs.Ytngfpndikjbioaa
