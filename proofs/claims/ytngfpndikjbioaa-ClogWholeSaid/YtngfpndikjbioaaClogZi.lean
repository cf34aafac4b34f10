import Derived.Test.YtngfpndikjbioaaClogZh
namespace Go.Proofs.Ytngfpndikjbioaa
open Go.RowKit Go.WideShapes
set_option linter.unusedSimpArgs false
set_option linter.unusedVariables false

/-- what a log holds -/
def scanC (xs : List UInt8) (epoch head : Int) : Prop := xs.length = 1024 ∧ (getF xs 0 8).isSome = true ∧ okS (dC xs : Nat) = true ∧ ((dC xs / 4294967296 : Nat) : Int) = epoch ∧ 0 ≤ head ∧ head ≤ ((dC xs % 4294967296 : Nat) : Int)
open Classical in
noncomputable def scanF (xs : List UInt8) (epoch head : Int) : List (RecT × Nat) :=
  if scanC xs epoch head then scanT ((xs.drop 8).take (dC xs % 4294967296)) head.toNat else []
theorem dC_le (xs : List UInt8) : dC xs ≤ 9223372036854775807 := by
  unfold dC getF
  split
  · split
    · next h => exact h
    · simp
  · simp
theorem okS_nat (C : Nat) : okS (C : Int) = okE ((C / 4294967296 : Nat) : Int) ((C % 4294967296 : Nat) : Int) := by
  unfold okS
  rw [decide_eq_true (show (0 : Int) ≤ C by omega), Bool.true_and]
  rfl
theorem splitV_good {C : Nat} (h : okS (C : Int) = true) : splitV (C : Int) = .tuple #[.int .i64 ((C / 4294967296 : Nat) : Int), .int .i64 ((C % 4294967296 : Nat) : Int), .bool true] := by
  unfold splitV; rw [if_pos h]; rfl
theorem splitV_bad {C : Nat} (h : okS (C : Int) = false) : splitV (C : Int) = .tuple #[.int .i64 0, .int .i64 0, .bool false] := by
  unfold splitV; rw [if_neg (by rw [h]; exact Bool.false_ne_true)]

set_option maxHeartbeats 2000000 in
set_option maxRecDepth 100000 in
theorem scan_none (a : Option Addr) (c : Nat) (xs : List UInt8) (epoch head : Int) (w : World) (ha : RowB w a c xs) (hno : ¬ scanC xs epoch head) :
    Calls Try.prog 21 #[.slice a xs.length c, .int .i64 epoch, .int .i64 head] w fun e w' => e = .returned (.tuple #[.slice none 0 0, .slice none 0 0]) ∧ w = w' := by
  by_cases hlen : xs.length = 1024
  · have hl := rowB_len ha
    have G0 := get_any a c xs 0 8 w ha hl
    have S0 := split_any (dC xs : Nat) w (by have := dC_le xs; omega)
    rw [show getV (getF xs 0 8) = .tuple #[.int .i64 (dC xs : Nat), .bool (getF xs 0 8).isSome] from rfl] at G0
    unfold scanC at hno
    have hok := okS_nat (dC xs)
    rw [hlen] at G0 ⊢
    cases hs : okS (dC xs : Nat)
    · rw [splitV_bad hs] at S0
      clear hno hok hs
      generalize (getF xs 0 8).isSome = ok at *
      generalize dC xs = C at *
      have G0 := hid G0; have S0 := hid S0
      clear ha hlen hl
      cases ok
      all_goals
        go_enter Try.func21, Try.ntmps21
        go_wp2_with fail
        go_step3
        go_wp2_with (first
          | (go_at_call 32; refine (G0.out).mono ?_; rintro e w4 ⟨rfl, rfl⟩)
          | (go_at_call 19; refine (S0.out).mono ?_; rintro e w4 ⟨rfl, rfl⟩))
        try rw [Exit.noGoto_ret]
        refine bodyPost_ret (results_tmp2 rfl _ _ _) rfl ⟨rfl, rfl⟩
    · rw [splitV_good hs] at S0
      generalize (getF xs 0 8).isSome = ok at *
      generalize dC xs = C at *
      generalize C / 4294967296 = q at *
      generalize C % 4294967296 = n at *
      have G0 := hid G0; have S0 := hid S0
      clear ha hl hok
      by_cases he : (q : Int) = epoch
      · have he' : ((q : Int) != epoch) = false := by simpa using he
        by_cases h0 : head < 0
        · have h0' : decide (head < 0) = true := decide_eq_true h0
          clear hno hs hlen
          cases ok
          all_goals
            go_enter Try.func21, Try.ntmps21
            go_wp2_with fail
            go_step3
            go_wp2_with (first
              | (go_at_call 32; refine (G0.out).mono ?_; rintro e w4 ⟨rfl, rfl⟩)
              | (go_at_call 19; refine (S0.out).mono ?_; rintro e w4 ⟨rfl, rfl⟩))
            try rw [Exit.noGoto_ret]
            refine bodyPost_ret (results_tmp2 rfl _ _ _) rfl ⟨rfl, rfl⟩
        · have h0' : decide (head < 0) = false := decide_eq_false h0
          by_cases hn : (n : Int) < head
          · have hn' : decide ((n : Int) < head) = true := decide_eq_true hn
            clear hno hs hlen
            cases ok
            all_goals
              go_enter Try.func21, Try.ntmps21
              go_wp2_with fail
              go_step3
              go_wp2_with (first
                | (go_at_call 32; refine (G0.out).mono ?_; rintro e w4 ⟨rfl, rfl⟩)
                | (go_at_call 19; refine (S0.out).mono ?_; rintro e w4 ⟨rfl, rfl⟩))
              try rw [Exit.noGoto_ret]
              refine bodyPost_ret (results_tmp2 rfl _ _ _) rfl ⟨rfl, rfl⟩
          · cases ok
            · clear hno hs hlen
              go_enter Try.func21, Try.ntmps21
              go_wp2_with fail
              go_step3
              go_wp2_with (first
                | (go_at_call 32; refine (G0.out).mono ?_; rintro e w4 ⟨rfl, rfl⟩)
                | (go_at_call 19; refine (S0.out).mono ?_; rintro e w4 ⟨rfl, rfl⟩))
              try rw [Exit.noGoto_ret]
              refine bodyPost_ret (results_tmp2 rfl _ _ _) rfl ⟨rfl, rfl⟩
            · exact absurd ⟨hlen, rfl, hs, he, by omega, by omega⟩ hno
      · have he' : ((q : Int) != epoch) = true := by simpa using he
        clear hno hs hlen
        cases ok
        all_goals
          go_enter Try.func21, Try.ntmps21
          go_wp2_with fail
          go_step3
          go_wp2_with (first
            | (go_at_call 32; refine (G0.out).mono ?_; rintro e w4 ⟨rfl, rfl⟩)
            | (go_at_call 19; refine (S0.out).mono ?_; rintro e w4 ⟨rfl, rfl⟩))
          try rw [Exit.noGoto_ret]
          refine bodyPost_ret (results_tmp2 rfl _ _ _) rfl ⟨rfl, rfl⟩
  · have hlen' : ((xs.length : Int) != 1024) = true := by simp; omega
    clear hno
    go_enter Try.func21, Try.ntmps21
    go_wp2_with fail
    go_step3
    go_wp2_with fail
    try rw [Exit.noGoto_ret]
    refine bodyPost_ret (results_tmp2 rfl _ _ _) rfl ⟨rfl, rfl⟩

set_option maxHeartbeats 2000000 in
set_option maxRecDepth 100000 in
theorem scanRef_none (a : Option Addr) (c : Nat) (xs : List UInt8) (epoch head : Int) (w : World) (ha : RowB w a c xs) (hno : ¬ scanC xs epoch head) :
    Calls Try.prog 22 #[.slice a xs.length c, .int .i64 epoch, .int .i64 head] w fun e w' => e = .returned (.tuple #[.slice none 0 0, .slice none 0 0]) ∧ w = w' := by
  by_cases hlen : xs.length = 1024
  · have hl := rowB_len ha
    have G0 := getRef_any a c xs 0 8 w ha hl (by omega)
    have hC9 := dC_le xs
    rw [show getV (getF xs 0 8) = .tuple #[.int .i64 (dC xs : Nat), .bool (getF xs 0 8).isSome] from rfl] at G0
    unfold scanC at hno
    have hok := okS_nat (dC xs)
    rw [hlen] at G0 ⊢
    rw [hok] at hno
    have S0 := endRef_any ((dC xs / 4294967296 : Nat) : Int) ((dC xs % 4294967296 : Nat) : Int) w
    unfold endR at S0
    generalize (getF xs 0 8).isSome = ok at *
    generalize dC xs = C at *
    have eq1 : ((C : Nat) : Int).tdiv 4294967296 = ((C / 4294967296 : Nat) : Int) := rfl
    have eq2 : ((C : Nat) : Int).tmod 4294967296 = ((C % 4294967296 : Nat) : Int) := rfl
    have hq : C / 4294967296 ≤ 9223372036854775807 := by omega
    have hn9 : C % 4294967296 ≤ 4294967296 := by omega
    generalize C / 4294967296 = q at *
    generalize C % 4294967296 = n at *
    have ew1 : IntKind.i64.wrap (q : Int) = q := IntWalk.i64_in _ (by omega)
    have ew2 : IntKind.i64.wrap (n : Int) = n := IntWalk.i64_in _ (by omega)
    have G0 := hid G0
    clear ha hl hok
    by_cases h0 : head < 0
    · have h0' : decide (head < 0) = true := decide_eq_true h0
      clear S0 hno hlen
      go_enter Try.func22, Try.ntmps22
      go_wp2_with fail
      refine bodyPost_ret (results_tmp2 rfl _ _ _) rfl ⟨rfl, rfl⟩
    · have h0' : decide (head < 0) = false := decide_eq_false h0
      cases ok
      · clear S0 hno hlen
        go_enter Try.func22, Try.ntmps22
        go_wp2_with (go_at_call 34; refine (G0.out).mono ?_; rintro e w4 ⟨rfl, rfl⟩)
        refine bodyPost_ret (results_tmp2 rfl _ _ _) rfl ⟨rfl, rfl⟩
      · cases hs : okE (q : Int) (n : Int)
        · rw [hs] at S0
          rw [if_neg Bool.false_ne_true] at S0
          have S0 := hid S0
          clear hno hlen
          go_enter Try.func22, Try.ntmps22
          go_wp2_with (first
            | (go_at_call 34; refine (G0.out).mono ?_; rintro e w4 ⟨rfl, rfl⟩)
            | (go_at_call 18; refine (S0.out).mono ?_; rintro e w4 ⟨rfl, rfl⟩))
          refine bodyPost_ret (results_tmp2 rfl _ _ _) rfl ⟨rfl, rfl⟩
        · rw [hs] at S0
          rw [if_pos rfl] at S0
          have S0 := hid S0
          have dE : decide (4294967296 * (q : Int) + (n : Int) < 0) = false := decide_eq_false (by omega)
          by_cases he : (q : Int) = epoch
          · have he' : ((q : Int) != epoch) = false := by simpa using he
            have hn : (n : Int) < head := by
              rcases Int.lt_or_le (n : Int) head with h | h
              · exact h
              · exact absurd ⟨hlen, rfl, hs, he, by omega, h⟩ hno
            have hn' : decide (head < (n : Int)) = false := decide_eq_false (by omega)
            subst he
            clear hno hlen hs he'
            go_enter Try.func22, Try.ntmps22
            go_wp2_with (first
              | (go_at_call 34; refine (G0.out).mono ?_; rintro e w4 ⟨rfl, rfl⟩)
              | (go_at_call 18; refine (S0.out).mono ?_; rintro e w4 ⟨rfl, rfl⟩))
            go_loopw [2, 8, 9] (fun h l e wr => h = .int .i64 head ∧ l = .slice none 0 0 ∧ e = .slice none 0 0 ∧ wr = w) (fun _ _ _ _ => 0)
            case atStart => exact ⟨rfl, rfl, rfl, rfl⟩
            case round =>
            obtain ⟨rfl, rfl, rfl, rfl⟩ := hrel
            go_wp2_with fail
            refine bodyPost_ret (results_tmp2 rfl _ _ _) rfl ⟨rfl, rfl⟩
          · have he' : ((q : Int) != epoch) = true := by simpa using he
            clear hno hlen hs
            go_enter Try.func22, Try.ntmps22
            go_wp2_with (first
              | (go_at_call 34; refine (G0.out).mono ?_; rintro e w4 ⟨rfl, rfl⟩)
              | (go_at_call 18; refine (S0.out).mono ?_; rintro e w4 ⟨rfl, rfl⟩))
            refine bodyPost_ret (results_tmp2 rfl _ _ _) rfl ⟨rfl, rfl⟩
  · have hlen' : ((xs.length : Int) != 1024) = true := by simp; omega
    clear hno
    go_enter Try.func22, Try.ntmps22
    go_wp2_with fail
    refine bodyPost_ret (results_tmp2 rfl _ _ _) rfl ⟨rfl, rfl⟩

def ScanA (w : World) (L : List (RecT × Nat)) (e : Ending) (w' : World) : Prop :=
  ∃ a1 c1 a2 c2, e = .returned (.tuple #[.slice a1 L.length c1, .slice a2 L.length c2]) ∧ RowR w' a1 c1 (L.map Prod.fst) ∧ RowI w' a2 c2 (L.map fun x => (x.2 : Int)) ∧ Below w.heap.size w w'
theorem scanA_nil (w : World) : ScanA w [] (.returned (.tuple #[.slice none 0 0, .slice none 0 0])) w := ⟨none, 0, none, 0, rfl, Row.nil _ _, Row.nil _ _, Below.refl _ _⟩
theorem scan_any (a : Option Addr) (c : Nat) (xs : List UInt8) (epoch head : Int) (w : World) (ha : RowB w a c xs) :
    Calls Try.prog 21 #[.slice a xs.length c, .int .i64 epoch, .int .i64 head] w (ScanA w (scanF xs epoch head)) := by
  by_cases h : scanC xs epoch head
  · have hF : scanF xs epoch head = scanT ((xs.drop 8).take (dC xs % 4294967296)) head.toNat := by unfold scanF; rw [if_pos h]
    rw [hF]
    obtain ⟨h1, h2, h3, h4, h5, h6⟩ := h
    have h3' := h3
    rw [okS_nat] at h3'
    unfold okE at h3'
    have h3' := of_decide_eq_true h3'
    obtain ⟨b, off, rfl, _⟩ := ha.bytes (by omega)
    obtain ⟨hd, rfl⟩ := Int.eq_ofNat_of_zero_le h5
    subst h4
    rw [h1]
    refine (scan_good b off c xs _ (dC xs) (dC xs / 4294967296) (dC xs % 4294967296) hd w ha h1 rfl (by omega) (by omega) (fun w1 r1 => ?_) (fun w1 => ?_)).mono (fun e w' h => h)
    · have := get_any (some ⟨b, off, none⟩) c xs 0 8 w1 r1 (rowB_len ha)
      rw [show getV (getF xs 0 8) = .tuple #[.int .i64 (dC xs : Nat), .bool (getF xs 0 8).isSome] from rfl, h2, h1] at this
      exact this
    · have := split_any (dC xs : Nat) w1 (by have := dC_le xs; omega)
      rw [splitV_good h3] at this
      exact this
  · have hF : scanF xs epoch head = [] := by unfold scanF; rw [if_neg h]
    rw [hF]
    refine (scan_none a c xs epoch head w ha h).mono ?_
    rintro e w' ⟨rfl, rfl⟩
    exact scanA_nil w
theorem scanRef_any (a : Option Addr) (c : Nat) (xs : List UInt8) (epoch head : Int) (w : World) (ha : RowB w a c xs) :
    Calls Try.prog 22 #[.slice a xs.length c, .int .i64 epoch, .int .i64 head] w (ScanA w (scanF xs epoch head)) := by
  by_cases h : scanC xs epoch head
  · have hF : scanF xs epoch head = scanT ((xs.drop 8).take (dC xs % 4294967296)) head.toNat := by unfold scanF; rw [if_pos h]
    rw [hF]
    obtain ⟨h1, h2, h3, h4, h5, h6⟩ := h
    rw [okS_nat] at h3
    have h3e := h3
    unfold okE at h3
    have h3' := of_decide_eq_true h3
    obtain ⟨b, off, rfl, _⟩ := ha.bytes (by omega)
    obtain ⟨hd, rfl⟩ := Int.eq_ofNat_of_zero_le h5
    subst h4
    rw [h1]
    have hCq : dC xs = 4294967296 * (dC xs / 4294967296) + dC xs % 4294967296 := by omega
    refine (scanRef_good b off c xs _ (dC xs) (dC xs / 4294967296) (dC xs % 4294967296) hd w ha h1 rfl (by omega) (by omega) (fun w1 r1 => ?_) hCq (by omega) (fun w1 => ?_)).mono (fun e w' h => h)
    · have := getRef_any (some ⟨b, off, none⟩) c xs 0 8 w1 r1 (rowB_len ha) (by omega)
      rw [show getV (getF xs 0 8) = .tuple #[.int .i64 (dC xs : Nat), .bool (getF xs 0 8).isSome] from rfl, h2, h1] at this
      exact this
    · have := endRef_any ((dC xs / 4294967296 : Nat) : Int) ((dC xs % 4294967296 : Nat) : Int) w1
      unfold endR at this
      rw [if_pos h3e] at this
      rw [show 4294967296 * ((dC xs / 4294967296 : Nat) : Int) + ((dC xs % 4294967296 : Nat) : Int) = ((dC xs : Nat) : Int) by omega] at this
      exact this
  · have hF : scanF xs epoch head = [] := by unfold scanF; rw [if_neg h]
    rw [hF]
    refine (scanRef_none a c xs epoch head w ha h).mono ?_
    rintro e w' ⟨rfl, rfl⟩
    exact scanA_nil w

end Go.Proofs.Ytngfpndikjbioaa
