import Derived.Test.YtpiebklgpehafaaLibI
namespace Go.Proofs.Ytpiebklgpehafaa
open Go.RowKit Go.WideShapes
set_option linter.unusedSimpArgs false
set_option linter.unusedVariables false

/-- is a skew beyond a bound? -/
def byB (b s : Int) : Bool := decide (s < -b) || decide (b < s)

theorem inner_any (s b : Int) (Bb : Nat) (w : World) (hb : Blk w Bb 3 [.int .i64 b]) (hbd : 0 ≤ b ∧ b ≤ 100) :
    Calls Try.prog 19 #[.int .i64 s, .pointer (some ⟨Bb, 0, none⟩)] w fun e w' => e = .returned (.bool (byB b s)) ∧ w = w' := by
  have c0 : w.cell? ⟨Bb, 0, none⟩ = some (.int .i64 b) := Blk.cell hb (i := 0) (by simp)
  have e1 : IntKind.i64.wrap (-b) = -b := IntWalk.i64_in _ (by omega)
  clear hb
  unfold byB
  by_cases h1 : s < -b
  · go_enter Try.func19, Try.ntmps19
    go_wp2
    go_ret
    exact ⟨ret_bool (by simp [h1]), rfl⟩
  · by_cases h2 : b < s
    · go_enter Try.func19, Try.ntmps19
      go_wp2
      go_ret
      exact ⟨ret_bool (by simp [h2]), rfl⟩
    · go_enter Try.func19, Try.ntmps19
      go_wp2
      go_ret
      refine ⟨ret_bool ?_, rfl⟩
      rw [decide_eq_false (show ¬ s < -b by omega), decide_eq_false (show ¬ b < s by omega)]
      first | rfl | (simp; done) | (simp; omega)

/-- where the first skew beyond a bound stands, or -1 -/
def idxB (b : Int) : List Int → Nat → Int
  | [], _ => -1
  | s :: r, j => if byB b s then j else idxB b r (j + 1)
theorem idxB_any (b : Int) (S : List Int) : ∀ j, decide (0 ≤ idxB b S j) = S.any (byB b) := by
  induction S with
  | nil => intro j; simp [idxB]
  | cons s r ih =>
    intro j
    by_cases h : byB b s = true
    · simp [idxB, h]
    · simp only [idxB, h, List.any_cons, Bool.false_eq_true, if_false]
      rw [ih (j + 1)]; simp [h]

set_option maxHeartbeats 1000000 in
theorem index_any (a : Option Addr) (c : Nat) (S : List Int) (b : Int) (Bb : Nat) (w : World) (ha : RowI w a c S) (hb : Blk w Bb 3 [.int .i64 b]) (hbd : 0 ≤ b ∧ b ≤ 100) :
    Calls Try.prog 20 #[.slice a S.length c, .func (.func 19) #[] #[.pointer (some ⟨Bb, 0, none⟩)]] w fun e w' => e = .returned (.int .i64 (idxB b S 0)) ∧ w = w' := by
  have hl := rowI_len ha
  generalize hR : idxB b S 0 = R
  have HR := hid (show idxB b (S.drop 0) 0 = R from hR)
  clear hR
  go_enter Try.func20, Try.ntmps20
  go_wp2_with fail
  go_loopw [8] (fun i wr => ∃ j : Nat, j ≤ S.length ∧ i = .int .i64 j ∧ idxB b (S.drop j) j = R ∧ wr = w) (fun i _ => S.length - (intOf i).toNat)
  case atStart => exact ⟨0, by omega, rfl, HR.out, rfl⟩
  case round =>
    obtain ⟨j, hj, rfl, hp, rfl⟩ := hrel
    by_cases hlt : j < S.length
    · obtain ⟨ba, oa, rfl, hba, hca⟩ := rowI_cells ha (by omega)
      have cj := hca j hlt
      rw [List.drop_eq_getElem_cons hlt] at hp
      simp only [idxB] at hp
      have hge : S.getD j 0 = S[j] := by simp [hlt]
      rw [hge] at cj
      have HI := hid (inner_any S[j] b Bb wr hb hbd)
      have hltd : decide ((j : Int) < (S.length : Int)) = true := decide_eq_true (by omega)
      clear hge hca ha
      generalize S[j] = s at *
      cases hby : byB b s
      · rw [hby] at hp HI
        simp only [Bool.false_eq_true, if_false] at hp
        have HP := hid hp
        clear hp hby HR
        go_wp2_with (go_at_call 19; refine HI.out.mono ?_; rintro e w1 ⟨rfl, rfl⟩)
        go_roundw
        case rel => exact ⟨j + 1, by omega, by go_num, HP.out, by first | rfl | trivial⟩
        case measure => simp [intOf]; omega
      · rw [hby] at hp HI
        simp only [if_true] at hp
        have HP := hid hp
        clear hp hby HR
        go_wp2_with (go_at_call 19; refine HI.out.mono ?_; rintro e w1 ⟨rfl, rfl⟩)
        go_ret
        exact ⟨ret_int HP.out, rfl⟩
    · obtain rfl : j = S.length := by omega
      rw [List.drop_length] at hp
      have HP := hid hp
      clear hp HR
      go_wp2_with fail
      go_ret
      exact ⟨ret_int HP.out, rfl⟩

theorem contains_any (a : Option Addr) (c : Nat) (S : List Int) (b : Int) (Bb : Nat) (w : World) (ha : RowI w a c S) (hb : Blk w Bb 3 [.int .i64 b]) (hbd : 0 ≤ b ∧ b ≤ 100) :
    Calls Try.prog 18 #[.slice a S.length c, .func (.func 19) #[] #[.pointer (some ⟨Bb, 0, none⟩)]] w fun e w' => e = .returned (.bool (S.any (byB b))) ∧ w = w' := by
  have HI := hid (index_any a c S b Bb w ha hb hbd)
  have hi := idxB_any b S 0
  rw [← hi]
  generalize idxB b S 0 = R at *
  clear ha hb hi
  go_enter Try.func18, Try.ntmps18
  go_wp2_with (go_at_call 20; refine HI.out.mono ?_; rintro e w1 ⟨rfl, rfl⟩)
  go_ret
  exact ⟨ret_bool rfl, rfl⟩

set_option maxHeartbeats 1000000 in
theorem beyond_any (a : Option Addr) (c : Nat) (S : List Int) (b : Int) (Bs : Nat) (w : World) (ha : RowI w a c S) (hs : Blk w Bs 30 [.slice a S.length c]) (hbd : 0 ≤ b ∧ b ≤ 100) :
    Calls Try.prog 17 #[.int .i64 b, .pointer (some ⟨Bs, 0, none⟩)] w fun e w' => e = .returned (.bool (S.any (byB b))) ∧ Below w.heap.size w w' := by
  have hmf : ∀ (fn : Fn) (first cap : Array Value) (w : World), (Instr.makeFunc fn first cap).run Try.prog w = .ok (.func fn first cap) w := fun _ _ _ _ => rfl
  have B0 : Below w.heap.size w (w.alloc (.cells #[.int .i64 b] 3)) := (Below.refl _ w).alloc (Nat.le_refl _) _
  have H0 : Blk (w.alloc (.cells #[.int .i64 b] 3)) w.heap.size 3 [.int .i64 b] := heap_alloc_new w _
  have HC := hid (contains_any a c S b w.heap.size _ (Row.alloc ha _) H0 hbd)
  have c0 : (w.alloc (.cells #[.int .i64 b] 3)).cell? ⟨Bs, 0, none⟩ = some (.slice a S.length c) := Blk.cell (Blk.mono hs B0) (i := 0) (by simp)
  clear ha hs H0
  generalize S.any (byB b) = R at *
  go_enter Try.func17, Try.ntmps17
  go_wp2_with (go_at_call 18; refine HC.out.mono ?_; rintro e w1 ⟨rfl, rfl⟩)
  go_ret
  exact ⟨rfl, B0⟩

end Go.Proofs.Ytpiebklgpehafaa
