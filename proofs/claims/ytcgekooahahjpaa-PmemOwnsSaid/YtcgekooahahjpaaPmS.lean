/- The document's memory: lines flushed, a line evicted, dirty cells told, a crash. -/
import Derived.Test.YtcgekooahahjpaaPmQ
namespace Go.Proofs.Ytcgekooahahjpaa
open Go.RowKit
set_option linter.unusedSimpArgs false
set_option linter.unusedVariables false

/-- what Evict does -/
def EvictR (g v d a : Nat) (M : MemM) (line : Int) (w : World) (e : Ending) (w' : World) : Prop :=
  if 0 ≤ line ∧ line < (M.V.length / 64 : Nat) then e = .returned (.int .i64 0) ∧ MemR w' g v d a (evictM M line.toNat) ∧ Turns (fun k => k = d ∨ k = a) w w' else e = .returned (.int .i64 1) ∧ w = w'

set_option maxHeartbeats 4000000 in
theorem evictR_any {w : World} {g v d a : Nat} {M : MemM} (h : MemR w g v d a M) (line : Int) (ha : -9223372036854775808 ≤ line ∧ line ≤ 9223372036854775807) :
    Calls Try.prog 28 #[.pointer (some ⟨g, 0, none⟩), .int .i64 line] w (EvictR g v d a M line w) := by
  have hVl : M.V.length ≤ 1048576 := h.1.2.2.2.2
  have hAl : M.A.length * 8 = M.V.length := h.1.2.1
  have hDl := h.1.1
  have e1 : (M.V.length : Int).tdiv 64 = ((M.V.length / 64 : Nat) : Int) := rfl
  obtain ⟨c0, c1, c2⟩ := h.cells
  by_cases h0 : 0 ≤ line
  · have d0 : decide (line < 0) = false := decide_eq_false (by omega)
    obtain ⟨ln, rfl⟩ : ∃ n : Nat, line = (n : Int) := ⟨line.toNat, by omega⟩
    have e2 : IntKind.i64.wrap ((M.V.length / 64 : Nat) : Int) = ((M.V.length / 64 : Nat) : Int) := IntWalk.i64_in _ (by omega)
    by_cases h1 : (ln : Int) < (M.V.length / 64 : Nat)
    · have hE : EvictR g v d a M ln w = fun e w' => e = .returned (.int .i64 0) ∧ MemR w' g v d a (evictM M ln) ∧ Turns (fun k => k = d ∨ k = a) w w' := by
        funext e w'; unfold EvictR; rw [if_pos ⟨h0, h1⟩]; rfl
      rw [hE]
      clear hE
      have hf : evictM M ln = ⟨M.V, mixF (fun k => k / 8 == ln) M.V M.D, tabF M.A.length fun k => M.A.getD k false && !(k / 8 == ln)⟩ := rfl
      rw [hf]
      have d1 : decide (M.V.length / 64 ≤ ln) = false := decide_eq_false (by omega)
      have e3 : IntKind.i64.wrap (8 * (ln : Int)) = ((8 * ln : Nat) : Int) := by rw [IntWalk.i64_in _ (by omega)]; omega
      have hq8 : 8 * ln + 8 ≤ M.A.length := by omega
      have H := hid h
      have hm1 : ∀ i, (i / 8 == ln) = decide (8 * ln ≤ i ∧ i < 8 * ln + 8) := fun i => by rw [Bool.eq_iff_iff, beq_iff_eq, decide_eq_true_eq]; omega
      simp only [hm1]
      clear h hf h0 h1 hm1
      generalize M.V.length / 64 = N at *
      generalize 8 * ln = q at *
      have e4 : IntKind.i64.wrap ((q : Int) + 8) = (q : Int) + 8 := IntWalk.i64_in _ (by omega)
      go_enter Try.func28, Try.ntmps28
      go_wp2
      go_loopw [5] (fun i wr => ∃ j : Nat, j ≤ 8 ∧ i = .int .i64 (q + j : Nat) ∧ MemR wr g v d a ⟨M.V, mixF (fun i => decide (q ≤ i ∧ i < q + j)) M.V M.D, tabF M.A.length fun i => M.A.getD i false && !decide (q ≤ i ∧ i < q + j)⟩ ∧ Turns (fun b => b = d ∨ b = a) w wr) (fun i _ => q + 8 - (intOf i).toNat)
      case atStart =>
        refine ⟨0, by omega, rfl, ?_, Turns.refl _ _⟩
        rw [mixF_congr (g := fun _ => false) (fun k _ => decide_eq_false (by omega)), mixF_none, tabF_congr (g := fun k => M.A.getD k false) (fun k _ => by rw [decide_eq_false (by omega)]; simp), tabF_self]
        exact H.out
      case round =>
        obtain ⟨j, hj, rfl, hm, ht⟩ := hrel
        by_cases hjc : j < 8
        · have HK := hid (keepR_any hm (q + j) (by show q + j < (tabF _ _).length; rw [tabF_len]; omega))
          have i0 : ((q + j : Nat) : Int) = (q : Int) + j := by omega
          have HT := hid ht
          have i1 : ((q + j : Nat) : Int) < (q : Int) + 8 := by omega
          have e5 : IntKind.i64.wrap (((q + j : Nat) : Int) + 1) = ((q + j : Nat) : Int) + 1 := IntWalk.i64_in _ (by omega)
          clear hm ht i0
          generalize hK : q + j = K at *
          have HKK := hid hK
          clear hK
          go_wp2_with (first
            | (go_at_call 42; refine HK.out.mono ?_; rintro e w2 ⟨⟨z, rfl⟩, m2, t2⟩; have M2 := hid m2; have T2 := hid t2; clear m2 t2))
          go_roundw
          case rel =>
            have hK := HKK.out
            refine ⟨j + 1, by omega, by go_num, ?_, HT.out.trans T2.out⟩
            have := M2.out
            rw [mixF_setA, tabF_set] at this
            rw [mixF_congr (g := fun i => decide (q ≤ i ∧ i < K) || i == K) (fun i _ => ?_), tabF_congr (g := fun i => if i = K then false else M.A.getD i false && !decide (q ≤ i ∧ i < K)) (fun i _ => ?_)]
            · exact this
            · by_cases e : i = K
              · rw [if_pos e, decide_eq_true (by omega)]; simp
              · rw [if_neg e]
                congr 2
                rw [Bool.eq_iff_iff, decide_eq_true_eq, decide_eq_true_eq]; omega
            · rw [Bool.eq_iff_iff]; simp only [decide_eq_true_eq, Bool.or_eq_true, beq_iff_eq]; omega
          case measure => have hK := HKK.out; simp [intOf]; omega
        · obtain rfl : j = 8 := by omega
          have HM := hid hm; have HT := hid ht
          clear hm ht
          go_wp2
          go_ret
          exact ⟨rfl, HM.out, HT.out⟩
    · have hE : EvictR g v d a M ln w = fun e w' => e = .returned (.int .i64 1) ∧ w = w' := by
        funext e w'; unfold EvictR; rw [if_neg (fun q => h1 q.2)]
      rw [hE]
      have d1 : decide (M.V.length / 64 ≤ ln) = true := decide_eq_true (by omega)
      clear hE h1 h
      generalize M.V.length / 64 = N at *
      go_enter Try.func28, Try.ntmps28
      go_wp2
      go_ret
      exact ⟨rfl, rfl⟩
  · have hE : EvictR g v d a M line w = fun e w' => e = .returned (.int .i64 1) ∧ w = w' := by
      funext e w'; unfold EvictR; rw [if_neg (fun q => h0 q.1)]
    rw [hE]
    have d0 : decide (line < 0) = true := decide_eq_true (by omega)
    clear hE h
    go_enter Try.func28, Try.ntmps28
    go_wp2
    go_ret
    exact ⟨rfl, rfl⟩

set_option maxHeartbeats 2000000 in
theorem dirtyAllR_any {w : World} {g v d p : Nat} {M : MemM} (h : MemR w g v d p M) :
    Calls Try.prog 32 #[.pointer (some ⟨g, 0, none⟩)] w fun e w' => ∃ a c, e = .returned (.slice a (dirtyL M).length c) ∧ OwnN w' w.heap.size a c (dirtyL M) ∧ Below w.heap.size w w' := by
  have H := hid h
  have HD := hid (fun X (b : Below w.heap.size w X) k (hk : k < M.A.length) => dirtyR_any (h.mono b) k hk)
  have hA := h.1.2.1
  have hVl := h.1.2.2.2.2
  have hN : M.A.length ≤ 200000 := by omega
  have hL : dirtyL M = dirtyN M.V M.D M.A.length := rfl
  rw [hL]
  clear h hA hVl hL
  go_enter Try.func32, Try.ntmps32
  go_wp2
  go_loopw [3, 4, 5] (fun l i _ wr => ∃ (k : Nat) (a : Option Addr) (c : Nat) (L : List Nat), k ≤ M.A.length ∧ i = .int .i64 k ∧ l = .slice a L.length c ∧ L = dirtyN M.V M.D k ∧ OwnN wr w.heap.size a c L ∧ Below w.heap.size w wr) (fun _ i _ _ => M.A.length - (intOf i).toNat)
  case atStart => exact ⟨0, none, 0, [], by omega, rfl, rfl, rfl, Own.nil _ _ _ _, Below.refl _ _⟩
  case round =>
    obtain ⟨k, a, c, L, hk, rfl, rfl, hL, ho, br⟩ := hrel
    have hLl : L.length ≤ k := by rw [hL]; exact dirtyN_len _ _ _
    have HL := hid hL
    obtain ⟨c0, c1, c2⟩ := (H.out.mono br).cells
    clear hL
    by_cases hlt : k < M.A.length
    · have HC := hid (HD.out wr br k hlt)
      have e3 : IntKind.i64.wrap ((k : Int) + 1) = (k : Int) + 1 := IntWalk.i64_in _ (by omega)
      have i1 : (k : Int) < (M.A.length : Int) := by omega
      have hsucc := dirtyN_succ M.V M.D k
      have HSU := hid hsucc
      clear hsucc
      have BR := hid br
      have HO := hid ho
      clear br ho
      by_cases hb : dirtyB M.V M.D k = true
      · rw [hb] at HC HSU
        clear hb
        go_wp2_with (first
          | (go_at_call 41; refine HC.out.mono ?_; rintro e w1 ⟨rfl, b1⟩; have B1 := hid (kept_trans BR.out b1); have O1 := hid (HO.out.mono b1); clear b1)
          | (at_builtin; refine wpl_append rfl (.tmp 19) (.tmp 21) rfl EIp w.heap.size rfl rfl (O1.out.alloc _) (row_new1 _ _ _) (by simp [Value.oneCell']) (by omega) (by omega) (by have := B1.out.size; simp; omega) ?_; intro a3 c3 w3 o3 g3 b3; have O3 := hid o3; have B3 := hid ((kept_alloc B1.out _).trans b3); clear o3 g3 b3))
        go_roundw
        case rel => exact ⟨k + 1, a3, c3, L ++ [k], by omega, by go_num, by simp, by rw [HSU.out, ← HL.out]; rfl, by show Own _ _ _ 1 a3 (L ++ [k]).length c3 ((L ++ [k]).map _); rw [List.length_append, List.map_append]; exact O3.out, B3.out⟩
        case measure => simp [intOf]; omega
      · rw [show dirtyB M.V M.D k = false by simpa using hb] at HC HSU
        clear hb
        go_wp2_with (first
          | (go_at_call 41; refine HC.out.mono ?_; rintro e w1 ⟨rfl, b1⟩; have B1 := hid (kept_trans BR.out b1); have O1 := hid (HO.out.mono b1); clear b1))
        go_roundw
        case rel => exact ⟨k + 1, a, c, L, by omega, by go_num, rfl, by rw [HSU.out, ← HL.out]; simp, O1.out, B1.out⟩
        case measure => simp [intOf]; omega
    · obtain rfl : k = M.A.length := by omega
      go_wp2
      go_ret
      exact ⟨a, c, by rw [← HL.out]; rfl, by rw [← HL.out]; exact ho, br⟩
end Go.Proofs.Ytcgekooahahjpaa
