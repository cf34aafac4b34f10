/- The document's memory: lines flushed, a line evicted, dirty cells told, a crash. -/
import Derived.Test.YtcackliabemecaaGreatDoorPmMd
namespace Go.Proofs.YtcackliabemecaaGreatDoor
open Go.RowKit
set_option linter.unusedSimpArgs false
set_option linter.unusedVariables false
set_option maxRecDepth 100000

/-- what Evict does -/
def EvictR (g v d a : Nat) (M : MemM) (line : Int) (w : World) (e : Ending) (w' : World) : Prop :=
  if 0 ≤ line ∧ line < (M.V.length / 64 : Nat) then e = .returned (.int .i64 0) ∧ MemR w' g v d a (evictM M line.toNat) ∧ Turns (fun k => k = d ∨ k = a) w w' else e = .returned (.int .i64 1) ∧ w = w'

set_option maxHeartbeats 2000000 in
theorem dirtyAllR_any {w : World} {g v d p : Nat} {M : MemM} (h : MemR w g v d p M) :
    Calls Tryz.prog 42 #[.pointer (some ⟨g, 0, none⟩)] w fun e w' => ∃ a c, e = .returned (.slice a (dirtyL M).length c) ∧ OwnN w' w.heap.size a c (dirtyL M) ∧ Below w.heap.size w w' := by
  have H := hid h
  have HD := hid (fun X (b : Below w.heap.size w X) k (hk : k < M.A.length) => dirtyR_any (h.mono b) k hk)
  have hA := h.1.2.1
  have hVl := h.1.2.2.2.2
  have hN : M.A.length ≤ 200000 := by omega
  have hL : dirtyL M = dirtyN M.V M.D M.A.length := rfl
  rw [hL]
  clear h hA hVl hL
  go_enter Tryz.func42, Tryz.ntmps42
  go_wp2
  go_loopw [3, 4, 5] (fun l i _ wr => ∃ (k : Nat) (a : Option Addr) (c : Nat) (L : List Nat), k ≤ M.A.length ∧ i = .int .i64 k ∧ l = .slice a L.length c ∧ L = dirtyN M.V M.D k ∧ OwnN wr w.heap.size a c L ∧ Below w.heap.size w wr) (fun _ i _ _ => M.A.length - (intOf i).toNat)
  case atStart => exact ⟨0, none, 0, [], by omega, rfl, rfl, rfl, Own.nil _ _ _ _, Below.refl _ _⟩
  case round =>
    obtain ⟨k, a, c, L, hk, rfl, rfl, hL, ho, br⟩ := hrel
    have hLl : L.length ≤ k := by rw [hL]; exact dirtyN_len _ _ _
    have HL := hid hL
    obtain ⟨c0, c1, c2⟩ := (H.out.mono br).cells
    clear hL
    by_cases hlt : k < M.A.length
    · have HC := hid (HD.out wr br k hlt)
      have e3 : IntKind.i64.wrap ((k : Int) + 1) = (k : Int) + 1 := IntWalk.i64_in _ (by omega)
      have i1 : (k : Int) < (M.A.length : Int) := by omega
      have hsucc := dirtyN_succ M.V M.D k
      have HSU := hid hsucc
      clear hsucc
      have BR := hid br
      have HO := hid ho
      clear br ho
      by_cases hb : dirtyB M.V M.D k = true
      · rw [hb] at HC HSU
        clear hb
        go_wp2_with (first
          | (go_at_call 59; refine HC.out.mono ?_; rintro e w1 ⟨rfl, b1⟩; have B1 := hid (kept_trans BR.out b1); have O1 := hid (HO.out.mono b1); clear b1)
          | (at_builtin; refine wpl_append rfl (.tmp 19) (.tmp 21) rfl EIp w.heap.size rfl rfl (O1.out.alloc _) (row_new1 _ _ _) (by simp [Value.oneCell']) (by omega) (by omega) (by have := B1.out.size; simp; omega) ?_; intro a3 c3 w3 o3 g3 b3; have O3 := hid o3; have B3 := hid ((kept_alloc B1.out _).trans b3); clear o3 g3 b3))
        go_roundw
        case rel => exact ⟨k + 1, a3, c3, L ++ [k], by omega, by go_num, by simp, by rw [HSU.out, ← HL.out]; rfl, by show Own _ _ _ 1 a3 (L ++ [k]).length c3 ((L ++ [k]).map _); rw [List.length_append, List.map_append]; exact O3.out, B3.out⟩
        case measure => simp [intOf]; omega
      · rw [show dirtyB M.V M.D k = false by simpa using hb] at HC HSU
        clear hb
        go_wp2_with (first
          | (go_at_call 59; refine HC.out.mono ?_; rintro e w1 ⟨rfl, b1⟩; have B1 := hid (kept_trans BR.out b1); have O1 := hid (HO.out.mono b1); clear b1))
        go_roundw
        case rel => exact ⟨k + 1, a, c, L, by omega, by go_num, rfl, by rw [HSU.out, ← HL.out]; simp, O1.out, B1.out⟩
        case measure => simp [intOf]; omega
    · obtain rfl : k = M.A.length := by omega
      go_wp2
      go_ret
      exact ⟨a, c, by rw [← HL.out]; rfl, by rw [← HL.out]; exact ho, br⟩
end Go.Proofs.YtcackliabemecaaGreatDoor
