/- Packets in transit: the document's example. -/
import Derived.Test.YtgigadjohjpdkaaNetF
import Derived.Test.YtgigadjohjpdkaaBytesA
import Derived.Lib.SlBytesConst
namespace Go.Proofs.Ytgigadjohjpdkaa
open Go.RowKit
set_option linter.unusedSimpArgs false
set_option linter.unusedVariables false

theorem row_newf21 (w : World) (L : List Value) (e : TypeId) (fr : Nat × Nat) (hl : L.length ≤ 9223372036854775807) : Row (w.alloc (.cells L.toArray e fr)) 1 (some ⟨w.heap.size, 0, none⟩) L.length L.length L := by
  refine ⟨by simp, Nat.le_refl _, by unfold maxLen; omega, fun h => by (cases h), fun _ => ⟨w.heap.size, 0, rfl, by simp, fun j u hu => ?_⟩⟩
  have hh := heap_alloc_new w (.cells L.toArray e fr)
  unfold World.cell?
  rw [show (⟨w.heap.size, 0 + j, none⟩ : Addr).block = w.heap.size from rfl, hh]
  simpa using hu
theorem row_b1 (w : World) (b : Nat) (hb : b < 256) (x : UInt8) (hx : x.toNat = b) : RowB (w.alloc (.cells #[.int .u8 (b : Int)] 5 (1, 2))) (some ⟨w.heap.size, 0, none⟩) 1 [x] := by
  have h := row_newf21 w [byteV x] 5 (1, 2) (by simp)
  unfold byteV at h
  rw [hx] at h
  have e : [x].map byteV = [.int .u8 (b : Int)] := by simp [byteV, hx]
  unfold RowB
  rw [e]
  exact h

set_option maxHeartbeats 2000000 in
theorem lives_any (w : World) : Calls Try.prog 9 #[] w fun e w' => e = .returned (.bool true) ∧ Below w.heap.size w w' := by
  have hS1 : ∀ (B g : Nat) (w1 : World), BagP w1 B g none 0 [] → B ≤ w1.heap.size → Calls Try.prog 10 #[.pointer (some ⟨g, 0, none⟩), .int .i64 1, .slice (some ⟨w1.heap.size, 0, none⟩) 1 1] (w1.alloc (.cells #[.int .u8 97] 5 (1, 2))) fun e w' => ∃ ra rc b a c, e = .returned (.bool true) ∧ BagP w' B g ra rc [⟨1, b, a, c, [97]⟩] ∧ Below B w1 w' := by
    intro B g w1 h hB
    refine (send_yes B g none 0 [] 1 (some ⟨w1.heap.size, 0, none⟩) 1 [97] (w1.alloc (.cells #[.int .u8 97] 5 (1, 2))) (h.mono (albO w1 _)) (by simp; omega) (row_b1 w1 97 (by omega) 97 rfl) (by simp) (by decide)).mono ?_
    rintro e w' ⟨ra, rc, a, c, he, hp, hbl, _⟩
    exact ⟨ra, rc, _, a, c, he, hp, ((albO w1 _).mono hB).trans hbl⟩
  have hS2 : ∀ (B g b : Nat) (ra : Option Addr) (rc : Nat) (a : Option Addr) (c : Nat) (w1 : World), BagP w1 B g ra rc [⟨1, b, a, c, [97]⟩] → B ≤ w1.heap.size → Calls Try.prog 10 #[.pointer (some ⟨g, 0, none⟩), .int .i64 2, .slice (some ⟨w1.heap.size, 0, none⟩) 1 1] (w1.alloc (.cells #[.int .u8 98] 5 (1, 2))) fun e w' => ∃ ra rc b2 a2 c2, e = .returned (.bool true) ∧ BagP w' B g ra rc [⟨1, b, a, c, [97]⟩, ⟨2, b2, a2, c2, [98]⟩] ∧ Below B w1 w' := by
    intro B g b ra rc a c w1 h hB
    refine (send_yes B g ra rc [⟨1, b, a, c, [97]⟩] 2 (some ⟨w1.heap.size, 0, none⟩) 1 [98] (w1.alloc (.cells #[.int .u8 98] 5 (1, 2))) (h.mono (albO w1 _)) (by simp; omega) (row_b1 w1 98 (by omega) 98 rfl) (by simp) (show okTo 2 1 = true by decide)).mono ?_
    rintro e w' ⟨ra, rc, a, c, he, hp, hbl, _⟩
    exact ⟨ra, rc, _, a, c, he, hp, ((albO w1 _).mono hB).trans hbl⟩
  have hT : ∀ (B g b b2 : Nat) (ra : Option Addr) (rc : Nat) (a a2 : Option Addr) (c c2 : Nat) (w1 : World), BagP w1 B g ra rc [⟨1, b, a, c, [97]⟩, ⟨2, b2, a2, c2, [98]⟩] → Calls Try.prog 13 #[.pointer (some ⟨g, 0, none⟩), .int .i64 1, .bool true] w1 fun e w' => ∃ a c, e = .returned (.tuple #[.int .i64 2, .slice a 1 c, .bool true]) ∧ OwnB w' w1.heap.size a c [98] ∧ Below w1.heap.size w1 w' :=
    fun B g b b2 ra rc a a2 c c2 w1 h => take_stay B g ra rc [⟨1, b, a, c, [97]⟩, ⟨2, b2, a2, c2, [98]⟩] 1 w1 h (by simp) (by simp)
  have hO : ∀ (B g b b2 : Nat) (ra : Option Addr) (rc : Nat) (a a2 : Option Addr) (c c2 : Nat) (w1 : World), BagP w1 B g ra rc [⟨1, b, a, c, [97]⟩, ⟨2, b2, a2, c2, [98]⟩] → B ≤ w1.heap.size → Calls Try.prog 13 #[.pointer (some ⟨g, 0, none⟩), .int .i64 0, .bool false] w1 fun e w' => ∃ a c, e = .returned (.tuple #[.int .i64 1, .slice a 1 c, .bool true]) ∧ OwnB w' w1.heap.size a c [97] ∧ BagP w' B g ra rc [⟨2, b2, a2, c2, [98]⟩] ∧ Below B w1 w' ∧ StayT 46 56 w1 w' ∧ ∃ r, ra = some ⟨r, 0, none⟩ ∧ Ex2 r g w1 w' :=
    fun B g b b2 ra rc a a2 c c2 w1 h hB => take_off B g ra rc [⟨1, b, a, c, [97]⟩, ⟨2, b2, a2, c2, [98]⟩] 0 w1 h (by simp) (by simp) (by simp) hB
  have HS1 := hid hS1
  have HS2 := hid hS2
  have HT := hid hT
  have HO := hid hO
  clear hS1 hS2 hT hO
  have kc := fun (w : World) (C : Array Value) (n c : Nat) => Lib.run_convert_bytes_const (P := Try.prog) w 30 5 C n c Try.underlying30 Try.underlying5
  go_enter Try.func9, Try.ntmps9
  go_wp2_with fail
  refine (new_any w).mono ?_
  rintro e w1 ⟨rfl, p1, b1⟩
  have z1 := b1.size
  go_wp2_with fail
  refine (HS1.out _ _ w1 p1 z1).mono ?_
  rintro e w2 ⟨ra2, rc2, pb, pa, pc, rfl, p2, b2⟩
  have z2 := (b1.trans b2).size
  go_wp2_with fail
  refine (HS2.out _ _ _ _ _ _ _ w2 p2 z2).mono ?_
  rintro e w3 ⟨ra3, rc3, qb, qa, qc, rfl, p3, b3⟩
  have z3 := ((b1.trans b2).trans b3).size
  go_wp2_with fail
  refine (HT.out _ _ _ _ _ _ _ _ _ _ w3 p3).mono ?_
  rintro e w4 ⟨a4, c4, rfl, o4, b4⟩
  have p4 := p3.mono b4
  have b04 := ((b1.trans b2).trans b3).trans (b4.mono z3)
  have z4 := b04.size
  go_wp2_with fail
  refine (len_any _ _ _ _ w4 p4.2.1).mono ?_
  rintro e w' ⟨rfl, rfl⟩
  go_wp2_with fail
  refine (HO.out _ _ _ _ _ _ _ _ _ _ w4 p4 z4).mono ?_
  rintro e w5 ⟨a5, c5, rfl, o5, p5, b5, st5, r, hr, x5⟩
  have o45 : OwnB w5 w3.heap.size a4 c4 [98] := Own.stayT o4 st5 (by decide) (by decide)
  have e4 : (convert 30 9 (.slice a4 1 c4)).run Try.prog w5 = .ok (.string ⟨#[98]⟩) w5 := run_str o45.row
  have e5 : (convert 30 9 (.slice a5 1 c5)).run Try.prog w5 = .ok (.string ⟨#[97]⟩) w5 := run_str o5.row
  have b05 := hid (b04.trans b5)
  have k5 := hid p5.2.1
  clear o45 o5 o4 p5 p4 p3 p2 p1 b1 b2 b3 b4 b5 x5 b04
  go_wp2_with fail
  refine (len_any _ _ _ _ w5 k5.out).mono ?_
  rintro e w' ⟨rfl, rfl⟩
  go_wp2_with fail
  go_ret
  exact ⟨rfl, b05.out⟩
end Go.Proofs.Ytgigadjohjpdkaa
