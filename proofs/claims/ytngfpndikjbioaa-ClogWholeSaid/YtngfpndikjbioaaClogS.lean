import Derived.Test.YtngfpndikjbioaaClogR
import Derived.Test.YtngfpndikjbioaaSlotB
import Derived.Test.YtngfpndikjbioaaNumE
namespace Go.Proofs.Ytngfpndikjbioaa
open Go.RowKit
set_option linter.unusedSimpArgs false
set_option linter.unusedVariables false

theorem row_fields16 (w : World) (fs : List (Int × Int)) (e : TypeId) (h : fs.length ≤ 1000) : Row (w.alloc (.cells (fieldCells fs).toArray e)) 2 (some ⟨w.heap.size, 0, none⟩) fs.length fs.length (fieldCells fs) := by
  refine ⟨fieldCells_length fs, Nat.le_refl _, by unfold maxLen; omega, fun h => by (cases h), fun _ => ⟨w.heap.size, 0, rfl, by simp, fun j u hu => ?_⟩⟩
  have hh := heap_alloc_new w (.cells (fieldCells fs).toArray e)
  unfold World.cell?
  rw [show (⟨w.heap.size, 0 + j, none⟩ : Addr).block = w.heap.size from rfl, hh]
  simpa using hu

set_option maxHeartbeats 1000000 in
theorem cput_any (a0 : Option Addr) (c0 : Nat) (tx : List UInt8) (a : Option Addr) (c : Nat) (fs : List (Int × Int)) (w : World) (r0 : RowB w a0 c0 tx) (htl : tx.length ≤ 1000) (hf : Row w 2 a fs.length c (fieldCells fs)) (hn : fs.length ≤ 20) (hpos : 0 < fs.length) (h9 : ∀ f ∈ fs, f.1 ≤ 9223372036854775807) :
    Calls Try.prog 26 #[.slice a0 tx.length c0, .slice a fs.length c] w (RetB w (foldF tx fs)) := by
  have hfl := hf.1
  have HF9 := hid h9; clear h9
  go_enter Try.func26, Try.ntmps26
  go_wp2
  go_loopw [0, 9] (fun b i wr => ∃ (j : Nat) (a' : Option Addr) (c' : Nat), j ≤ fs.length ∧ i = .int .i64 j ∧ b = .slice a' (foldF tx (fs.take j)).length c' ∧ RowB wr a' c' (foldF tx (fs.take j)) ∧ (0 < j → OwnB wr w.heap.size a' c' (foldF tx (fs.take j))) ∧ Below w.heap.size w wr)
    (fun _ i _ => fs.length - (intOf i).toNat)
  case atStart => exact ⟨0, _, _, by omega, rfl, rfl, r0, fun h => absurd h (by omega), Below.refl _ _⟩
  case round =>
    obtain ⟨j, a', c', hj, rfl, rfl, hr, ho, hb⟩ := hrel
    by_cases hlt : j < fs.length
    · obtain ⟨f, hfj⟩ : ∃ f, fs[j]? = some f := ⟨_, List.getElem?_eq_getElem hlt⟩
      obtain ⟨b, off, rfl, hbl, hc⟩ := (hf.mono hb).at (by omega)
      have c0 := hc (j * 2) _ (fieldCells_at hfj).1
      have c1 := hc (j * 2 + 1) _ (fieldCells_at hfj).2
      rw [← Nat.add_assoc] at c1
      have hx : foldF tx (fs.take (j + 1)) = putF (foldF tx (fs.take j)) f.1 f.2 := by
        unfold foldF
        rw [List.take_add_one, hfj]
        simp [List.foldl_append]
      have HX := hid hx; clear hx
      have h9 := HF9.out f (List.mem_of_getElem? hfj)
      clear hc hfj
      have hl60 : (foldF tx (fs.take j)).length ≤ 70368744177664 := by
        have h1 := foldF_length_le tx (fs.take j)
        have h2 : (fs.take j).length ≤ 20 := by simp; omega
        omega
      go_wp2_with fail
      refine (put_any a' c' _ f.1 f.2 _ (hr.alloc _) hl60 h9).mono ?_
      have hsz := hb.size
      rintro e w2 ⟨a2, c2, rfl, o2, b2⟩
      go_wp2_with fail
      go_roundw
      case rel => exact ⟨j + 1, a2, c2, by omega, by go_num, by rw [HX.out], by rw [HX.out]; exact o2.row, fun _ => by rw [HX.out]; exact o2.low (Nat.le_trans hsz (by simp)), below_trans (hb.alloc hsz _) b2 (Nat.le_trans hsz (by simp))⟩
      case measure => simp [intOf]; omega
    · obtain rfl : j = fs.length := by omega
      have o1 := ho hpos
      simp only [List.take_length] at o1 ⊢
      go_wp2_with fail
      go_ret
      exact ⟨a', c', rfl, o1, hb⟩

def recF (c i : Int) (t : Bool) (o : Int) (n : Nat) : List (Int × Int) := [(c, 8), (i, 1), (if t then 1 else 0, 1), (o, 2), ((n : Int), 1)]
/-- what the sum is taken of -/
def recX (c i : Int) (t : Bool) (o : Int) (s : ByteArray) : List UInt8 := foldF [] (recF c i t o s.size) ++ s.data.toList
def recY (c i : Int) (t : Bool) (o : Int) (s : ByteArray) : List UInt8 := putF (recX c i t o s) (crcF (recX c i t o s) : Nat) 4
def padTo8 (l : List UInt8) : List UInt8 := l ++ List.replicate ((8 - l.length % 8) % 8) 0
def recL (c i : Int) (t : Bool) (o : Int) (s : ByteArray) : List UInt8 := if recMay c i t o s then padTo8 (recY c i t o s) else []

theorem recMay_iff {c i o : Int} {t : Bool} {s : ByteArray} (h : recMay c i t o s = true) : 0 ≤ c ∧ c ≤ 1099511627776 ∧ 1 ≤ i ∧ i ≤ 32 ∧ 0 ≤ o ∧ o ≤ 256 ∧ s.size ≤ 64 ∧ o + s.size ≤ 256 ∧ (t = false ∨ s = ⟨#[]⟩) := of_decide_eq_true h
theorem up8 (n : Nat) (h : n ≤ 1000) : upF (n : Int) 8 = ((n + (8 - n % 8) % 8 : Nat) : Int) := by
  unfold upF
  rw [if_pos (by unfold roundsB; simp; omega)]
  split <;> omega
theorem pad8_cells (B : List UInt8) : B.map byteV ++ List.replicate ((8 - B.length % 8) % 8) (.int .u8 0) = (padTo8 B).map byteV := by
  simp [padTo8, byteV]
theorem pad8_own {w : World} {g : Nat} {a : Option Addr} {c : Nat} {B : List UInt8} (o : Own w g 5 1 a (B.length + (8 - B.length % 8) % 8) c (B.map byteV ++ List.replicate ((8 - B.length % 8) % 8) (.int .u8 0))) :
    OwnB w g a c (padTo8 B) := by
  rw [pad8_cells B] at o
  have e : B.length + (8 - B.length % 8) % 8 = (padTo8 B).length := by simp [padTo8]
  rw [e] at o
  exact o

end Go.Proofs.Ytngfpndikjbioaa
