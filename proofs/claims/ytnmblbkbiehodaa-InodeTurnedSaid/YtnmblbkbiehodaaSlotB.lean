import Derived.Test.YtnmblbkbiehodaaSlotA
namespace Go.Proofs.Ytnmblbkbiehodaa
open Go.RowKit
set_option linter.unusedSimpArgs false
set_option linter.unusedVariables false

def fieldCells (fs : List (Int × Int)) : List Value := fs.flatMap fun f => [.int .i64 f.1, .int .i64 f.2]
theorem fieldCells_length (fs : List (Int × Int)) : (fieldCells fs).length = fs.length * 2 := by
  induction fs with
  | nil => rfl
  | cons f fs ih => simp only [fieldCells, List.flatMap_cons, List.length_append, List.length_cons] at *; simp at *; omega
theorem fieldCells_at {fs : List (Int × Int)} {j : Nat} {f : Int × Int} (h : fs[j]? = some f) : (fieldCells fs)[j * 2]? = some (.int .i64 f.1) ∧ (fieldCells fs)[j * 2 + 1]? = some (.int .i64 f.2) := by
  induction fs generalizing j with
  | nil => simp at h
  | cons g fs ih =>
    cases j with
    | zero => simp at h; subst h; simp [fieldCells]
    | succ j =>
      have h' : fs[j]? = some f := by simpa using h
      have := ih h'
      rw [show (j + 1) * 2 = j * 2 + 1 + 1 from by omega]
      simpa [fieldCells] using this

def foldF (text : List UInt8) (fs : List (Int × Int)) : List UInt8 := fs.foldl (fun b f => putF b f.1 f.2) text

theorem putF_length_le (xs : List UInt8) (n k : Int) : (putF xs n k).length ≤ xs.length + 8 := by
  unfold putF
  split
  · next h => have := fitsB_width h; simp [le_length]; omega
  · omega

theorem foldF_length_le (xs : List UInt8) (fs : List (Int × Int)) : (foldF xs fs).length ≤ xs.length + 8 * fs.length := by
  induction fs generalizing xs with
  | nil => simp [foldF]
  | cons f fs ih =>
    have h1 := ih (putF xs f.1 f.2)
    have h2 := putF_length_le xs f.1 f.2
    simp only [foldF, List.foldl_cons, List.length_cons] at *
    omega

theorem map_byteV_data (s : ByteArray) (cap : Nat) : bytesRow s cap = ((s.data.toList.map byteV) ++ List.replicate (cap - s.size) (Value.int .u8 0)).toArray := by
  apply Array.ext'
  simp [bytesRow, byteV]

/-- what '[]byte(text)' lays can be read -/
theorem row_of_string (w : World) (s : ByteArray) (hs : s.size ≤ 1000) :
    RowB (w.alloc (.cells (bytesRow s (grownCap w s.size 0 5)) 5 ((bytesRow s (grownCap w s.size 0 5)).size, (bytesRow s (grownCap w s.size 0 5)).size + 1))).drew (some ⟨w.heap.size, 0, none⟩) (grownCap w s.size 0 5) s.data.toList := by
  have hlen : s.data.toList.length = s.size := by simp
  have hge := grownCap_ge w s.size 0 5
  have hcm : grownCap w s.size 0 5 ≤ maxLen := grownCap_le_maxLen w s.size 0 5 (by unfold maxLen; omega)
  refine Row.drew (w := w.alloc _) ⟨by simp, by omega, hcm, (fun h => by cases h), fun _ => ⟨w.heap.size, 0, rfl, by simp, fun j u hu => ?_⟩⟩
  have hh := heap_alloc_new w (.cells (bytesRow s (grownCap w s.size 0 5)) 5 ((bytesRow s (grownCap w s.size 0 5)).size, (bytesRow s (grownCap w s.size 0 5)).size + 1))
  unfold World.cell?
  rw [show (⟨w.heap.size, 0 + j, none⟩ : Addr).block = w.heap.size from rfl, hh]
  have hj := (List.getElem?_eq_some_iff.1 hu).1
  simp only [Nat.zero_add, Option.isSome_none, Bool.false_eq_true, if_false]
  rw [map_byteV_data]
  rw [List.getElem?_toArray, List.getElem?_append_left hj]
  exact hu

theorem pad_cells {B : List UInt8} (h : B.length ≤ 60) : B.map byteV ++ List.replicate (60 - B.length) (.int .u8 0) = (padF B).map byteV := by
  simp [padF, byteV]
theorem fits4 {z : Nat} (h : z < 4294967296) : fitsB (z : Int) 4 = true := by
  unfold fitsB
  simp; omega
theorem put_sum (l : List UInt8) : putF l (crcF l : Nat) 4 = l ++ le 4 (crcF l) := by
  unfold putF
  rw [if_pos (fits4 (crcF_lt l))]
  simp
theorem pad_len {B : List UInt8} (h : B.length ≤ 60) : B.length + (60 - B.length) = (padF B).length := by rw [padF_length h]; omega
theorem pad_row {w : World} {g : Nat} {a : Option Addr} {c : Nat} {B : List UInt8} (h : B.length ≤ 60) (o : Own w g 5 1 a (B.length + (60 - B.length)) c (B.map byteV ++ List.replicate (60 - B.length) (.int .u8 0))) :
    RowB w a c (padF B) := by
  rw [pad_cells h] at o
  have := o.row
  rwa [show B.length + (60 - B.length) = (padF B).length from by rw [padF_length h]; omega] at this
