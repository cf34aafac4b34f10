import Derived.Test.YtpkmkmkknhnihaaSlotA
namespace Go.Proofs.Ytpkmkmkknhnihaa
open Go.RowKit
set_option linter.unusedSimpArgs false
set_option linter.unusedVariables false

def fieldCells (fs : List (Int × Int)) : List Value := fs.flatMap fun f => [.int .i64 f.1, .int .i64 f.2]
theorem fieldCells_length (fs : List (Int × Int)) : (fieldCells fs).length = fs.length * 2 := by
  induction fs with
  | nil => rfl
  | cons f fs ih => simp only [fieldCells, List.flatMap_cons, List.length_append, List.length_cons] at *; simp at *; omega
theorem fieldCells_at {fs : List (Int × Int)} {j : Nat} {f : Int × Int} (h : fs[j]? = some f) : (fieldCells fs)[j * 2]? = some (.int .i64 f.1) ∧ (fieldCells fs)[j * 2 + 1]? = some (.int .i64 f.2) := by
  induction fs generalizing j with
  | nil => simp at h
  | cons g fs ih =>
    cases j with
    | zero => simp at h; subst h; simp [fieldCells]
    | succ j =>
      have h' : fs[j]? = some f := by simpa using h
      have := ih h'
      rw [show (j + 1) * 2 = j * 2 + 1 + 1 from by omega]
      simpa [fieldCells] using this

def foldF (text : List UInt8) (fs : List (Int × Int)) : List UInt8 := fs.foldl (fun b f => putF b f.1 f.2) text

theorem putF_length_le (xs : List UInt8) (n k : Int) : (putF xs n k).length ≤ xs.length + 8 := by
  unfold putF
  split
  · next h => have := fitsB_width h; simp [le_length]; omega
  · omega

theorem foldF_length_le (xs : List UInt8) (fs : List (Int × Int)) : (foldF xs fs).length ≤ xs.length + 8 * fs.length := by
  induction fs generalizing xs with
  | nil => simp [foldF]
  | cons f fs ih =>
    have h1 := ih (putF xs f.1 f.2)
    have h2 := putF_length_le xs f.1 f.2
    simp only [foldF, List.foldl_cons, List.length_cons] at *
    omega

theorem map_byteV_data (s : ByteArray) (cap : Nat) : bytesRow s cap = ((s.data.toList.map byteV) ++ List.replicate (cap - s.size) (Value.int .u8 0)).toArray := by
  apply Array.ext'
  simp [bytesRow, byteV]

/-- what '[]byte(text)' lays can be read -/
theorem row_of_string (w : World) (s : ByteArray) (hs : s.size ≤ 1000) :
    RowB (w.alloc (.cells (bytesRow s (grownCap w s.size 0 5)) 5 ((bytesRow s (grownCap w s.size 0 5)).size, (bytesRow s (grownCap w s.size 0 5)).size + 1))).drew (some ⟨w.heap.size, 0, none⟩) (grownCap w s.size 0 5) s.data.toList := by
  have hlen : s.data.toList.length = s.size := by simp
  have hge := grownCap_ge w s.size 0 5
  have hcm : grownCap w s.size 0 5 ≤ maxLen := grownCap_le_maxLen w s.size 0 5 (by unfold maxLen; omega)
  refine Row.drew (w := w.alloc _) ⟨by simp, by omega, hcm, (fun h => by cases h), fun _ => ⟨w.heap.size, 0, rfl, by simp, fun j u hu => ?_⟩⟩
  have hh := heap_alloc_new w (.cells (bytesRow s (grownCap w s.size 0 5)) 5 ((bytesRow s (grownCap w s.size 0 5)).size, (bytesRow s (grownCap w s.size 0 5)).size + 1))
  unfold World.cell?
  rw [show (⟨w.heap.size, 0 + j, none⟩ : Addr).block = w.heap.size from rfl, hh]
  have hj := (List.getElem?_eq_some_iff.1 hu).1
  simp only [Nat.zero_add, Option.isSome_none, Bool.false_eq_true, if_false]
  rw [map_byteV_data]
  rw [List.getElem?_toArray, List.getElem?_append_left hj]
  exact hu

theorem pad_cells {B : List UInt8} (h : B.length ≤ 60) : B.map byteV ++ List.replicate (60 - B.length) (.int .u8 0) = (padF B).map byteV := by
  simp [padF, byteV]
theorem fits4 {z : Nat} (h : z < 4294967296) : fitsB (z : Int) 4 = true := by
  unfold fitsB
  simp; omega
theorem put_sum (l : List UInt8) : putF l (crcF l : Nat) 4 = l ++ le 4 (crcF l) := by
  unfold putF
  rw [if_pos (fits4 (crcF_lt l))]
  simp
theorem pad_len {B : List UInt8} (h : B.length ≤ 60) : B.length + (60 - B.length) = (padF B).length := by rw [padF_length h]; omega
theorem pad_row {w : World} {g : Nat} {a : Option Addr} {c : Nat} {B : List UInt8} (h : B.length ≤ 60) (o : Own w g 5 1 a (B.length + (60 - B.length)) c (B.map byteV ++ List.replicate (60 - B.length) (.int .u8 0))) :
    RowB w a c (padF B) := by
  rw [pad_cells h] at o
  have := o.row
  rwa [show B.length + (60 - B.length) = (padF B).length from by rw [padF_length h]; omega] at this

set_option maxHeartbeats 1000000 in
theorem sput_any (s : ByteArray) (a : Option Addr) (c : Nat) (fs : List (Int × Int)) (w : World) (hs : s.size ≤ 60) (hf : Row w 2 a fs.length c (fieldCells fs)) (hn : fs.length ≤ 20) (hpos : 0 < fs.length) (h9 : ∀ f ∈ fs, f.1 ≤ 9223372036854775807)
    (h60 : (foldF s.data.toList fs).length ≤ 60) :
    Calls Try.prog 21 #[.string s, .slice a fs.length c] w (RetB w (sealF (foldF s.data.toList fs))) := by
  have kc := fun w : World => run_bytes_of_string (P := Try.prog) w 9 27 5 s Try.underlying9 Try.underlying27 Try.underlying5
  have hlen : s.data.toList.length = s.size := by simp
  have r0 := row_of_string w s (by omega)
  have b0 : Below w.heap.size w (w.alloc (.cells (bytesRow s (grownCap w s.size 0 5)) 5 ((bytesRow s (grownCap w s.size 0 5)).size, (bytesRow s (grownCap w s.size 0 5)).size + 1))).drew := ((Below.refl _ w).alloc (Nat.le_refl _) _).drew
  go_enter Try.func21, Try.ntmps21
  go_wp2
  clear kc
  rw [← hlen] at r0 b0 ⊢
  generalize hcap : grownCap w s.data.toList.length 0 5 = cap0 at *
  clear hcap
  generalize World.drew _ = w1 at *
  have hfl := hf.1
  have HF60 := hid h60; have HF9 := hid h9; clear h60 h9
  generalize htx : s.data.toList = tx at *
  have htl : tx.length ≤ 60 := by omega
  clear htx hlen
  have t1 : True := trivial
  go_loopw [5, 12] (fun b i wr => ∃ (j : Nat) (a' : Option Addr) (c' : Nat), j ≤ fs.length ∧ i = .int .i64 j ∧ b = .slice a' (foldF tx (fs.take j)).length c' ∧ RowB wr a' c' (foldF tx (fs.take j)) ∧ (0 < j → OwnB wr w.heap.size a' c' (foldF tx (fs.take j))) ∧ Below w.heap.size w wr)
    (fun _ i _ => fs.length - (intOf i).toNat)
  case atStart => exact ⟨0, _, _, by omega, rfl, rfl, r0, fun h => absurd h (by omega), b0⟩
  case round =>
    obtain ⟨j, a', c', hj, rfl, rfl, hr, ho, hb⟩ := hrel
    by_cases hlt : j < fs.length
    · obtain ⟨f, hfj⟩ : ∃ f, fs[j]? = some f := ⟨_, List.getElem?_eq_getElem hlt⟩
      obtain ⟨b, off, rfl, hbl, hc⟩ := (hf.mono hb).at (by omega)
      have c0 := hc (j * 2) _ (fieldCells_at hfj).1
      have c1 := hc (j * 2 + 1) _ (fieldCells_at hfj).2
      rw [← Nat.add_assoc] at c1
      have hx : foldF tx (fs.take (j + 1)) = putF (foldF tx (fs.take j)) f.1 f.2 := by
        unfold foldF
        rw [List.take_add_one, hfj]
        simp [List.foldl_append]
      have HX := hid hx; clear hx
      have h9 := HF9.out f (List.mem_of_getElem? hfj)
      clear hc hfj
      have hl60 : (foldF tx (fs.take j)).length ≤ 70368744177664 := by
        have h1 := foldF_length_le tx (fs.take j)
        have h2 : (fs.take j).length ≤ 20 := by simp; omega
        omega
      go_wp2_with fail
      refine (put_any a' c' _ f.1 f.2 _ (hr.alloc _) hl60 h9).mono ?_
      have hsz := hb.size
      rintro e w2 ⟨a2, c2, rfl, o2, b2⟩
      go_wp2_with fail
      go_roundw
      case rel => exact ⟨j + 1, a2, c2, by omega, by go_num, by rw [HX.out], by rw [HX.out]; exact o2.row, fun _ => by rw [HX.out]; exact o2.low (Nat.le_trans hsz (by simp)), below_trans (hb.alloc hsz _) b2 (Nat.le_trans hsz (by simp))⟩
      case measure => simp [intOf]; omega
    · obtain rfl : j = fs.length := by omega
      have o1 := ho hpos
      simp only [List.take_length] at o1 ⊢
      have h60 := HF60.out
      generalize hB : foldF tx fs = B at *
      have HB := hid hB; clear hB ho hr hf HF9 r0 b0
      have hlb := hb.size
      have hk : (60 : Int) - (B.length : Int) = ((60 - B.length : Nat) : Int) := by omega
      go_wp2_with (at_builtin; have _t := t1; refine wpl_append_zeros rfl (.tmp 23) (.tmp 26) rfl Try.underlying27 Try.underlying3 (z := .int .u8 0) (bytes := 1) (by kernel_rfl) rfl rfl w.heap.size (k := 60 - B.length) rfl rfl rfl o1 (by omega) (by omega) hlb ?_; clear t1; intro a3 c3 w3 o3 _ b3; have _r3 := pad_row h60 o3; rw [pad_len h60])
      have hp60 : (padF B).length ≤ 60 := Nat.le_of_eq (padF_length h60)
      have hcl := crcF_lt (padF B)
      refine (sum_any a3 c3 (padF B) w3 _r3).mono ?_
      rintro e w4 ⟨rfl, b4⟩
      generalize hz : crcF (padF B) = z at *
      have HZ := hid hz; clear hz
      go_wp2_with fail
      refine (put_any a3 c3 (padF B) (z : Int) 4 _ (_r3.mono b4) (by omega) (by omega)).mono ?_
      rintro e w5 ⟨a5, c5, rfl, o5, b5⟩
      have he : putF (padF B) (z : Int) 4 = sealF B := by
        unfold sealF; rw [← HZ.out]; exact put_sum _
      rw [he] at o5 ⊢
      have hs4 := Nat.le_trans b3.size b4.size
      go_wp2_with fail
      go_ret
      exact ⟨a5, c5, rfl, o5.low (by have := b3.size; have := b4.size; omega), below_trans (below_trans (below_trans hb b3 (Nat.le_refl _)) b4 (by have := b3.size; omega)) b5 (by have := b3.size; have := b4.size; omega)⟩

end Go.Proofs.Ytpkmkmkknhnihaa
