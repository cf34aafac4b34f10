/- The document's Place; a text's first bytes. -/
import Derived.Test.YtejfkjfidhdfaaaDirD
namespace Go.Proofs.Ytejfkjfidhdfaaa
open Go.RowKit Go.Shelf
set_option linter.unusedSimpArgs false
set_option linter.unusedVariables false


set_option maxHeartbeats 2000000 in
theorem placeRef_any (t : List EntT) (s : ByteArray) (b off c : Nat) (ht : t.length = 16) (hs : s.size ≤ 1000) (w : World) (hE : EntAt w b off t) :
    Calls Try.prog 15 #[.slice (some ⟨b, off, none⟩) 16 c, .string s] w fun e w' => e = .returned (.int .i64 (placeT t s)) ∧ Below w.heap.size w w' := by
  have HC := hid (fun w1 => hashRef_any s hs w1)
  have hf := hashF_lt s.data.toList
  have HA : Hid (placeT t s = ansT ((placesP (hashF s.data.toList)).find? (freeT t))) := rfl
  generalize hashF s.data.toList = f at *
  go_enter Try.func15, Try.ntmps15
  go_wp2_with (go_at_call 33; refine (HC.out _).mono ?_; rintro e w1 ⟨rfl, b1⟩)
  have hE1 := hE.mono b1
  clear hE HC
  go_loopw [6] (fun i wr => ∃ j : Nat, j ≤ 16 ∧ i = .int .i64 j ∧ (∀ y ∈ (placesP f).take j, freeT t y = false) ∧ EntAt wr b off t ∧ Below w.heap.size w wr) (fun i _ => 16 - (intOf i).toNat)
  case atStart => exact ⟨0, by omega, rfl, by simp, hE1, b1⟩
  case round =>
    obtain ⟨j, hj, rfl, hno, hEr, br⟩ := hrel
    by_cases hlt : j < 16
    · have dj : decide ((j : Int) < 16) = true := decide_eq_true (by omega)
      have hsn := placesP_snoc f hlt
      have hq : (f + j) % 16 < 16 := Nat.mod_lt _ (by omega)
      have e1 : IntKind.i64.wrap ((f : Int) + j) = f + j := IntWalk.i64_in _ (by omega)
      have e2 : ((f : Int) + j).tmod 16 = (((f + j) % 16 : Nat) : Int) := by rw [show (f : Int) + j = ((f + j : Nat) : Int) by omega]; rfl
      have HSN := hid hsn
      clear hsn
      generalize (f + j) % 16 = q at *
      have e3 : IntKind.i64.wrap (q : Int) = q := IntWalk.i64_in _ (by omega)
      have x0 := (hEr.2 q (by omega)).1
      have x1 := (hEr.2 q (by omega)).2
      have hge : t.getD q ⟨⟨#[]⟩, 0⟩ = t[q]'(by omega) := by simp [show q < t.length by omega]
      have hhit : freeT t q = decide ((t[q]'(by omega)).nm = ⟨#[]⟩ ∧ (t[q]'(by omega)).ino = 0) := by unfold freeT; rw [hge]
      have HN := hid (hEr.mono (albD wr (.cells #[.string (t[q]'(by omega)).nm, .int .i64 (t[q]'(by omega)).ino] 24)))
      have HBR := hid (br.alloc br.size (.cells #[.string (t[q]'(by omega)).nm, .int .i64 (t[q]'(by omega)).ino] 24))
      clear hE1 hge hEr br
      generalize (t[q]'(by omega)).nm = nm at *
      generalize (t[q]'(by omega)).ino = ino at *
      have HNO := hid hno
      have HHT := hid hhit
      clear hno hhit
      have go : freeT t q = false → ∀ y ∈ (placesP f).take (j + 1), freeT t y = false := by
        intro hh y hy
        rw [HSN.out] at hy
        rcases List.mem_append.1 hy with h | h
        · exact HNO.out y h
        · rw [List.mem_singleton.1 h]; exact hh
      have GO := hid go
      clear go
      by_cases hq2 : nm = ⟨#[]⟩
      · subst hq2
        have het := isEmpty_t
        by_cases hq3 : ino = 0
        · subst hq3
          have hh : freeT t q = true := by rw [HHT.out]; exact decide_eq_true ⟨rfl, rfl⟩
          have hres : ansT ((placesP f).find? (freeT t)) = (q : Int) := by
            rw [find_firstD (q := (placesP f).take j) (x := q) (by rw [← HSN.out]; exact List.take_prefix _ _) HNO.out hh]; rfl
          have HRES := hid hres
          clear hres
          go_wp2_with fail
          go_ret
          exact ⟨ret_int (by rw [HA.out, HRES.out]), HBR.out⟩
        · have hh : freeT t q = false := by rw [HHT.out]; exact decide_eq_false (fun h => hq3 h.2)
          have hi : (ino == 0) = false := by simpa using hq3
          go_wp2_with fail
          go_roundw
          case rel => exact ⟨j + 1, by omega, by go_num, GO.out hh, HN.out, HBR.out⟩
          case measure => simp [intOf]; omega
      · have he := isEmpty_fD hq2
        have hh : freeT t q = false := by rw [HHT.out]; exact decide_eq_false (fun h => hq2 h.1)
        clear hq2
        go_wp2_with fail
        go_roundw
        case rel => exact ⟨j + 1, by omega, by go_num, GO.out hh, HN.out, HBR.out⟩
        case measure => simp [intOf]; omega
    · obtain rfl : j = 16 := by omega
      rw [List.take_of_length_le (by rw [placesP_len]; omega)] at hno
      have HRES : Hid (ansT ((placesP f).find? (freeT t)) = -1) := by rw [none_all hno]; rfl
      clear hno
      go_wp2_with fail
      go_ret
      exact ⟨ret_int (by rw [HA.out, HRES.out]), br⟩

/-- the first 20 bytes -/
def shortB (s : ByteArray) : ByteArray := if s.size ≤ 20 then s else s.extract 0 20
theorem shortB_size (s : ByteArray) : (shortB s).size ≤ 20 := by
  unfold shortB
  split
  · assumption
  · rw [ByteArray.size_extract]; omega
theorem short_any (s : ByteArray) (w : World) : Calls Try.prog 11 #[.string s] w fun e w' => e = .returned (.string (shortB s)) ∧ w = w' := by
  by_cases h : s.size ≤ 20
  · have e : shortB s = s := if_pos h
    rw [e]
    have d : decide (20 < (s.size : Int)) = false := decide_eq_false (by omega)
    clear e
    go_enter Try.func11, Try.ntmps11
    go_wp2
    go_ret
    exact ⟨rfl, rfl⟩
  · have e : shortB s = s.extract 0 20 := if_neg h
    rw [e]
    have d : decide (20 < (s.size : Int)) = true := decide_eq_true (by omega)
    have d2 : (20 : Int) ≤ s.size := by omega
    clear e
    go_enter Try.func11, Try.ntmps11
    go_wp2
    go_ret
    exact ⟨rfl, rfl⟩
end Go.Proofs.Ytejfkjfidhdfaaa
