/- The document's Find and Place; a text's first bytes. -/
import Derived.Test.YtejfkjfidhdfaaaDirC
namespace Go.Proofs.Ytejfkjfidhdfaaa
open Go.RowKit Go.Shelf
set_option linter.unusedSimpArgs false
set_option linter.unusedVariables false

/-- the entries of a list in memory -/
def EntAt (w : World) (b off : Nat) (t : List EntT) : Prop := b < w.heap.size ∧ ∀ i (h : i < t.length), w.cell? ⟨b, off + i * 2, none⟩ = some (.string t[i].nm) ∧ w.cell? ⟨b, off + i * 2 + 1, none⟩ = some (.int .i64 t[i].ino)
theorem EntAt.mono {w w' : World} {b off : Nat} {t : List EntT} (h : EntAt w b off t) (hb : Below w.heap.size w w') : EntAt w' b off t :=
  ⟨Nat.lt_of_lt_of_le h.1 hb.size, fun i hi => ⟨(hb.cell (p := ⟨b, off + i * 2, none⟩) h.1).trans (h.2 i hi).1, (hb.cell (p := ⟨b, off + i * 2 + 1, none⟩) h.1).trans (h.2 i hi).2⟩⟩
theorem none_all {α : Type} {p : α → Bool} {l : List α} (h : ∀ y ∈ l, p y = false) : l.find? p = none := List.find?_eq_none.2 (fun y hy => by rw [h y hy]; simp)

set_option maxHeartbeats 2000000 in
theorem findRef_any (t : List EntT) (s : ByteArray) (b off c : Nat) (ht : t.length = 16) (hs : s.size ≤ 1000) (w : World) (hE : EntAt w b off t) :
    Calls Try.prog 13 #[.slice (some ⟨b, off, none⟩) 16 c, .string s] w fun e w' => e = .returned (.int .i64 (findT t s)) ∧ Below w.heap.size w w' := by
  by_cases hs0 : s = ⟨#[]⟩
  · have hans : findT t s = -1 := if_pos hs0
    rw [hans]
    subst hs0
    have het := isEmpty_t
    clear hans hE hs ht
    go_enter Try.func13, Try.ntmps13
    go_wp2_with fail
    go_ret
    exact ⟨rfl, Below.refl _ _⟩
  have he := isEmpty_fD hs0
  have HC := hid (fun w1 => hashRef_any s hs w1)
  have hf := hashF_lt s.data.toList
  have HA : Hid (findT t s = ansT ((placesP (hashF s.data.toList)).find? (hitT t s))) := if_neg hs0
  generalize hashF s.data.toList = f at *
  go_enter Try.func13, Try.ntmps13
  go_wp2_with (go_at_call 33; refine (HC.out _).mono ?_; rintro e w1 ⟨rfl, b1⟩)
  have hE1 := hE.mono b1
  clear hE HC
  go_loopw [6] (fun i wr => ∃ j : Nat, j ≤ 16 ∧ i = .int .i64 j ∧ (∀ y ∈ (placesP f).take j, hitT t s y = false) ∧ wr = w1) (fun i _ => 16 - (intOf i).toNat)
  case atStart => exact ⟨0, by omega, rfl, by simp, rfl⟩
  case round =>
    obtain ⟨j, hj, rfl, hno, rfl⟩ := hrel
    by_cases hlt : j < 16
    · have dj : decide ((j : Int) < 16) = true := decide_eq_true (by omega)
      have hsn := placesP_snoc f hlt
      have hq : (f + j) % 16 < 16 := Nat.mod_lt _ (by omega)
      have e1 : IntKind.i64.wrap ((f : Int) + j) = f + j := IntWalk.i64_in _ (by omega)
      have e2 : ((f : Int) + j).tmod 16 = (((f + j) % 16 : Nat) : Int) := by rw [show (f : Int) + j = ((f + j : Nat) : Int) by omega]; rfl
      have HSN := hid hsn
      clear hsn
      generalize (f + j) % 16 = q at *
      have e3 : IntKind.i64.wrap (q : Int) = q := IntWalk.i64_in _ (by omega)
      have x0 := (hE1.2 q (by omega)).1
      have hge : t.getD q ⟨⟨#[]⟩, 0⟩ = t[q]'(by omega) := by simp [show q < t.length by omega]
      have hhit : hitT t s q = decide ((t[q]'(by omega)).nm = s) := by unfold hitT; rw [hge]
      have hst := eq_strD (t[q]'(by omega)).nm s
      have HE := hid hE1
      clear hE1 hge
      generalize (t[q]'(by omega)).nm = nm at *
      have HNO := hid hno
      have HHT := hid hhit
      clear hno hhit
      by_cases hq2 : nm = s
      · rw [decide_eq_true hq2] at hst
        have hh : hitT t s q = true := by rw [HHT.out]; exact decide_eq_true hq2
        have hres : ansT ((placesP f).find? (hitT t s)) = (q : Int) := by
          rw [find_firstD (q := (placesP f).take j) (x := q) (by rw [← HSN.out]; exact List.take_prefix _ _) HNO.out hh]; rfl
        have HRES := hid hres
        clear hq2 hres
        go_wp2_with fail
        go_ret
        exact ⟨ret_int (by rw [HA.out, HRES.out]), b1⟩
      · rw [decide_eq_false hq2] at hst
        have hh : hitT t s q = false := by rw [HHT.out]; exact decide_eq_false hq2
        clear hq2
        go_wp2_with fail
        go_roundw
        case rel =>
          refine ⟨j + 1, by omega, by go_num, fun y hy => ?_, by first | rfl | trivial⟩
          rw [HSN.out] at hy
          rcases List.mem_append.1 hy with h | h
          · exact HNO.out y h
          · rw [List.mem_singleton.1 h]; exact hh
        case measure => simp [intOf]; omega
    · obtain rfl : j = 16 := by omega
      rw [List.take_of_length_le (by rw [placesP_len]; omega)] at hno
      have HRES : Hid (ansT ((placesP f).find? (hitT t s)) = -1) := by rw [none_all hno]; rfl
      clear hno
      go_wp2_with fail
      go_ret
      exact ⟨ret_int (by rw [HA.out, HRES.out]), b1⟩
end Go.Proofs.Ytejfkjfidhdfaaa
