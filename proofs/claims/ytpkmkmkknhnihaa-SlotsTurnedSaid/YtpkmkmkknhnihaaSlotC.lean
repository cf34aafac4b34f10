import Derived.Test.YtpkmkmkknhnihaaSlotB
import Derived.Test.YtpkmkmkknhnihaaBytesA
import Derived.Test.YtpkmkmkknhnihaaNumC
namespace Go.Proofs.Ytpkmkmkknhnihaa
open Go.RowKit
set_option linter.unusedSimpArgs false
set_option linter.unusedVariables false

def magicL : List UInt8 := [67, 77, 78, 49, 0, 0, 0, 0]
def maxC : Int := 1152921504606846976
/-- the head's bytes -/
def headL (n : Int) : List UInt8 := if btw n 1152921504606846976 then sealF (foldF magicL [(n, 8)]) else []
theorem headBody_length {n : Int} (h : btw n 1152921504606846976 = true) : (foldF magicL [(n, 8)]).length = 16 := by
  have h' : 0 ≤ n := by unfold btw at h; simp at h; exact h.1
  simp [foldF, putF, fitsB, h', le_length, magicL]

theorem row_fields (w : World) (fs : List (Int × Int)) (e : TypeId) (h : fs.length ≤ 1000) : Row (w.alloc (.cells (fieldCells fs).toArray e)) 2 (some ⟨w.heap.size, 0, none⟩) fs.length fs.length (fieldCells fs) := by
  refine ⟨fieldCells_length fs, Nat.le_refl _, by unfold maxLen; omega, fun h => by (cases h), fun _ => ⟨w.heap.size, 0, rfl, by simp, fun j u hu => ?_⟩⟩
  have hh := heap_alloc_new w (.cells (fieldCells fs).toArray e)
  unfold World.cell?
  rw [show (⟨w.heap.size, 0 + j, none⟩ : Addr).block = w.heap.size from rfl, hh]
  simpa using hu

theorem RetB.of_eq {w : World} {xs ys : List UInt8} {e : Ending} {w' : World} (h : RetB w xs e w') (he : xs = ys) : RetB w ys e w' := he ▸ h

set_option maxHeartbeats 1000000 in
theorem putHead_any (n : Int) (w : World) (hn : n ≤ 9223372036854775807) :
    Calls Try.prog 16 #[.int .i64 n] w fun e w' => ∃ a c, e = .returned (.tuple #[.slice a (headL n).length c, .int .i64 (if btw n 1152921504606846976 then 0 else 1)]) ∧ OwnB w' w.heap.size a c (headL n) ∧ Below w.heap.size w w' := by
  by_cases hb : btw n 1152921504606846976 = true
  · have hL : headL n = sealF (foldF magicL [(n, 8)]) := by unfold headL; rw [if_pos hb]
    have hE : (if btw n 1152921504606846976 then (0 : Int) else 1) = 0 := if_pos hb
    have hl := headBody_length hb
    have hl60 : (foldF magicL [(n, 8)]).length ≤ 60 := by omega
    rw [hL, hE]
    have HB := hid hb; have HL := hid hl60
    clear hb hL hE hl hl60
    go_enter Try.func16, Try.ntmps16
    go_wp2_with fail
    refine (between_any _ _ _).mono ?_
    rintro e w1 ⟨rfl, rfl⟩
    rw [HB.out]
    go_wp2_with fail
    refine (sput_any ⟨#[67, 77, 78, 49, 0, 0, 0, 0]⟩ _ _ [(n, 8)] _ (by decide) (row_fields w [(n, 8)] 45 (by simp)) (by simp) (by simp) (by simpa using hn) HL.out).mono ?_
    rintro e w2 ⟨a2, c2, rfl, o2, b2⟩
    go_wp2_with fail
    go_ret2
    exact ⟨a2, c2, rfl, o2.low (by simp), below_trans ((Below.refl _ w).alloc (Nat.le_refl _) _) b2 (by simp)⟩
  · have hb' : btw n 1152921504606846976 = false := by simpa using hb
    have hL : headL n = [] := by unfold headL; rw [if_neg hb]
    have hE : (if btw n 1152921504606846976 then (0 : Int) else 1) = 1 := if_neg hb
    rw [hL, hE]
    have HB := hid hb'
    clear hb hL hE hb'
    go_enter Try.func16, Try.ntmps16
    go_wp2_with fail
    refine (between_any _ _ _).mono ?_
    rintro e w1 ⟨rfl, rfl⟩
    rw [HB.out]
    go_wp2_with fail
    go_ret2
    exact ⟨none, 0, rfl, Own.nil _ _ _ _, Below.refl _ _⟩


def slotF (e h r er i wr : Int) : List (Int × Int) := [(e, 4), (h, 4), (r, 8), (er, 1), (i, 1), (wr, 8)]
/-- a slot's bytes -/
def slotL (e h r er i wr : Int) : List UInt8 := if mayS e h r er i wr then sealF (foldF [] (slotF e h r er i wr)) else []
theorem mayS_iff {e h r er i wr : Int} (hm : mayS e h r er i wr = true) : 0 ≤ e ∧ e ≤ 1073741824 ∧ 0 ≤ h ∧ h ≤ 1024 ∧ 0 ≤ r ∧ r ≤ 1099511627776 ∧ 0 ≤ wr ∧ wr ≤ 1099511627776 ∧ 0 ≤ er ∧ er ≤ 255 ∧ 0 ≤ i ∧ i ≤ 32 := by
  unfold mayS at hm; exact of_decide_eq_true hm

set_option maxHeartbeats 1000000 in
theorem putS_any (e h r er i wr : Int) (w : World) :
    Calls Try.prog 8 #[slotV e h r er i wr] w fun en w' => ∃ a c, en = .returned (.tuple #[.slice a (slotL e h r er i wr).length c, .int .i64 (if mayS e h r er i wr then 0 else 1)]) ∧ OwnB w' w.heap.size a c (slotL e h r er i wr) ∧ Below w.heap.size w w' := by
  have hmay := fun w1 => may_any e h r er i wr w1
  unfold slotV at *
  by_cases hb : mayS e h r er i wr = true
  · have hL : slotL e h r er i wr = sealF (foldF [] (slotF e h r er i wr)) := by unfold slotL; rw [if_pos hb]
    have hE : (if mayS e h r er i wr then (0 : Int) else 1) = 0 := if_pos hb
    have hl60 : (foldF [] (slotF e h r er i wr)).length ≤ 60 := by
      have := foldF_length_le [] (slotF e h r er i wr)
      simp [slotF] at this ⊢; omega
    have h9 : ∀ f ∈ slotF e h r er i wr, f.1 ≤ 9223372036854775807 := by
      have := mayS_iff hb
      intro f hf; simp [slotF] at hf
      rcases hf with rfl | rfl | rfl | rfl | rfl | rfl <;> simp <;> omega
    rw [hL, hE]
    have HB := hid hb; have HL := hid hl60; have H9 := hid h9; have HM := hid hmay
    clear hb hL hE hl60 h9 hmay
    go_enter Try.func8, Try.ntmps8
    go_wp2_with fail
    refine (HM.out _).mono ?_
    rintro en w1 ⟨rfl, b1⟩
    rw [HB.out]
    have H0 : Blk (w.alloc (.cells #[.int .i64 e, .int .i64 h, .int .i64 r, .int .i64 er, .int .i64 i, .int .i64 wr] 26)) w.heap.size 26 [.int .i64 e, .int .i64 h, .int .i64 r, .int .i64 er, .int .i64 i, .int .i64 wr] := heap_alloc_new w _
    have H1 := Blk.mono H0 b1
    have k0 := Blk.cell H1 (i := 0) (by simp)
    have k1 := Blk.cell H1 (i := 1) (by simp)
    have k2 := Blk.cell H1 (i := 2) (by simp)
    have k3 := Blk.cell H1 (i := 3) (by simp)
    have k4 := Blk.cell H1 (i := 4) (by simp)
    have k5 := Blk.cell H1 (i := 5) (by simp)
    simp only [List.getElem_cons_zero, List.getElem_cons_succ] at k0 k1 k2 k3 k4 k5
    have B1 := hid (below_trans ((Below.refl _ w).alloc (Nat.le_refl _) _) b1 (by simp))
    clear H0 H1 b1 HM
    go_wp2_with fail
    refine (sput_any ⟨#[]⟩ _ _ (slotF e h r er i wr) _ (by decide) (row_fields w1 (slotF e h r er i wr) 45 (by simp [slotF])) (by simp [slotF]) (by simp [slotF]) H9.out HL.out).mono ?_
    rintro en w2 ⟨a2, c2, rfl, o2, b2⟩
    go_wp2_with fail
    go_ret2
    exact ⟨a2, c2, rfl, o2.low (Nat.le_trans B1.out.size (by simp)), below_trans (B1.out.alloc B1.out.size _) b2 (Nat.le_trans B1.out.size (by simp))⟩
  · have hb' : mayS e h r er i wr = false := by simpa using hb
    have hL : slotL e h r er i wr = [] := by unfold slotL; rw [if_neg hb]
    have hE : (if mayS e h r er i wr then (0 : Int) else 1) = 1 := if_neg hb
    rw [hL, hE]
    have HB := hid hb'; have HM := hid hmay
    clear hb hL hE hb' hmay
    go_enter Try.func8, Try.ntmps8
    go_wp2_with fail
    refine (HM.out _).mono ?_
    rintro en w1 ⟨rfl, b1⟩
    rw [HB.out]
    go_wp2_with fail
    go_ret2
    exact ⟨none, 0, rfl, Own.nil _ _ _ _, below_trans ((Below.refl _ w).alloc (Nat.le_refl _) _) b1 (by simp)⟩

/-- are the first 64 bytes there, with a right sum? -/
def sumOK (xs : List UInt8) : Bool := decide (64 ≤ xs.length ∧ getF xs 60 4 = some (crcF (xs.take 60)))
def chk (xs : List UInt8) : Int := if 64 ≤ xs.length then (if getF xs 60 4 = some (crcF (xs.take 60)) then 0 else 4) else 3

set_option maxHeartbeats 1000000 in
theorem check_any (a : Option Addr) (c : Nat) (xs : List UInt8) (w : World) (ha : RowB w a c xs) :
    Calls Try.prog 25 #[.slice a xs.length c] w fun e w' => e = .returned (.int .i64 (chk xs)) ∧ Below w.heap.size w w' := by
  have hl := rowB_len ha
  have hcap : xs.length ≤ c := ha.2.1
  by_cases h64 : 64 ≤ xs.length
  · have r60 := rowB_take ha 60
    have hlen : (xs.take 60).length = 60 := by simp; omega
    have hs := fun w1 (b : Below w.heap.size w w1) => sum_any a c (xs.take 60) w1 (r60.mono b)
    rw [hlen] at hs
    have HS := hid hs; clear hs hlen r60
    have hg := get_any a c xs 60 4 w ha hl
    cases hgf : getF xs 60 4 with
    | none =>
      have hk : chk xs = 4 := by unfold chk; rw [if_pos h64, hgf]; simp
      rw [hk]
      rw [hgf] at hg
      simp only [getV] at hg
      have HG := hid hg
      clear hg hk hgf
      go_enter Try.func25, Try.ntmps25
      go_wp2_with fail
      refine HG.out.mono ?_
      rintro e w1 ⟨rfl, rfl⟩
      simp only [Option.getD_none, Option.isSome_none]
      go_wp2_with fail
      go_ret
      exact ⟨rfl, Below.refl _ _⟩
    | some v =>
      rw [hgf] at hg
      simp only [getV] at hg
      have hcl := crcF_lt (xs.take 60)
      have HS2 := hid (HS.out w (Below.refl _ _))
      by_cases hvz : v = crcF (xs.take 60)
      · have hk : chk xs = 0 := by unfold chk; rw [if_pos h64, hgf, if_pos (by rw [hvz])]
        rw [hk]
        rw [← hvz] at HS2 hcl
        have HG := hid hg
        clear hg hk hgf HS hvz
        go_enter Try.func25, Try.ntmps25
        go_wp2_with fail
        refine HG.out.mono ?_
        rintro e w1 ⟨rfl, rfl⟩
        simp only [Option.getD_some, Option.isSome_some]
        go_wp2_with fail
        refine HS2.out.mono ?_
        rintro e w2 ⟨rfl, b2⟩
        go_wp2_with fail
        go_ret
        exact ⟨rfl, b2⟩
      · have hk : chk xs = 4 := by unfold chk; rw [if_pos h64, hgf, if_neg (by simpa using hvz)]
        rw [hk]
        have HG := hid hg
        clear hg hk hgf HS
        generalize crcF (xs.take 60) = z at *
        have hne : ¬ (v : Int) = (z : Int) := by omega
        go_enter Try.func25, Try.ntmps25
        go_wp2_with fail
        refine HG.out.mono ?_
        rintro e w1 ⟨rfl, rfl⟩
        simp only [Option.getD_some, Option.isSome_some]
        go_wp2_with fail
        refine HS2.out.mono ?_
        rintro e w2 ⟨rfl, b2⟩
        go_wp2_with fail
        go_ret
        exact ⟨rfl, b2⟩
  · have hk : chk xs = 3 := by unfold chk; rw [if_neg h64]
    rw [hk]
    go_enter Try.func25, Try.ntmps25
    go_wp2_with fail
    go_ret
    exact ⟨rfl, Below.refl _ _⟩

end Go.Proofs.Ytpkmkmkknhnihaa
