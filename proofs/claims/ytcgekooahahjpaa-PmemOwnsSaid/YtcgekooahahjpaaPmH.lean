/- A memory's crash. -/
import Derived.Test.YtcgekooahahjpaaPmG
namespace Go.Proofs.Ytcgekooahahjpaa
open Go.RowKit
set_option linter.unusedSimpArgs false
set_option linter.unusedVariables false

def intsOk (L : List Int) : Prop := ∀ x ∈ L, -9223372036854775808 ≤ x ∧ x ≤ 9223372036854775807
theorem own_natAt {w : World} {B c : Nat} {a : Option Addr} {L : List Nat} (h : OwnN w B a c L) {j : Nat} (hj : j < L.length) : ∃ b, a = some ⟨b, 0, none⟩ ∧ B ≤ b ∧ w.cell? ⟨b, j, none⟩ = some (.int .i64 (L.getD j 0 : Nat)) := by
  obtain ⟨g, rfl⟩ := own_someO h (by omega)
  obtain ⟨C, hb, hl, hB, ht, _⟩ := Own.blk h
  have := (Own.row h).at (by omega)
  obtain ⟨b, off, e, hlt, hc⟩ := this
  cases e
  refine ⟨_, rfl, hB, ?_⟩
  have := hc j (iV (L.getD j 0 : Nat)) (by simp [natV, hj])
  simpa [iV] using this

set_option maxHeartbeats 4000000 in
theorem crash_any {w : World} {g v d p : Nat} {M : MemM} (h : MemP w g v d p M) (picks : List Int) (ap : Option Addr) (cp : Nat) (hr : RowI w ap cp picks) (hok : intsOk picks) (hs : 0 < picks.length → ∀ b, (∃ off, ap = some ⟨b, off, none⟩) → b ≠ d) :
    Calls Try.prog 18 #[.pointer (some ⟨g, 0, none⟩), .slice ap picks.length cp] w fun e w' => (∃ x, e = .returned x) ∧ MemP w' g v d p (crashM M picks) ∧ Turns (fun b => b = v ∨ b = d ∨ b = p) w w' := by
  obtain ⟨av, ag1, ag2, ap1, ap2, ap3, gl, vl, dl, pl⟩ := mem_apart h
  have HDA := hid (dirtyAll_any h)
  have HH := hid h
  have HR := hid hr
  have hpl := rowI_len hr
  have hLlt : ∀ k ∈ dirtyL M, k < M.A.length := dirtyL_lt
  have hLlen : (dirtyL M).length ≤ 200000 := by
    have := dirtyN_len M.V M.D M.A.length
    have h1 := h.1.2.1; have h2 := h.1.2.2.2.2
    have : (dirtyL M).length ≤ M.A.length := this
    omega
  have hE : crashM M picks = ⟨mixF (selF (dirtyL M) picks (dirtyL M).length) M.V M.D, mixF (selF (dirtyL M) picks (dirtyL M).length) M.V M.D, tabF M.A.length fun _ => false⟩ := rfl
  rw [hE]
  clear hE h hr
  generalize dirtyL M = L at *
  have HLT := hid hLlt
  clear hLlt
  go_enter Try.func18, Try.ntmps18
  go_wp2_with (go_at_call 21; refine HDA.out.mono ?_; rintro e w1 ⟨al, cl, rfl, ol, b1⟩; have OL := hid ol; have B1 := hid b1; clear ol b1)
  have M1 := hid (HH.out.mono B1.out)
  go_loopw [4, 5, 9] (fun _ _ i wr => ∃ j : Nat, j ≤ L.length ∧ i = .int .i64 j ∧ MemP wr g v d p ⟨M.V, mixF (selF L picks j) M.V M.D, M.A⟩ ∧ Turns (fun b => b = d) w1 wr) (fun _ _ i _ => L.length - (intOf i).toNat)
  case atStart =>
    refine ⟨0, by omega, rfl, ?_, Turns.refl _ _⟩
    rw [mixF_congr (g := fun _ => false) (fun k _ => selF_zero _ _ _), mixF_none]
    exact M1.out
  case round =>
    obtain ⟨j, hj, rfl, hm, ht⟩ := hrel
    have HM := hid hm; have HT := hid ht
    obtain ⟨k0, k1, k2⟩ := hm.cells
    by_cases hlt : j < L.length
    · obtain ⟨bl, rfl, hbl, cl0⟩ := own_natAt (ht.own OL.out (fun k q => by subst q; exact dl)) hlt
      have hLm : L.getD j 0 ∈ L := by simp [hlt]
      have hq := HLT.out _ hLm
      have HP := hid (persist_any hm (L.getD j 0) hq)
      have hsel := selF_succ L picks j
      have HSE := hid hsel
      have i1 : (j : Int) < (L.length : Int) := by omega
      have i2 : IntKind.i64.wrap ((j : Int) + 1) = (j : Int) + 1 := IntWalk.i64_in _ (by omega)
      clear hm ht hsel hLm
      generalize hx : L.getD j 0 = x at *
      by_cases hp : j < picks.length
      · have rp : RowI wr ap cp picks := HT.out.row (HR.out.mono B1.out) hs
        obtain ⟨bp, op, rfl, hbp, cp0⟩ := rowI_cells rp (by omega)
        have cpj := cp0 j hp
        have hO := hok (picks.getD j 0) (by simp [hp])
        have hO2 := fun w => odd_any (picks.getD j 0) w hO
        have hPB : pickB picks j = oddP (picks.getD j 0) := by unfold pickB; rw [decide_eq_true hp]; simp
        have HO := hid hO2
        have i3 : (j : Int) < (picks.length : Int) := by omega
        clear rp cp0 hO2
        generalize picks.getD j 0 = y at *
        by_cases ho : oddP y = true
        · rw [ho] at HO hPB
          have HPB := hid hPB
          clear hPB ho
          go_wp2_with (first
            | (go_at_call 39; refine (HO.out _).mono ?_; rintro e w2 ⟨rfl, rfl⟩)
            | (go_at_call 37; refine HP.out.mono ?_; rintro e w2 ⟨⟨z, rfl⟩, m2, t2⟩; have M2 := hid m2; have T2 := hid t2; clear m2 t2))
          go_roundw
          case rel =>
            refine ⟨j + 1, by omega, by go_num, ?_, HT.out.trans T2.out⟩
            have := M2.out
            rw [mixF_setA] at this
            rw [mixF_congr (g := fun i => selF L picks j i || i == x) (fun i _ => by rw [HSE.out, HPB.out, Bool.and_true, show (x == i) = (i == x) from BEq.comm])]
            exact this
          case measure => simp [intOf]; omega
        · rw [show oddP y = false by simpa using ho] at HO hPB
          have HPB := hid hPB
          clear hPB ho
          go_wp2_with (first
            | (go_at_call 39; refine (HO.out _).mono ?_; rintro e w2 ⟨rfl, rfl⟩))
          go_roundw
          case rel =>
            refine ⟨j + 1, by omega, by go_num, ?_, HT.out⟩
            rw [mixF_congr (g := selF L picks j) (fun i _ => by rw [HSE.out, HPB.out]; simp)]
            exact HM.out
          case measure => simp [intOf]; omega
      · have hPB : pickB picks j = false := by unfold pickB; rw [decide_eq_false hp]; rfl
        have HPB := hid hPB
        have i3 : ¬ ((j : Int) < (picks.length : Int)) := by omega
        clear hPB
        go_wp2
        go_roundw
        case rel =>
          refine ⟨j + 1, by omega, by go_num, ?_, HT.out⟩
          rw [mixF_congr (g := selF L picks j) (fun i _ => by rw [HSE.out, HPB.out]; simp)]
          exact HM.out
        case measure => simp [intOf]; omega
    · obtain rfl : j = L.length := by omega
      obtain ⟨m1, m2, m3, m4, m5, m6⟩ := hm
      clear ht
      generalize hX : mixF (selF L picks L.length) M.V M.D = X at *
      have hXl : X.length = M.V.length := m1.1
      have hVl : M.V.length ≤ 1048576 := m1.2.2.2.2
      have rd := row_blkO m5 1 M.V.length (by simp [hXl]) (by omega)
      have M4 := hid m4; have RD := hid rd; have M5 := hid m5; have M3 := hid m3; have M6 := hid m6; have HXL := hid hXl; have MO := hid m1
      clear m1 m3 m4 m5 m6 rd hXl HM
      have hsp : splice (M.V.map byteV) 0 ((X.map byteV).take (min M.V.length M.V.length)) = X.map byteV := by
        rw [Nat.min_self, List.take_of_length_le (by simp [HXL.out])]
        exact splice_all (by simp [HXL.out])
      have HSP := hid hsp
      clear hsp
      go_wp2_with fail
      go_region_law (refine step_copyG rfl (.tmp 32) (.tmp 36) rfl Try.underlying29 (by kernel_rfl) rfl rfl (fun _ => rfl) M4.out RD.out (byteV_one X) (by simp) ?_; intro w3 k3 g3)
      all_goals
        have g3' : wr.grownBy w3 (some v) := ⟨g3.os, g3.tape, g3.output, g3.size, g3.block⟩
        have K3 := hid k3; have G3 := hid g3'
        have q2 := (((Turns.of_grown (X := fun b => b = v) g3' rfl)).blk M3.out ag1).cell (i := 2) (by simp)
        have P3 := hid ((Turns.of_grown (X := fun b => b = v) g3' rfl).pend M6.out ap2)
        clear k3 g3 g3'
        obtain ⟨w4, hrun, p4, g4⟩ := P3.out.clear (ty := 0) Try.underlying50 M.A.length
        have P4 := hid p4; have G4 := hid g4
        clear p4 g4
        simp only [List.getElem_cons_succ, List.getElem_cons_zero] at q2
        go_wp2
        go_end0
        have t3 : Turns (fun b => b = v) wr w3 := Turns.of_grown G3.out rfl
        have t4 : Turns (fun b => b = p) w3 w4 := Turns.of_grown G4.out rfl
        have k3 := K3.out
        rw [HSP.out] at k3
        obtain ⟨l1, l2, l3, l4, l5⟩ := MO.out
        have hx := HXL.out
        rw [hX]
        refine ⟨⟨_, rfl⟩, ⟨⟨rfl, by show (tabF _ _).length * 8 = X.length; rw [tabF_len, hx]; exact l2, by show X.length % 64 = 0; rw [hx]; exact l3, by show 64 ≤ X.length; rw [hx]; exact l4, by show X.length ≤ 1048576; rw [hx]; exact l5⟩, m2, ?_, t4.blk k3 ap2.symm, t4.blk (t3.blk M5.out av.symm) ap3.symm, P4.out⟩,
          ((((Turns.of_below B1.out).trans (HT.out.mono (fun _ q => .inr (.inl q)))).trans (t3.mono (fun _ q => .inl q))).trans (t4.mono (fun _ q => .inr (.inr q))))⟩
        have := t4.blk (t3.blk M3.out ag1) ap1.symm
        rw [← hx] at this
        exact this

end Go.Proofs.Ytcgekooahahjpaa
