/- The document's memory: bytes stored. -/
import Derived.Test.YtcgekooahahjpaaPmO
namespace Go.Proofs.Ytcgekooahahjpaa
open Go.RowKit
set_option linter.unusedSimpArgs false
set_option linter.unusedVariables false

theorem splice_stepB (V b : List UInt8) (q j : Nat) (hb : j < b.length) (hV : q + b.length ≤ V.length) :
    ((splice V q (b.take j)).map byteV).set (q + j) (.int .u8 (bAt b j : Int)) = (splice V q (b.take (j + 1))).map byteV := by
  have hl : (b.take j).length = j := by simp; omega
  have hs := splice_set V q (b.take j) b[j] (by rw [hl]; omega)
  rw [hl] at hs
  rw [← byteV_bAt b hb, ← List.map_set, hs]
  congr 2
  rw [List.take_add_one, List.getElem?_eq_getElem hb]
  rfl
theorem inT_succ (q j i : Nat) : inT q (j + 1) 8 i = (inT q j 8 i || i == (q + j) / 8) := by
  rw [Bool.eq_iff_iff]
  simp only [inT, decide_eq_true_eq, Bool.or_eq_true, beq_iff_eq]
  omega

/-- what Store does -/
def StoreR (g v d a : Nat) (M : MemM) (at_ : Int) (b : List UInt8) (w : World) (e : Ending) (w' : World) : Prop :=
  if inM M at_ b.length = true then e = .returned (.int .i64 0) ∧ MemR w' g v d a (storeM M at_.toNat b) ∧ Turns (fun k => k = v ∨ k = a) w w' else e = .returned (.int .i64 1) ∧ w = w'

set_option maxHeartbeats 4000000 in
theorem storeR_any {w : World} {g v d a : Nat} {M : MemM} (h : MemR w g v d a M) (at_ : Int) (hat : -9223372036854775808 ≤ at_ ∧ at_ ≤ 9223372036854775807) (ab : Option Addr) (c : Nat) (b : List UInt8) (hr : RowB w ab c b) (hs : 0 < b.length → ∀ k, (∃ off, ab = some ⟨k, off, none⟩) → k ≠ v ∧ k ≠ a) :
    Calls Try.prog 24 #[.pointer (some ⟨g, 0, none⟩), .int .i64 at_, .slice ab b.length c] w (StoreR g v d a M at_ b w) := by
  have hbl := rowB_len hr
  have HW := hid (withinR_any h at_ b.length hat (by omega))
  by_cases hi : inM M at_ b.length = true
  · have hE : StoreR g v d a M at_ b w = fun e w' => e = .returned (.int .i64 0) ∧ MemR w' g v d a (storeM M at_.toNat b) ∧ Turns (fun k => k = v ∨ k = a) w w' := by
      funext e w'; unfold StoreR; rw [if_pos hi]
    rw [hE]
    rw [hi] at HW
    clear hE
    obtain ⟨q, n0, rfl, hn0, hl⟩ := inM_true hi
    obtain rfl : b.length = n0 := by omega
    rw [show ((q : Int)).toNat = q from rfl]
    obtain ⟨av, ag1, ag2, ap1, ap2, ap3, gl, vl, dl, al⟩ := ref_apart h
    have hVl := h.1.2.2.2.2
    have hAl := h.1.2.1
    have hf : storeM M q b = ⟨splice M.V q b, M.D, tabF M.A.length fun k => M.A.getD k false && !inT q b.length 8 k⟩ := rfl
    rw [hf]
    obtain ⟨c0, c1, c2⟩ := h.cells
    have H := hid h; have HR := hid hr; have HS := hid hs
    have hst := fun j (hj : j < b.length) => splice_stepB M.V b q j hj hl
    have HST := hid hst
    clear h hr hs hf hst hi hn0 hat
    go_enter Try.func24, Try.ntmps24
    go_wp2_with (first | (go_at_call 40; refine HW.out.mono ?_; rintro e w1 ⟨rfl, rfl⟩))
    go_loopw [8] (fun i wr => ∃ j : Nat, j ≤ b.length ∧ i = .int .i64 j ∧ Blk wr v 5 ((splice M.V q (b.take j)).map byteV) ∧ Blk wr a 4 ((tabF M.A.length fun k => M.A.getD k false && !inT q j 8 k).map .bool) ∧ Turns (fun k => k = v ∨ k = a) w wr) (fun i _ => b.length - (intOf i).toNat)
    case atStart =>
      refine ⟨0, by omega, rfl, by simpa [splice] using H.out.2.2.2.1, ?_, Turns.refl _ _⟩
      rw [tabF_congr (g := fun k => M.A.getD k false) (fun k _ => by simp [inT]), tabF_self]
      exact H.out.2.2.2.2.2
    case round =>
      obtain ⟨j, hj, rfl, hv, ha, ht⟩ := hrel
      have hg := ht.blk H.out.2.2.1 (by omega)
      have k0 : wr.cell? ⟨g, 0, none⟩ = some (.slice (some ⟨v, 0, none⟩) M.V.length M.V.length) := hg.cell (i := 0) (by simp)
      by_cases hjb : j < b.length
      · have rb := ht.row HR.out (fun hn k hk => by have := HS.out hn k hk; omega)
        obtain ⟨bb, bo, rfl, hbb, cb⟩ := Row.bytes rb (by omega)
        have cbj := cb j hjb
        have hlv : (splice M.V q (b.take j)).length = M.V.length := length_splice _ _ _ (by simp; omega)
        have cv := blk_byte hv (i := q + j) (by omega)
        have fv := hv.frozen (q + j)
        have i1 : (j : Int) < (b.length : Int) := by omega
        have i2 : ((q + j : Nat) : Int) < (M.V.length : Int) := by omega
        have i3 : q + j < M.V.length := by omega
        have e1 : IntKind.i64.wrap ((q : Int) + j) = ((q + j : Nat) : Int) := by rw [IntWalk.i64_in _ (by omega)]; omega
        have e2 : IntKind.i64.wrap ((j : Int) + 1) = (j : Int) + 1 := IntWalk.i64_in _ (by omega)
        have e3 : ((q + j : Nat) : Int).tdiv 8 = (((q + j) / 8 : Nat) : Int) := rfl
        have e4 : IntKind.i64.wrap (((q + j) / 8 : Nat) : Int) = (((q + j) / 8 : Nat) : Int) := IntWalk.i64_in _ (by omega)
        have hKA : (q + j) / 8 < M.A.length := by omega
        have hnew := hv.set (q + j) (.int .u8 (bAt b j : Int))
        rw [HST.out j hjb] at hnew
        have hin := inT_succ q j
        have hg2 := hg.setOtherS ag1 (q + j) (.int .u8 (bAt b j : Int))
        have ha2 := ha.setOtherS ap2 (q + j) (.int .u8 (bAt b j : Int))
        have HB := hid hnew; have HT := hid ht; have HIN := hid hin
        clear rb cb hv ht hg ha hnew hin hlv
        generalize bAt b j = x at *
        generalize hK : q + j = K at *
        have HK := hid hK
        clear hK
        generalize hKK : K / 8 = L at *
        have HKK := hid hKK
        clear hKK
        have g2 : (wr.setCell ⟨v, K, none⟩ (.int .u8 x)).cell? ⟨g, 2, none⟩ = some (.slice (some ⟨a, 0, none⟩) M.A.length M.A.length) := hg2.cell (i := 2) (by simp)
        have ca := blk_bool ha2 (k := L) (by rw [tabF_len]; exact hKA)
        have fa := ha2.frozen L
        have i5 : (L : Int) < (M.A.length : Int) := by omega
        have hnA := ha2.set L (.bool false)
        rw [← List.map_set, tabF_set] at hnA
        have HA := hid hnA
        clear hg2 ha2 hnA
        go_wp2_with fail
        go_region
        all_goals
          go_wp2
          go_roundw
          case rel =>
            have hK := HK.out
            refine ⟨j + 1, by omega, by go_num, HB.out.setOtherS ap2.symm L (.bool false), ?_, ((HT.out.setCell (p := ⟨v, K, none⟩) (.inl rfl) _).setCell (p := ⟨a, L, none⟩) (.inr rfl) _).drew⟩
            have := HA.out
            rw [tabF_congr (g := fun i => if i = L then false else M.A.getD i false && !inT q j 8 i) (fun i _ => ?_)]
            · exact this
            · rw [HIN.out i]
              by_cases e : i = L
              · subst e; simp
              · rw [if_neg e, show (i == L) = false from by simpa using e]; simp
          case measure => simp [intOf]; omega
      · obtain rfl : j = b.length := by omega
        have HV := hid hv; have HA := hid ha; have HT := hid ht; have HG := hid hg
        clear hv ha ht hg
        go_wp2
        go_ret
        have hsl : (splice M.V q b).length = M.V.length := length_splice _ _ _ hl
        have hv := HV.out
        rw [List.take_length] at hv
        obtain ⟨l1, l2, l3, l4, l5⟩ := H.out.1
        refine ⟨rfl, ⟨⟨?_, ?_, ?_, ?_, ?_⟩, av, ?_, hv, HT.out.blk H.out.2.2.2.2.1 (by omega), HA.out⟩, HT.out⟩
        · show M.D.length = (splice M.V q b).length; rw [hsl]; exact l1
        · show (tabF _ _).length * 8 = (splice M.V q b).length; rw [hsl, tabF_len]; exact l2
        · show (splice M.V q b).length % 64 = 0; rw [hsl]; exact l3
        · show 64 ≤ (splice M.V q b).length; rw [hsl]; exact l4
        · show (splice M.V q b).length ≤ 1048576; rw [hsl]; exact l5
        · have := HG.out
          rw [← hsl, ← tabF_len M.A.length fun k => M.A.getD k false && !inT q b.length 8 k] at this
          exact this
  · have hE : StoreR g v d a M at_ b w = fun e w' => e = .returned (.int .i64 1) ∧ w = w' := by
      funext e w'; unfold StoreR; rw [if_neg hi]
    rw [hE]
    rw [show inM M at_ b.length = false by simpa using hi] at HW
    clear hE hi h hr
    go_enter Try.func24, Try.ntmps24
    go_wp2_with (first | (go_at_call 40; refine HW.out.mono ?_; rintro e w1 ⟨rfl, rfl⟩))
    go_ret
    exact ⟨rfl, rfl⟩
end Go.Proofs.Ytcgekooahahjpaa
