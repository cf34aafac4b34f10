/- Packets in transit: slices.DeleteFunc at packets. -/
import Derived.Test.YtgigadjohjpdkaaNetM
namespace Go.Proofs.Ytgigadjohjpdkaa
open Go.RowKit
set_option linter.unusedSimpArgs false
set_option linter.unusedVariables false

theorem DelR.done {B g c n : Nat} {node : Int} {L : List PkT} {C : List Value} {w0 wr : World} {i : Nat} (h : DelR g c node L C w0 i n wr) (hn : n = L.length) (hB : B ≤ g) (hic : n ≤ c) (hi : i ≤ n) (hc9 : c ≤ maxLen) (Z : List Value) (hZ : Z.length = (n - i) * 2) :
    Own (wr.setCells g (i * 2) Z) B 56 2 (some ⟨g, 0, none⟩) i c ((L.filter (fun p => !decide (p.to = node))).flatMap pkC) ∧ w0.grownBy (wr.setCells g (i * 2) Z) (some g) ∧ i = (L.filter (fun p => !decide (p.to = node))).length := by
  obtain ⟨C', h1, h2, h3, h4, h5, h6⟩ := h
  rw [hn, List.take_length] at h3 h4
  obtain ⟨k1, k2⟩ := Blk.setCells Z (i * 2) wr C' h1 (by rw [hZ, h2]; omega)
  refine ⟨?_, grown_trans21 h6 k2, h4.symm⟩
  have q := Own.of_blk (B := B) (sz := 2) (n := i) (c := c) k1 hB (by omega) hc9 (by rw [length_splice _ _ _ (by rw [hZ, h2]; omega), h2])
  have e : (splice C' (i * 2) Z).take (i * 2) = C'.take (i * 2) := by
    unfold splice
    rw [List.take_left' (by rw [List.length_take, h2]; omega)]
  rw [e, h3] at q
  exact q

set_option maxHeartbeats 4000000 in
theorem deletef_pk (B : Nat) (a : Option Addr) (c : Nat) (L : List PkT) (node : Int) (Nb : Nat) (w : World) (ho : Own w B 56 2 a L.length c (L.flatMap pkC)) (hb : Blk w Nb 3 [.int .i64 node]) (hn9 : L.length ≤ 1000) :
    Calls Try.prog 26 #[.slice a L.length c, .func (.func 27) #[] #[.pointer (some ⟨Nb, 0, none⟩)]] w fun e w' => e = .returned (.slice a (L.filter (fun p => !decide (p.to = node))).length c) ∧ Own w' B 56 2 a (L.filter (fun p => !decide (p.to = node))).length c ((L.filter (fun p => !decide (p.to = node))).flatMap pkC) ∧ w.grownBy w' (Value.slice a L.length c).ownBlock := by
  have HI := hid (index_pk a c L node Nb w ho.row hb hn9)
  by_cases hix : ixF node L 0 = -1
  · have hf := ixF_none node L 0 hix
    rw [hix] at HI
    have HO := hid ho
    rw [hf]
    clear ho hb hix hf
    go_enter Try.func26, Try.ntmps26
    go_wp2_with (go_at_call 28; refine HI.out.mono ?_; rintro e w1 ⟨rfl, b1⟩; have B1 := hid b1; clear b1)
    go_ret
    exact ⟨rfl, HO.out.mono B1.out, grown_below21 B1.out _⟩
  · obtain ⟨i0, hi0, hI, hto, hF⟩ := ixF_some node L 0 hix
    rw [Nat.zero_add] at hI
    rw [hI] at HI
    clear hix hI
    obtain ⟨g, hg⟩ := own_someO ho (by omega)
    subst hg
    obtain ⟨C, hbC, hl, hB, ht, hnc, hc⟩ := Own.blk ho
    have hgn : g ≠ Nb := by
      intro q
      subst q
      unfold Blk at hb hbC
      rw [hb] at hbC
      simp only [Option.some.injEq, Obj.cells.injEq] at hbC
      exact absurd hbC.2.1 (by decide)
    have hb1 := hid hb
    have hrow := hid ho.row
    have h0 : ∀ w1, Below w.heap.size w w1 → DelR g c node L C w i0 (i0 + 1) w1 := by
      intro w1 b1
      have e := take_succ21 L i0 hi0 node
      rw [if_pos (hto hi0), List.append_nil, hF] at e
      refine ⟨C, hbC.mono b1, hl, ?_, ?_, rfl, grown_below21 b1 _⟩
      · rw [e, ← flat_take pkC 2 (fun _ => rfl), ← ht, List.take_take, Nat.min_eq_left (by omega)]
      · rw [e, List.length_take]; omega
    have H0 := hid h0
    have HC := hid (show ∀ j, j < L.length → ∀ t u, (pkC (L.getD j ⟨0, 0, none, 0, []⟩))[t]? = some u → C[j * 2 + t]? = some u by
      intro j hj t u hu
      have htl : t < 2 := by
        have := (List.getElem?_eq_some_iff.1 hu).1
        simpa [pkC] using this
      have q := flat_get pkC 2 (fun _ => rfl) L j t hj htl
      rw [← ht, List.getElem?_take, if_pos (by omega)] at q
      rw [q, ← hu, List.getD_eq_getElem?_getD, List.getElem?_eq_getElem hj]; rfl)
    have HBg := hid hB
    have hi9 : (i0 : Int) < 1000 := by omega
    have dm : ((i0 : Int) == (-1 : Int)) = false := by rw [beq_eq_false_iff_ne]; omega
    have dm1 : decide ((i0 : Int) = (-1 : Int)) = false := decide_eq_false (by omega)
    have hc9 : c ≤ maxLen := hc
    have hc99 : c ≤ 9223372036854775807 := by unfold maxLen at hc; omega
    clear ho hb hbC h0 hF hto hB ht hc
    go_enter Try.func26, Try.ntmps26
    go_wp2_with (go_at_call 28; refine HI.out.mono ?_; rintro e w1 ⟨rfl, b1⟩; have B1 := hid b1; have HN1 := hid (hb1.out.mono b1); clear b1)
    go_loopw [6, 5] (fun jv iv wr => ∃ i j : Nat, i < j ∧ j ≤ L.length ∧ jv = .int .i64 j ∧ iv = .int .i64 i ∧ DelR g c node L C w i j wr ∧ Blk wr Nb 3 [.int .i64 node]) (fun j _ _ => L.length - (intOf j).toNat)
    case atStart => exact ⟨i0, i0 + 1, by omega, by omega, by go_num, rfl, H0.out _ B1.out, HN1.out⟩
    case round =>
      obtain ⟨i, j, hij, hj, rfl, rfl, hd, hN⟩ := hrel
      by_cases hlt : j < L.length
      · have ltd : decide ((j : Int) < (L.length : Int)) = true := decide_eq_true (by omega)
        obtain ⟨C', hC1, hC2, _, _, hC5, _⟩ := id hd
        have hcell : ∀ t u, (pkC L[j])[t]? = some u → wr.cell? ⟨g, j * 2 + t, none⟩ = some u := by
          intro t u hu
          have e := HC.out j hlt t u (by rw [List.getD_eq_getElem?_getD, List.getElem?_eq_getElem hlt]; exact hu)
          have e2 : (C'.drop (j * 2))[t]? = some u := by rw [hC5, List.getElem?_drop]; exact e
          rw [List.getElem?_drop] at e2
          obtain ⟨q1, q2⟩ := List.getElem?_eq_some_iff.1 e2
          rw [hC1.cell q1, q2]
        have hc0 : wr.cell? ⟨g, j * 2, none⟩ = some (.int .i64 L[j].to) := hcell 0 _ rfl
        have hc1 : wr.cell? ⟨g, j * 2 + 1, none⟩ = some (.slice L[j].a L[j].xs.length L[j].c) := hcell 1 _ rfl
        have hglt := hC1.lt
        have HKEEP := hid (fun (X : World) (b : Below wr.heap.size wr X) (hto : L[j].to ≠ node) => hd.keep hlt hij hnc hto b)
        have HSKIP := hid (fun (X : World) (b : Below wr.heap.size wr X) (hto : L[j].to = node) => hd.skip hlt hto b)
        have HCB := hid hC1
        have hCl : C'.length = c * 2 := hC2
        clear hd hcell hC1 hC2 hC5
        generalize L[j].a = pa at *
        generalize L[j].xs.length = pl at *
        generalize L[j].c = pc at *
        have HA := hid (albO wr (.cells #[.int .i64 L[j].to, .slice pa pl pc] 56))
        have HK := hid (blk_newO (W := wr) rfl 56 [.int .i64 L[j].to, .slice pa pl pc])
        have HN2 := hid (hN.mono HA.out)
        have HI2 := hid (toIn_any L[j].to node (.slice pa pl pc) Nb _ HN2.out rfl)
        clear hN
        by_cases hto : L[j].to = node
        · rw [decide_eq_true hto] at HI2
          have HS := hid (fun X b => HSKIP.out X b hto)
          clear hto HSKIP HKEEP
          generalize L[j].to = to at *
          go_wp2_with (go_at_call 27; refine HI2.out.mono ?_; rintro e w4 ⟨rfl, b4⟩; have B4 := hid b4; clear b4)
          go_roundw
          case rel => exact ⟨i, j + 1, by omega, by omega, by go_num, rfl, HS.out _ (kept_trans HA.out B4.out), HN2.out.mono B4.out⟩
          case measure => simp [intOf]; omega
        · rw [decide_eq_false hto] at HI2
          have HS := hid (fun X b => HKEEP.out X b hto)
          clear hto HSKIP HKEEP
          generalize L[j].to = to at *
          have hil : (i : Int) < (L.length : Int) := by omega
          go_wp2_with (go_at_call 27; refine HI2.out.mono ?_; rintro e w4 ⟨rfl, b4⟩; have B4 := hid b4; have bK := HK.out.mono b4; have x0 := bK.cell (i := 0) (by simp); have x1 := bK.cell (i := 1) (by simp); simp only [List.getElem_cons_zero, List.getElem_cons_succ] at x0 x1; have bC := (HCB.out.mono HA.out).mono b4; obtain ⟨o0, y0⟩ := bC.someCell (i := i * 2) (by omega); obtain ⟨o1, y1⟩ := bC.someCell (i := i * 2 + 1) (by omega); have f0 := bC.frozen (i * 2); have f1 := bC.frozen (i * 2 + 1); clear b4 bK bC)
          go_roundw
          case rel =>
            refine ⟨i + 1, j + 1, by omega, by omega, by go_num, by go_num, HS.out _ (kept_trans HA.out B4.out), ?_⟩
            have k4 := HN2.out.mono B4.out
            exact (k4.setOtherS (Ne.symm hgn) _ _).setOtherS (Ne.symm hgn) _ _
          case measure => simp [intOf]; omega
      · obtain rfl : j = L.length := by omega
        have ltd : decide ((L.length : Int) < (L.length : Int)) = false := decide_eq_false (by omega)
        obtain ⟨C', hC1, hC2, _, _, _, _⟩ := id hd
        obtain ⟨Z, hZ, hcl⟩ := run_clear_pks wr 0 g (i * 2) (c - i) (L.length - i) (by omega) (fun t ht => by rw [hC1.cell (i := i * 2 + t) (by rw [hC2]; omega)]; rfl) (fun t ht => hC1.frozen _)
        obtain ⟨r1, r2, r3⟩ := hd.done (B := B) rfl HBg.out hnc (by omega) hc9 Z hZ
        have HD := hid r1; have HG := hid r2; have HL := hid r3
        have hic : i ≠ c := by omega
        have hil : i ≤ L.length := by omega
        have hicc : i ≤ c := by omega
        generalize wr.setCells g (i * 2) Z = W2 at *
        clear hd hN r1 r2 r3 hC1 hC2 hZ
        go_wp2_with fail
        go_ret
        rw [← HL.out]
        exact ⟨rfl, HD.out, HG.out⟩
end Go.Proofs.Ytgigadjohjpdkaa
