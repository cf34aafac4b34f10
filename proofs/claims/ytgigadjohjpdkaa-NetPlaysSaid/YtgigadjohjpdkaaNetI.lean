/- Packets in transit: To. -/
import Derived.Test.YtgigadjohjpdkaaNetH
import Derived.Test.YtgigadjohjpdkaaLibI
namespace Go.Proofs.Ytgigadjohjpdkaa
open Go.RowKit
set_option linter.unusedSimpArgs false
set_option linter.unusedVariables false

theorem EI21 : ElemT Try.prog 38 3 1 8 := elemT Try.underlying38 (z := .int .i64 0) (by kernel_rfl) rfl (by omega)
theorem toIn_any (to node : Int) (s : Value) (Nb : Nat) (w : World) (hb : Blk w Nb 3 [.int .i64 node]) (hs : s.oneCell' = true) :
    Calls Try.prog 27 #[.agg #[.int .i64 to, s], .pointer (some ⟨Nb, 0, none⟩)] w fun e w' => e = .returned (.bool (decide (to = node))) ∧ Below w.heap.size w w' := by
  have hlt := hb.lt
  have B0 := hid (albO w (.cells #[.int .i64 to, s] 56))
  have c0 : (w.alloc (.cells #[.int .i64 to, s] 56)).cell? ⟨Nb, 0, none⟩ = some (.int .i64 node) := (hb.mono B0.out).cell (i := 0) (by simp)
  clear hb
  by_cases h : to = node
  · rw [decide_eq_true h]
    subst h
    go_enter Try.func27, Try.ntmps27
    go_wp2
    go_ret
    exact ⟨rfl, B0.out⟩
  · rw [decide_eq_false h]
    go_enter Try.func27, Try.ntmps27
    go_wp2
    go_ret
    exact ⟨ret_bool (by simp [h]), B0.out⟩
theorem to_any (node : Int) (w : World) :
    Calls Try.prog 23 #[.int .i64 node] w fun e w' => e = .returned (.func (.func 27) #[] #[.pointer (some ⟨w.heap.size, 0, none⟩)]) ∧ Blk w' w.heap.size 3 [.int .i64 node] ∧ Below w.heap.size w w' := by
  have hmf : ∀ (fn : Fn) (first cap : Array Value) (w : World), (Instr.makeFunc fn first cap).run Try.prog w = .ok (.func fn first cap) w := fun _ _ _ _ => rfl
  have K0 := hid (blk_newO (W := w) rfl 3 [.int .i64 node])
  have B0 := hid (albO w (.cells #[.int .i64 node] 3))
  go_enter Try.func23, Try.ntmps23
  go_wp2
  go_ret
  exact ⟨rfl, K0.out, B0.out⟩

/-- the places of the packets to a node -/
def idxT (node : Int) : List PkT → Nat → List Int
  | [], _ => []
  | p :: r, j => if p.to = node then (j : Int) :: idxT node r (j + 1) else idxT node r (j + 1)
theorem idxT_len (node : Int) : ∀ (L : List PkT) (j : Nat), (idxT node L j).length ≤ L.length
  | [], _ => Nat.le_refl _
  | p :: r, j => by
    have := idxT_len node r (j + 1)
    unfold idxT
    split <;> simp <;> omega

set_option maxHeartbeats 2000000 in
theorem To_any (B g : Nat) (ra : Option Addr) (rc : Nat) (L : List PkT) (node : Int) (w : World) (h : BagP w B g ra rc L) (hn9 : L.length ≤ 1000) :
    Calls Try.prog 12 #[.pointer (some ⟨g, 0, none⟩), .int .i64 node] w fun e w' => ∃ a c, e = .returned (.slice a (idxT node L 0).length c) ∧ RowI w' a c (idxT node L 0) ∧ Below w.heap.size w w' := by
  have t1 : True := trivial
  obtain ⟨hBg, hb, ho, hd⟩ := h
  have hrow := ho.row
  have HK := hid hb
  have HROW := hid hrow
  have HLr := idxT_len node L 0
  obtain ⟨R, hR⟩ : ∃ R, R = idxT node L 0 := ⟨_, rfl⟩
  rw [← hR]
  rw [← hR] at HLr
  have HR := hid (show ([] : List Int) ++ idxT node (L.drop 0) 0 = R by rw [hR]; rfl)
  clear hb ho hd hrow hR hBg
  go_enter Try.func12, Try.ntmps12
  go_wp2_with (go_at_call 23; refine (to_any node w).mono ?_; rintro e w1 ⟨rfl, k1, b1⟩; have K1 := hid k1; have B1 := hid b1; have c1 := (HK.out.mono b1).cell (i := 0) (by simp); simp only [List.getElem_cons_zero] at c1; clear k1 b1)
  have HS1 := K1.out.lt
  go_loopw [16, 6] (fun i l wr => ∃ (j : Nat) (acc : List Int) (a : Option Addr) (c : Nat), j ≤ L.length ∧ acc.length ≤ j ∧ i = .int .i64 j ∧ l = .slice a acc.length c ∧ Own wr (w.heap.size + 1) 3 1 a acc.length c (acc.map iV) ∧ acc ++ idxT node (L.drop j) j = R ∧ Blk wr w.heap.size 3 [.int .i64 node] ∧ Below w.heap.size w wr) (fun i _ _ => L.length - (intOf i).toNat)
  case atStart => exact ⟨0, [], none, 0, Nat.zero_le _, Nat.le_refl _, rfl, rfl, Own.nil _ _ _ _, HR.out, K1.out, B1.out⟩
  case round =>
    obtain ⟨j, acc, a, c, hj, haj, rfl, rfl, hown, hacc, hkb, hbel⟩ := hrel
    by_cases hlt : j < L.length
    · obtain ⟨b, off, e, hbl, hc⟩ := row_flat (enc := pkC) (fun _ => rfl) (HROW.out.mono hbel) (by omega)
      subst e
      have hc0 : wr.cell? ⟨b, off + j * 2, none⟩ = some (.int .i64 L[j].to) := hc j hlt 0 _ rfl
      have hc1 : wr.cell? ⟨b, off + j * 2 + 1, none⟩ = some (.slice L[j].a L[j].xs.length L[j].c) := hc j hlt 1 _ rfl
      have hcap : L.length ≤ rc := HROW.out.2.1
      have hc9 := HROW.out.2.2.1
      have ltd : decide ((j : Int) < (L.length : Int)) = true := decide_eq_true (by omega)
      rw [List.drop_eq_getElem_cons hlt] at hacc
      generalize L[j].a = pa at *
      generalize L[j].xs.length = pl at *
      generalize L[j].c = pc at *
      have hK0 := hkb.mono (albO wr (.cells #[.int .i64 L[j].to, .slice pa pl pc] 56))
      have HI := hid (toIn_any L[j].to node (.slice pa pl pc) w.heap.size (wr.alloc (.cells #[.int .i64 L[j].to, .slice pa pl pc] 56)) hK0 rfl)
      have K0 := hid hK0
      have HA := hid (albO wr (.cells #[.int .i64 L[j].to, .slice pa pl pc] 56))
      have HB := hid (kept_trans hbel (albO wr (.cells #[.int .i64 L[j].to, .slice pa pl pc] 56)))
      have HW := hid hown
      have hsz := hkb.lt
      clear hc hkb hbel hown hK0
      by_cases hto : L[j].to = node
      · have HACC := hid (show (acc ++ [(j : Int)]) ++ idxT node (L.drop (j + 1)) (j + 1) = R by rw [← hacc]; simp only [idxT, hto, if_true, List.append_assoc, List.cons_append, List.nil_append])
        rw [decide_eq_true hto] at HI
        clear hacc hto
        generalize L[j].to = to at *
        go_wp2_with (first | (go_at_call 27; refine HI.out.mono ?_; rintro e w4 ⟨rfl, b4⟩; have B4 := hid b4; clear b4; have HW4 := hid ((HW.out.mono HA.out).mono B4.out); have R4 := hid (row_new1 w4 (iV j) 3); have z4 := B4.out.size; have HW5 := hid (HW4.out.mono (albO w4 (.cells #[iV j] 3)))) | (at_builtin; have _t := t1; (refine wpl_append rfl (.tmp 24) (.tmp 26) rfl EI21 (w.heap.size + 1) rfl rfl HW5.out R4.out (by intro u hu; rw [List.mem_singleton.1 hu]; rfl) (by omega) (by omega) (by have := HA.out.size; simp; omega) ?_); clear t1; intro a6 c6 w6 o6 g6 b6; have O6 := hid o6; have B6 := hid b6; clear o6 g6 b6))
        go_roundw
        case rel =>
          have hz2 := B4.out.size
          have hz3 := HA.out.size
          have q1 : Below (w.heap.size + 1) w4 w6 := ((albO w4 (.cells #[iV j] 3)).mono (by omega)).trans B6.out
          refine ⟨j + 1, acc ++ [(j : Int)], a6, c6, by omega, by simp; omega, by go_num, by simp, ?_, HACC.out, ?_, ?_⟩
          · have := O6.out; rw [List.length_append, List.map_append]; exact this
          · exact ((K0.out.mono B4.out).below q1 (by omega))
          · exact (kept_trans HB.out B4.out).trans (q1.mono (by omega))
        case measure => simp [intOf]; omega
      · have HACC := hid (show acc ++ idxT node (L.drop (j + 1)) (j + 1) = R by rw [← hacc]; simp only [idxT, hto, if_false])
        rw [decide_eq_false hto] at HI
        clear hacc hto
        generalize L[j].to = to at *
        go_wp2_with (go_at_call 27; refine HI.out.mono ?_; rintro e w4 ⟨rfl, b4⟩; have B4 := hid b4; clear b4; have HW4 := hid ((HW.out.mono HA.out).mono B4.out))
        go_roundw
        case rel => exact ⟨j + 1, acc, a, c, by omega, by omega, by go_num, rfl, HW4.out, HACC.out, K0.out.mono B4.out, kept_trans HB.out B4.out⟩
        case measure => simp [intOf]; omega
    · obtain rfl : j = L.length := by omega
      rw [List.drop_length] at hacc
      have HE := hid (show acc = R by rw [← hacc]; exact (List.append_nil _).symm)
      have HRW := hid hown.row
      have HBL := hid hbel
      have ltd : decide ((L.length : Int) < (L.length : Int)) = false := decide_eq_false (by omega)
      clear hacc hown hbel hkb
      go_wp2_with fail
      go_ret
      have e := HE.out
      subst e
      exact ⟨a, c, rfl, HRW.out, HBL.out⟩
end Go.Proofs.Ytgigadjohjpdkaa
