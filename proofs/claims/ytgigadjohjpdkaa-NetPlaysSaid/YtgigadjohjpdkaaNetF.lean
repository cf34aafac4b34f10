/- Packets in transit: Drop; Take of a packet that doesn't stay. -/
import Derived.Test.YtgigadjohjpdkaaNetE
namespace Go.Proofs.Ytgigadjohjpdkaa
open Go.RowKit
set_option linter.unusedSimpArgs false
set_option linter.unusedVariables false

theorem drop_no (g : Nat) (ra : Option Addr) (n rc : Nat) (k : Int) (w : World) (h : Blk w g 46 [.slice ra n rc]) (hno : ¬ (0 ≤ k ∧ k < n)) :
    Calls Try.prog 16 #[.pointer (some ⟨g, 0, none⟩), .int .i64 k] w fun e w' => e = .returned (.bool false) ∧ w = w' := by
  have HH := has_any g ra n rc k w h
  rw [decide_eq_false hno] at HH
  have HH := hid HH
  clear h hno
  go_enter Try.func16, Try.ntmps16
  go_wp2_with (go_at_call 24; refine HH.out.mono ?_; rintro e w1 ⟨rfl, rfl⟩)
  go_ret
  exact ⟨rfl, rfl⟩

/-- a place of the row deleted: the other packets' bytes stay -/
theorem pkt_keeps {w w' : World} {g : Nat} {p : PkT} (h : OwnB w p.b p.a p.c p.xs) {Bk : Nat} {n c : Nat} {cs : List Value} (ho : Own w Bk 56 2 (some ⟨g, 0, none⟩) n c cs) (G : w.grownBy w' (some g)) : OwnB w' p.b p.a p.c p.xs :=
  Own.staysO h G (own_apartO h ho (by decide))

/-- all stays but two blocks -/
def Ex2 (r g : Nat) (w w' : World) : Prop := w.heap.size ≤ w'.heap.size ∧ ∀ k', k' < w.heap.size → k' ≠ r → k' ≠ g → w'.heap[k']? = w.heap[k']?
theorem Ex2.trans {r g : Nat} {w w1 w2 : World} (h : Ex2 r g w w1) (h' : Ex2 r g w1 w2) : Ex2 r g w w2 := ⟨Nat.le_trans h.1 h'.1, fun k h1 h2 h3 => (h'.2 k (Nat.lt_of_lt_of_le h1 h.1) h2 h3).trans (h.2 k h1 h2 h3)⟩
theorem Ex2.of_below {r g : Nat} {w w' : World} (h : Below w.heap.size w w') : Ex2 r g w w' := ⟨h.size, fun k h1 _ _ => h.block k h1⟩
theorem own_ex2 {r g : Nat} {w w' : World} {B : Nat} {e : TypeId} {sz : Nat} {a : Option Addr} {n c : Nat} {cs : List Value} (h : Own w B e sz a n c cs) (x : Ex2 r g w w') (hr : (Value.slice a n c).ownBlock ≠ some r) (hg : (Value.slice a n c).ownBlock ≠ some g) : Own w' B e sz a n c cs := by
  refine ⟨h.1, ?_⟩
  rcases h.2 with hn | ⟨b, cap, cur, hv, h1, h2, rest⟩
  · exact .inl hn
  · rw [hv] at hr hg
    refine .inr ⟨b, cap, cur, hv, h1, ?_, rest⟩
    rw [x.2 b (Array.getElem?_eq_some_iff.1 h2).1 (by simpa [Value.ownBlock] using hr) (by simpa [Value.ownBlock] using hg)]
    exact h2
set_option maxHeartbeats 2000000 in
theorem drop_yes (B g : Nat) (ra : Option Addr) (rc : Nat) (L : List PkT) (k : Nat) (w : World) (h : BagP w B g ra rc L) (hk : k < L.length) (hn9 : L.length ≤ 1000) :
    Calls Try.prog 16 #[.pointer (some ⟨g, 0, none⟩), .int .i64 k] w fun e w' => e = .returned (.bool true) ∧ BagP w' B g ra rc (L.eraseIdx k) ∧ (B ≤ w.heap.size → Below B w w') ∧ (∀ p ∈ L, OwnB w' p.b p.a p.c p.xs) ∧ StayT 46 56 w w' ∧ ∃ r, ra = some ⟨r, 0, none⟩ ∧ Ex2 r g w w' := by
  obtain ⟨hBg, hb, ho, hd⟩ := h
  obtain ⟨r, hr⟩ := own_someO ho (by omega)
  subst hr
  have HH := has_any g (some ⟨r, 0, none⟩) L.length rc k w hb
  rw [decide_eq_true (by omega)] at HH
  have HH := hid HH
  have hBr : B ≤ r := by obtain ⟨C, _, _, hB, _⟩ := Own.blk ho; exact hB
  have hrg : r ≠ g := by
    have := own_ne_blk ho hb (by decide)
    simpa [Value.ownBlock] using this
  have HX := delete_any B r rc k L w ho hk hn9
  have ik : ((k + 1 : Nat) : Int) = (k : Int) + 1 := by omega
  rw [ik] at HX
  have HX := hid HX
  have HP := hid (fun W (G : w.grownBy W (some r)) => fun p hp => pkt_keeps (hd p hp) ho G)
  have HB := hid (fun W (G : w.grownBy W (some r)) => hb.grownS G (Ne.symm hrg))
  have hel : (L.eraseIdx k).length = L.length - 1 := by rw [List.length_eraseIdx, if_pos hk]
  have hes : ∀ p ∈ L.eraseIdx k, p ∈ L := fun p hp => List.mem_of_mem_eraseIdx hp
  clear ik
  have c0 : w.cell? ⟨g, 0, none⟩ = some (.slice (some ⟨r, 0, none⟩) L.length rc) := hb.cell (i := 0) (by simp)
  have cf : w.frozen? ⟨g, 0, none⟩ = false := hb.frozen 0
  have hk' : (k : Int) < 1000 := by omega
  have F : Hid (B ≤ g ∧ B ≤ r) := hid ⟨hBg, hBr⟩
  have HO0 := hid ho
  clear hb ho hd hBr
  go_enter Try.func16, Try.ntmps16
  go_wp2_with (first | (go_at_call 24; refine HH.out.mono ?_; rintro e w1 ⟨rfl, rfl⟩) | (go_at_call 25; refine HX.out.mono ?_; rintro e w2 ⟨rfl, o2, g2⟩; have O2 := hid o2; have G2 := hid g2; have K2 := HB.out _ g2; have c2 : w2.cell? ⟨g, 0, none⟩ = some (.slice (some ⟨r, 0, none⟩) L.length rc) := K2.cell (i := 0) (by simp); have f2 : w2.frozen? ⟨g, 0, none⟩ = false := K2.frozen 0; have K2 := hid K2; clear o2 g2))
  go_ret
  have GS : w2.grownBy (w2.setCell ⟨g, 0, none⟩ (.slice (some ⟨r, 0, none⟩) (L.length - 1) rc)) (some g) := sg_set (sg_refl w2 (some g)) 0 _
  have ho' := HO0.out
  have hpk : ∀ p ∈ L, OwnB (w2.setCell ⟨g, 0, none⟩ (.slice (some ⟨r, 0, none⟩) (L.length - 1) rc)) p.b p.a p.c p.xs := by
    intro p hp
    have h2 := HP.out _ G2.out p hp
    exact Own.staysO h2 GS (.inr (own_ne_blk h2 K2.out (by decide)))
  refine ⟨rfl, ⟨F.out.1, ?_, ?_, fun p hp => hpk p (hes p hp)⟩, fun hBw => ?_, hpk, (StayT.of_own ho' G2.out).trans (StayT.of_grown1 K2.out GS), r, rfl, ⟨Nat.le_trans G2.out.size GS.size, fun k' h1 h2 h3 => ?_⟩⟩
  · rw [hel]; exact K2.out.set 0 _
  · rw [hel]
    refine Own.staysO O2.out GS (.inr ?_)
    simpa [Value.ownBlock] using hrg
  · exact below_grown0 (below_grown0 (Below.refl B w) G2.out F.out.2 hBw) GS F.out.1 (Nat.le_trans hBw G2.out.size)
  · exact (GS.block k' (Nat.lt_of_lt_of_le h1 G2.out.size) (by simpa using h3)).trans (G2.out.block k' h1 (by simpa using h2))

theorem below_keep {w w1 w2 : World} {B n : Nat} (h : Below n w w1) (hB : B ≤ n) (b : Below B w1 w2) : Below B w w2 := (h.mono hB).trans b
set_option maxHeartbeats 2000000 in
theorem take_off (B g : Nat) (ra : Option Addr) (rc : Nat) (L : List PkT) (k : Nat) (w : World) (h : BagP w B g ra rc L) (hk : k < L.length) (hx : L[k].xs.length ≤ 1000) (hn9 : L.length ≤ 1000) (hBw : B ≤ w.heap.size) :
    Calls Try.prog 13 #[.pointer (some ⟨g, 0, none⟩), .int .i64 k, .bool false] w fun e w' => ∃ a c, e = .returned (.tuple #[.int .i64 L[k].to, .slice a L[k].xs.length c, .bool true]) ∧ OwnB w' w.heap.size a c L[k].xs ∧ BagP w' B g ra rc (L.eraseIdx k) ∧ Below B w w' ∧ StayT 46 56 w w' ∧ ∃ r, ra = some ⟨r, 0, none⟩ ∧ Ex2 r g w w' := by
  obtain ⟨p, hp⟩ : ∃ p, p = L[k] := ⟨_, rfl⟩
  have hpl : p ∈ L := by rw [hp]; exact List.getElem_mem hk
  have HXD := hid (fun X (q : Below w.heap.size w X) => drop_yes B g ra rc L k X (h.mono q) hk hn9)
  obtain ⟨hBg, hb, ho, hd⟩ := h
  have hgl : g < w.heap.size := hb.lt
  have hrl : ∀ r, ra = some ⟨r, 0, none⟩ → r < w.heap.size := by
    intro r hr
    subst hr
    obtain ⟨C, hC, _⟩ := Own.blk ho
    exact hC.lt
  have HH := has_any g ra L.length rc k w hb
  rw [decide_eq_true (by omega)] at HH
  have HH := hid HH
  have c0 : w.cell? ⟨g, 0, none⟩ = some (.slice ra L.length rc) := hb.cell (i := 0) (by simp)
  have hrow : Row w 2 ra L.length rc (L.flatMap pkC) := ho.row
  obtain ⟨b, off, e, hbl, hc⟩ := row_flat (enc := pkC) (fun _ => rfl) hrow (Nat.lt_of_le_of_lt (Nat.zero_le _) hk)
  have hc0 : w.cell? ⟨b, off + k * 2, none⟩ = some (.int .i64 p.to) := by rw [hp]; exact hc k hk 0 _ rfl
  have hc1 : w.cell? ⟨b, off + k * 2 + 1, none⟩ = some (.slice p.a p.xs.length p.c) := by rw [hp]; exact hc k hk 1 _ rfl
  rw [← hp] at hx ⊢
  have ik : (k : Int) < L.length := by omega
  have hcap : L.length ≤ rc := hrow.2.1
  have hc9 := hrow.2.2.1
  have HPP := hid (fun (X : World) (q : ∀ p ∈ L, OwnB X p.b p.a p.c p.xs) => q p hpl)
  clear hc hb ho hd hrow hp hpl
  generalize hL' : L.eraseIdx k = L' at *
  obtain ⟨to, pb, pa, pc, xs⟩ := p
  simp only at hc0 hc1 hx HPP ⊢
  generalize hnn : L.length = n at *
  subst e
  have HP := hid HPP.out
  have B0 := hid (albO w (.cells #[.int .i64 to, .slice pa xs.length pc] 56))
  have hW0 := blk_newO (W := w) rfl 56 [.int .i64 to, .slice pa xs.length pc]
  have HW0 := hid hW0
  have HN9 := hid hnn
  clear HPP hnn
  go_enter Try.func13, Try.ntmps13
  go_wp2_with (first | (go_at_call 24; refine HH.out.mono ?_; rintro e w1 ⟨rfl, rfl⟩) | (go_at_call 16; refine (HXD.out _ B0.out).mono ?_; rintro e w2 ⟨rfl, p2, bl2, op2, st2, r2, er2, x2⟩; have ST2 := hid st2; clear st2; have hz2 := x2.1; have kp2 := x2.2; have X2 := hid x2; clear x2; have P2 := hid p2; have BL2 := hid (bl2 (by have := B0.out.size; omega)); have OP2 := hid (HP.out w2 op2); have KP2 := hid kp2; have HZ2 := hid hz2; have ER2 := hid er2; clear p2 bl2 op2 kp2 hz2 er2))
  have HSZ := hid (show w.heap.size ≤ w2.heap.size from Nat.le_trans (by simp) HZ2.out)
  have BK2 : Blk w2 w.heap.size 56 [.int .i64 to, .slice pa xs.length pc] := (KP2.out w.heap.size (by simp) (by have := hrl r2 ER2.out; omega) (by omega)).trans HW0.out
  have x0 := BK2.cell (i := 0) (by simp)
  have x1 := BK2.cell (i := 1) (by simp)
  have hlt2 := BK2.lt
  simp only [List.getElem_cons_zero, List.getElem_cons_succ] at x0 x1
  have HC := hid (fun X (q : Below w2.heap.size w2 X) => clone_any _ _ _ X (OP2.out.row.mono q) hx)
  have BL2 := hid (below_keep B0.out hBw BL2.out)
  have hS0 : (w2.drew.cell? ⟨w.heap.size, 0, none⟩ = some (.int .i64 to) ∧ w2.drew.cell? ⟨w.heap.size, 1, none⟩ = some (.slice pa xs.length pc)) ∧ Below w2.heap.size w2 w2.drew := ⟨⟨x0, x1⟩, (Below.refl _ _).drew⟩
  have HSTEP : Hid (∀ X Y : World, ((X.cell? ⟨w.heap.size, 0, none⟩ = some (.int .i64 to) ∧ X.cell? ⟨w.heap.size, 1, none⟩ = some (.slice pa xs.length pc)) ∧ Below w2.heap.size w2 X) → Below X.heap.size X Y → ((Y.cell? ⟨w.heap.size, 0, none⟩ = some (.int .i64 to) ∧ Y.cell? ⟨w.heap.size, 1, none⟩ = some (.slice pa xs.length pc)) ∧ Below w2.heap.size w2 Y)) :=
    hid (fun X Y h b => by
      have hs : w2.heap.size ≤ X.heap.size := h.2.size
      exact ⟨⟨(b.cell (p := ⟨w.heap.size, 0, none⟩) (by show w.heap.size < _; omega)).trans h.1.1, (b.cell (p := ⟨w.heap.size, 1, none⟩) (by show w.heap.size < _; omega)).trans h.1.2⟩, h.2.trans (b.mono hs)⟩)
  clear x0 x1
  refine wp_region_held_drew (S := fun w' => (w'.cell? ⟨w.heap.size, 0, none⟩ = some (.int .i64 to) ∧ w'.cell? ⟨w.heap.size, 1, none⟩ = some (.slice pa xs.length pc)) ∧ Below w2.heap.size w2 w') (by kernel_rfl) hS0 (fun hS_0 => ?_)
  refine takeR (i := 0) (v := .pointer (some ⟨w.heap.size, 0, none⟩)) rfl rfl (by kernel_rfl) (by kernel_rfl) (by kernel_rfl) (fun _ _ _ h => h) (Or.inl ⟨Eq.refl true, fun w1 hSw => ?_⟩) hS_0 ?_
  · first | rfl | (clear hSw; go_simp; done) | (clear hSw; go_simp; rfl)
  (try simp only [Act.put, List.setIfInBounds_toArray, List.set_cons_zero, List.set_cons_succ])
  refine takeR (i := 1) (v := .int .i64 to) rfl rfl (by kernel_rfl) (by kernel_rfl) (by kernel_rfl) (fun _ _ _ h => h) (Or.inl ⟨Eq.refl true, fun w1 hSw => ?_⟩) hS_0 ?_
  · (obtain ⟨⟨q1, q2⟩, _⟩ := hSw; go_simp; try rfl)
  (try simp only [Act.put, List.setIfInBounds_toArray, List.set_cons_zero, List.set_cons_succ])
  refine takeR (i := 2) (v := .pointer (some ⟨w.heap.size, 1, none⟩)) rfl rfl (by kernel_rfl) (by kernel_rfl) (by kernel_rfl) (fun _ _ _ h => h) (Or.inl ⟨Eq.refl true, fun w1 hSw => ?_⟩) hS_0 ?_
  · first | rfl | (clear hSw; go_simp; done) | (clear hSw; go_simp; rfl)
  (try simp only [Act.put, List.setIfInBounds_toArray, List.set_cons_zero, List.set_cons_succ])
  refine takeR (i := 3) (v := .slice pa xs.length pc) rfl rfl (by kernel_rfl) (by kernel_rfl) (by kernel_rfl) (fun _ _ _ h => h) (Or.inl ⟨Eq.refl true, fun w1 hSw => ?_⟩) hS_0 ?_
  · (obtain ⟨⟨q1, q2⟩, _⟩ := hSw; go_simp; try rfl)
  (try simp only [Act.put, List.setIfInBounds_toArray, List.set_cons_zero, List.set_cons_succ])
  refine wpAnyH_ready (rs := [4]) (by kernel_rfl) (by simp) (AllReadyH.cons rfl (fun K hK => ?_) AllReadyH.nil)
  go_simp
  go_wp2_with (go_at_call 22; refine (HC.out _ ((Below.refl _ w2).drew)).mono ?_; rintro e w4 ⟨a4, c4, rfl, o4, b4⟩; have O4 := hid o4; have B4 := hid (kept_trans ((Below.refl _ w2).drew) b4); clear o4)
  refine hK.out _ _ ?_ (fun hS_1 => ?_)
  · exact HSTEP.out _ _ hS_0 b4
  clear hK K
  refine takeR (i := 5) (v := .int .i64 to) rfl rfl (by kernel_rfl) (by kernel_rfl) (by kernel_rfl) (fun _ _ _ h => h) (Or.inl ⟨Eq.refl true, fun w1 hSw => ?_⟩) hS_1 ?_
  · first | rfl | (clear hSw; go_simp; done) | (clear hSw; go_simp; rfl)
  (try simp only [Act.put, List.setIfInBounds_toArray, List.set_cons_zero, List.set_cons_succ])
  refine takeR (i := 6) (v := .slice a4 xs.length c4) rfl rfl (by kernel_rfl) (by kernel_rfl) (by kernel_rfl) (fun _ _ _ h => h) (Or.inl ⟨Eq.refl true, fun w1 hSw => ?_⟩) hS_1 ?_
  · first | rfl | (clear hSw; go_simp; done) | (clear hSw; go_simp; rfl)
  (try simp only [Act.put, List.setIfInBounds_toArray, List.set_cons_zero, List.set_cons_succ])
  refine takeR (i := 7) (v := .bool true) rfl rfl (by kernel_rfl) (by kernel_rfl) (by kernel_rfl) (fun _ _ _ h => h) (Or.inl ⟨Eq.refl true, fun w1 hSw => ?_⟩) hS_1 ?_
  · first | rfl | (clear hSw; go_simp; done) | (clear hSw; go_simp; rfl)
  (try simp only [Act.put, List.setIfInBounds_toArray, List.set_cons_zero, List.set_cons_succ])
  refine wpAnyH_done (by kernel_rfl) ?_ _
  clear hS_0 hS_1 hS0
  go_wp2_with fail
  go_ret3
  exact ⟨a4, c4, rfl, O4.out.low HSZ.out, P2.out.mono B4.out, BL2.out.trans (B4.out.mono (Nat.le_trans hBw HSZ.out)), (StayT.of_below B0.out).trans (ST2.out.trans (StayT.of_below B4.out)), r2, ER2.out, (Ex2.of_below B0.out).trans (X2.out.trans (Ex2.of_below B4.out))⟩
end Go.Proofs.Ytgigadjohjpdkaa
