/- few, little: patches cut. (genPlgFw.py) -/
import Derived.Test.YtkhhoognemjibaaDoorPlgMd
namespace Go.Proofs.YtkhhoognemjibaaDoor
open Go.RowKit
set_option linter.unusedSimpArgs false
set_option linter.unusedVariables false
set_option maxRecDepth 100000

def cutP (n d : Nat) (L : List PtM) : List PtM := (L.take n).map fun p => ⟨p.at_, p.d.take d⟩
theorem cutP_snoc {L : List PtM} {j D : Nat} (h : j < L.length) : cutP (j + 1) D L = cutP j D L ++ [⟨L[j].at_, L[j].d.take D⟩] := by
  unfold cutP
  rw [List.take_add_one, List.getElem?_eq_getElem h, Option.toList_some, List.map_append, List.map_singleton]
theorem storeSP {w : World} {g off : Nat} {u : Value} (h : w.cell? ⟨g, off, none⟩ = some u) (hz : w.frozen? ⟨g, off, none⟩ = false) (s : List UInt8) : (Instr.storeAt 9 (.pointer (some ⟨g, off, none⟩)) (strB s)).run Tryd.prog w = .ok () (w.setCell ⟨g, off, none⟩ (strB s)) := by
  have u3 := Tryd.underlying9
  have a3 := Tryd.isAgg9
  have z3 := Tryd.sizeOf9
  unfold strB
  go_simp
theorem own_lt_ne {w : World} {B : Nat} {e : TypeId} {sz : Nat} {a : Option Addr} {n c : Nat} {cs : List Value} (h : Own w B e sz a n c cs) : (Value.slice a n c).ownBlock ≠ some w.heap.size := by
  intro q
  rcases h.2 with ⟨hv, _⟩ | ⟨b, cap, cur, hv, hB, hh, rest⟩
  · cases hv; cases q
  · cases hv
    simp only [Value.ownBlock, Option.some.injEq] at q
    subst q
    have := (Array.getElem?_eq_some_iff.1 hh).1
    omega
theorem own_grown_apart {w w' : World} {B g : Nat} {e : TypeId} {sz : Nat} {a : Option Addr} {n c : Nat} {cs : List Value} (h : Own w B e sz a n c cs) (G : w.grownBy w' (some g)) (hne : (Value.slice a n c).ownBlock ≠ some g) : Own w' B e sz a n c cs :=
  h.staysO G (.inr hne)
theorem blk_at {w : World} {g : Nat} {e : TypeId} {L : List Value} (h : Blk w g e L) {i : Nat} {u : Value} (hu : L[i]? = some u) : w.cell? ⟨g, i, none⟩ = some u := by
  obtain ⟨hi, rfl⟩ := List.getElem?_eq_some_iff.1 hu
  exact h.cell hi

set_option maxHeartbeats 4000000 in
theorem few_any {w : World} {a : Option Addr} {c : Nat} {L : List PtM} (hL : RowPt w a c L) (hl9 : L.length ≤ 9223372036854775807) :
    Calls Tryd.prog 9 #[.slice a L.length c] w fun e w' => ∃ la lc, e = .returned (.slice la (cutP 70 300 L).length lc) ∧ OwnPt w' w.heap.size la lc (cutP 70 300 L) ∧ Below w.heap.size w w' := by
  have HL := hid hL
  clear hL
  go_enter Tryd.func9, Tryd.ntmps9
  iterate 3 go_step
  refine wpk_enter (N := 33) (l := [(0, .slice a L.length c)]) ⟨rfl, (by intro x hx; simp only [List.mem_cons, List.not_mem_nil, or_false] at hx; rcases hx with rfl <;> rfl), rfl⟩ fun a2 h1 => ?_
  refine wv h1 rfl rfl rfl rfl (.slice none 0 0) rfl fun a4 h3 => ?_
  iterate 5 go_step
  refine wv h3 rfl rfl rfl rfl (.slice none 0 0) rfl fun a6 h5 => ?_
  iterate 6 go_step
  refine wv h5 rfl rfl rfl rfl (.int .i64 0) rfl fun a8 h7 => ?_
  iterate 4 go_step
  have h9 := h7.subs (l' := [(3, _), (4, _), (2, _), (0, _)]) rfl
  clear h7
  refine wp_loop (I := fun a' w' => ∃ (j : Nat) (la : Option Addr) (lc : Nat), j ≤ L.length ∧ j ≤ 70 ∧ Kn 33 [(3, .slice la (cutP j 300 L).length lc), (4, .int .i64 (j : Int)), (2, .slice none 0 0), (0, .slice a L.length c)] a' ∧ OwnPt w' w.heap.size la lc (cutP j 300 L) ∧ Below w.heap.size w w') (μ := fun a' _ => L.length - (intOf (a'.eval (.tmp 4))).toNat) ⟨0, none, 0, by omega, by omega, h9, Own.nil _ _ _ _, Below.refl _ _⟩ ?_
  clear h9
  rintro aL aw ⟨j, la, lc, hj, hjK, hK, ho, hb⟩
  have HO := hid ho; have HB := hid hb; clear ho hb
  have hcl : (cutP j 300 L).length = j := by unfold cutP; rw [List.length_map, List.length_take]; omega
  by_cases hltL : j < L.length
  · have hd0 : decide ((j : Int) < (L.length : Int)) = true := decide_eq_true (by omega)
    by_cases hltK : j < 70
    · have hd1 : decide ((j : Int) < 70) = true := decide_eq_true (by omega)
      obtain ⟨pb, poff, ha0, hrg⟩ := rowPt_at (HL.out.mono HB.out) (by omega)
      have hrg := hrg j hltL
      obtain ⟨p, hp⟩ : ∃ p, p = L[j] := ⟨_, rfl⟩
      rw [← hp] at hrg
      have HPJ := hid hp; clear hp
      by_cases hl2 : 300 < p.d.length
      · have hlong : decide ((300 : Int) < (p.d.length : Int)) = true := decide_eq_true (by omega)
        iterate 4 go_step
        refine wmk hK rfl rfl rfl rfl 4 rfl (fun _ => rfl) fun a11 h10 => ?_
        refine wmk h10 rfl rfl rfl rfl 0 rfl (fun _ => rfl) fun a13 h12 => ?_
        refine wv h12 rfl rfl rfl rfl (.int .i64 (L.length : Int)) (run_lenP rfl (h12.ev 7 rfl) _) fun a15 h14 => ?_
        refine wv h14 rfl rfl rfl rfl (.bool true) (by unfold execOp; simp only [h14.ev 6 rfl, h14.ev 8 rfl]; exact run_v (ltIP _ _ _ _ _ hd0)) fun a17 h16 => ?_
        refine wmk h16 rfl rfl rfl rfl 9 rfl (fun _ => rfl) fun a19 h18 => ?_
        refine wpk_val h18 (by rw [wanted_of (g := 4) (want := true) (b := true) rfl (h18.yields (prev := 10) rfl (by simp))]; rfl) rfl (by decide) (fr rfl) (.int .i64 (j : Int)) (by unfold execOp; simp only [h18.ev 4 rfl]; rfl) fun a21 h20 => ?_
        refine wpk_val h20 (by rw [wanted_of (g := 4) (want := true) (b := true) rfl (h20.yields (prev := 10) rfl (by simp))]; rfl) rfl (by decide) (fr rfl) (.bool true) (by unfold execOp; simp only [h20.ev 11 rfl]; exact run_v (ltIP _ _ _ _ _ hd1)) fun a23 h22 => ?_
        refine wv h22 rfl rfl rfl rfl (.bool true) (run_pick rfl (h22.ev 10 rfl) (by rw [if_pos rfl]; exact h22.ev 12 rfl)) fun a25 h24 => ?_
        have h26 := h24.subs (l' := [(13, _), (3, _), (4, _), (2, _), (0, _)]) rfl
        clear h24
        iterate 3 go_step
        refine wp_cond (t := true) (h26.ev 13 rfl) ?_
        simp only [if_true]
        have h27 := h26.subs (l' := [(3, _), (4, _), (2, _), (0, _)]) rfl
        clear h26
        iterate 7 go_step
        refine wmk h27 rfl rfl rfl rfl 0 rfl (fun _ => rfl) fun a29 h28 => ?_
        refine wmk h28 rfl rfl rfl rfl 4 rfl (fun _ => rfl) fun a31 h30 => ?_
        refine wv h30 rfl rfl rfl rfl (.pointer (some ⟨pb, poff + j * 2, none⟩)) (by unfold execOp; simp only [h30.ev 16 rfl, h30.ev 17 rfl]; exact run_v (by rw [ha0]; exact ixP pb poff _ c j hltL _)) fun a33 h32 => ?_
        refine wv h32 rfl rfl rfl rfl (ptV p) (by unfold execOp; simp only [h32.ev 18 rfl]; exact run_v (run_loadAt_mid _ _ _ _ (ptC p) _ hrg Tryd.underlying46 rfl (by rw [infoPt]; rfl))) fun a35 h34 => ?_
        refine wv h34 rfl rfl rfl rfl (.pointer (some ⟨aw.heap.size, 0, none⟩)) (run_allocPt rfl _ aw) fun a37 h36 => ?_
        obtain ⟨wp, hwp⟩ : ∃ x, x = aw.alloc (.cells (ptC ⟨0, []⟩).toArray 46) := ⟨_, rfl⟩
        obtain ⟨gp, hgp⟩ : ∃ x, x = aw.heap.size := ⟨_, rfl⟩
        have hk0 : Blk wp gp 46 (ptC ⟨0, []⟩) := by rw [hwp, hgp]; exact blk_newO rfl _ _
        have HOp : Hid (OwnPt wp w.heap.size la lc (cutP j 300 L)) := hid (by rw [hwp]; exact Own.alloc HO.out _)
        have HBp : Hid (Below w.heap.size w wp) := hid (by rw [hwp]; exact kept_alloc HB.out _)
        have hgw : w.heap.size ≤ gp := by rw [hgp]; exact HB.out.size
        have hapart : (Value.slice la (cutP j 300 L).length lc).ownBlock ≠ some gp := by rw [hgp]; exact own_lt_ne HO.out
        rw [← hgp] at h36; rw [← hwp]; clear hwp hgp
        refine wpk_storeP h36 rfl rfl rfl gp 0 (h36.ev 5 rfl) (ptC p) (h36.ev 19 rfl) (by rw [infoPt]; rfl) (ptC_one _) hk0 (by show 0 + 2 ≤ 2; omega) fun a39 wq h38 kq gq => ?_
        rw [splice_all (by rfl)] at kq
        have HP := hid kq; have HOq : Hid (OwnPt wq w.heap.size la lc (cutP j 300 L)) := hid (own_grown_apart HOp.out gq hapart); have HBq : Hid (Below w.heap.size w wq) := hid (below_grownS HBp.out gq hgw HBp.out.size)
        clear kq gq hk0 HOp HBp
        have h40 := h38.subs (l' := [(5, _), (3, _), (4, _), (2, _), (0, _)]) rfl
        clear h38
        iterate 6 go_step
        refine wv h40 rfl rfl rfl rfl (.pointer (some ⟨gp, 1, none⟩)) (by unfold execOp; simp only [h40.ev 5 rfl]; exact run_v (fa_46_0_1 (gp) _)) fun a42 h41 => ?_
        refine wv h41 rfl rfl rfl rfl (strB p.d) (by unfold execOp; simp only [h41.ev 20 rfl]; exact run_v (loadSP (HP.out.cell (i := 1) (by show 1 < 2; omega)))) fun a44 h43 => ?_
        refine wv h43 rfl rfl rfl rfl (.int .i64 (p.d.length : Int)) (run_lenSP rfl (h43.ev 21 rfl) _) fun a46 h45 => ?_
        refine wv h45 rfl rfl rfl rfl (.bool true) (by unfold execOp; simp only [h45.ev 22 rfl]; exact run_v (gtIP _ _ _ _ _ hlong)) fun a48 h47 => ?_
        have h49 := h47.subs (l' := [(23, _), (5, _), (3, _), (4, _), (2, _), (0, _)]) rfl
        clear h47
        iterate 3 go_step
        refine wp_cond (t := true) (h49.ev 23 rfl) ?_
        simp only [if_true]
        have h50 := h49.subs (l' := [(5, _), (3, _), (4, _), (2, _), (0, _)]) rfl
        clear h49
        go_step
        refine wv h50 rfl rfl rfl rfl (.pointer (some ⟨gp, 1, none⟩)) (by unfold execOp; simp only [h50.ev 5 rfl]; exact run_v (fa_46_0_1 (gp) _)) fun a52 h51 => ?_
        refine wv h51 rfl rfl rfl rfl (strB p.d) (by unfold execOp; simp only [h51.ev 24 rfl]; exact run_v (loadSP (HP.out.cell (i := 1) (by show 1 < 2; omega)))) fun a54 h53 => ?_
        refine wv h53 rfl rfl rfl rfl (strB (p.d.take 300)) (by unfold execOp; simp only [h53.ev 25 rfl]; exact run_v (slSH p.d 300 (by omega) _)) fun a56 h55 => ?_
        refine wv h55 rfl rfl rfl rfl (.pointer (some ⟨gp, 1, none⟩)) (by unfold execOp; simp only [h55.ev 5 rfl]; exact run_v (fa_46_0_1 (gp) _)) fun a58 h57 => ?_
        obtain ⟨wr, hwr⟩ : ∃ x, x = wq.setCell ⟨gp, 1, none⟩ (strB (p.d.take 300)) := ⟨_, rfl⟩
        refine wpk_skipvP h57 (wanted_none rfl) rfl (w' := wr) (by rw [hwr]; unfold execOp; simp only [h57.ev 27 rfl, h57.ev 26 rfl]; exact run_uP (storeSP (HP.out.cell (i := 1) (by show 1 < 2; omega)) (HP.out.frozen 1) _)) fun a60 h59 => ?_
        have kr : Blk wr gp 46 (ptC ⟨p.at_, p.d.take 300⟩) := by rw [hwr]; exact HP.out.set 1 _
        have gr : wq.grownBy wr (some gp) := by rw [hwr]; exact sg_set (sg_refl wq (some gp)) 1 _
        have HOr : Hid (OwnPt wr w.heap.size la lc (cutP j 300 L)) := hid (own_grown_apart HOq.out gr hapart); have HBr : Hid (Below w.heap.size w wr) := hid (below_grownS HBq.out gr hgw HBq.out.size)
        clear HP HOq HBq hwr gr; have HP := hid kr; have HOq := HOr; have HBq := HBr; clear kr HOr HBr
        have h61 := h59.subs (l' := [(5, _), (3, _), (4, _), (2, _), (0, _)]) rfl
        clear h59
        iterate 4 go_step
        refine wmk h61 rfl rfl rfl rfl 3 rfl (fun _ => rfl) fun a63 h62 => ?_
        refine wv h62 rfl rfl rfl rfl (ptV ⟨p.at_, p.d.take 300⟩) (by unfold execOp; simp only [h62.ev 5 rfl]; exact run_v (run_loadAt_mid _ _ _ _ (ptC ⟨p.at_, p.d.take 300⟩) _ (fun i u hu => by rw [Nat.zero_add]; exact blk_at HP.out hu) Tryd.underlying46 rfl (by rw [infoPt]; rfl))) fun a65 h64 => ?_
        obtain ⟨wz, hwz⟩ : ∃ x, x = wr.alloc (.cells (ptC ⟨p.at_, p.d.take 300⟩).toArray 46) := ⟨_, rfl⟩
        have rz : RowPt wz (some ⟨wr.heap.size, 0, none⟩) 1 [⟨p.at_, p.d.take 300⟩] := by rw [hwz]; exact rowPt1 _ _
        have oz : OwnPt wz w.heap.size la lc (cutP j 300 L) := by rw [hwz]; exact Own.alloc HOq.out _
        have bz : Below w.heap.size w wz := by rw [hwz]; exact kept_alloc HBq.out _
        refine wv h64 rfl rfl rfl rfl (.slice (some ⟨wr.heap.size, 0, none⟩) ([⟨p.at_, p.d.take 300⟩] : List PtM).length 1) (by unfold execOp; simp only [List.map_toArray, List.map_cons, List.map_nil, h64.ev 29 rfl]; exact run_v (buildPts _ _)) fun a67 h66 => ?_
        rw [← hwz]
        refine wpl_append rfl (.tmp 28) (.tmp 30) rfl EPt w.heap.size (h66.ev 28 rfl) (h66.ev 30 rfl) oz rz (pts_one _) (by rw [hcl]; show (j + 1) * 24 ≤ _; omega) (by rw [hcl]; show j + 1 ≤ _; omega) bz.size ?_
        intro la3 lc3 w3 o3 g3 b3
        refine wpk_enter (h66.put (d := 31) (by decide) (fr rfl) (.slice la3 ((cutP j 300 L).length + ([⟨p.at_, p.d.take 300⟩] : List PtM).length) lc3)) fun a69 h68 => ?_
        have hsn := cutP_snoc (D := 300) hltL; rw [← HPJ.out] at hsn
        have hpd : (⟨p.at_, p.d.take 300⟩ : PtM) = ⟨p.at_, p.d.take 300⟩ := rfl
        rw [hpd] at hsn
        have HO3 : Hid (OwnPt w3 w.heap.size la3 lc3 (cutP (j + 1) 300 L)) := hid (by rw [hsn]; unfold OwnPt; rw [List.length_append, List.flatMap_append]; exact o3)
        have HB3 := hid (bz.trans b3); clear o3 g3 b3 oz rz bz hwz
        have h70 := h68.subs (l' := [(31, _), (30, _), (29, _), (28, _), (5, _), (4, _), (2, _), (0, _)]) rfl
        clear h68
        refine wmk h70 rfl rfl rfl rfl 31 rfl (fun _ => rfl) fun a72 h71 => ?_
        have h73 := h71.subs (l' := [(3, _), (5, _), (4, _), (2, _), (0, _)]) rfl
        clear h71
        iterate 4 go_step
        refine wmk h73 rfl rfl rfl rfl 4 rfl (fun _ => rfl) fun a75 h74 => ?_
        refine wv h74 rfl rfl rfl rfl (.int .i64 ((j + 1 : Nat) : Int)) (by unfold execOp; simp only [h74.ev 14 rfl]; exact run_v (addIP _ _ j (by omega) _)) fun a77 h76 => ?_
        have h78 := h76.subs (l' := [(15, _), (14, _), (3, _), (5, _), (2, _), (0, _)]) rfl
        clear h76
        refine wmk h78 rfl rfl rfl rfl 15 rfl (fun _ => rfl) fun a80 h79 => ?_
        have h81 := h79.subs (l' := [(4, _), (3, _), (5, _), (2, _), (0, _)]) rfl
        clear h79
        iterate 2 go_step
        refine ⟨⟨j + 1, la3, lc3, by omega, by omega, ?_, HO3.out, HB3.out⟩, ?_⟩
        · have hz : (cutP (j + 1) 300 L).length = (cutP j 300 L).length + ([⟨p.at_, p.d.take 300⟩] : List PtM).length := by rw [hsn, List.length_append]
          rw [hz]; exact h81.subs rfl
        · rw [h81.ev 4 rfl, hK.ev 4 rfl]; simp [intOf]; omega
      · have hlong : decide ((300 : Int) < (p.d.length : Int)) = false := decide_eq_false (by omega)
        iterate 4 go_step
        refine wmk hK rfl rfl rfl rfl 4 rfl (fun _ => rfl) fun a83 h82 => ?_
        refine wmk h82 rfl rfl rfl rfl 0 rfl (fun _ => rfl) fun a85 h84 => ?_
        refine wv h84 rfl rfl rfl rfl (.int .i64 (L.length : Int)) (run_lenP rfl (h84.ev 7 rfl) _) fun a87 h86 => ?_
        refine wv h86 rfl rfl rfl rfl (.bool true) (by unfold execOp; simp only [h86.ev 6 rfl, h86.ev 8 rfl]; exact run_v (ltIP _ _ _ _ _ hd0)) fun a89 h88 => ?_
        refine wmk h88 rfl rfl rfl rfl 9 rfl (fun _ => rfl) fun a91 h90 => ?_
        refine wpk_val h90 (by rw [wanted_of (g := 4) (want := true) (b := true) rfl (h90.yields (prev := 10) rfl (by simp))]; rfl) rfl (by decide) (fr rfl) (.int .i64 (j : Int)) (by unfold execOp; simp only [h90.ev 4 rfl]; rfl) fun a93 h92 => ?_
        refine wpk_val h92 (by rw [wanted_of (g := 4) (want := true) (b := true) rfl (h92.yields (prev := 10) rfl (by simp))]; rfl) rfl (by decide) (fr rfl) (.bool true) (by unfold execOp; simp only [h92.ev 11 rfl]; exact run_v (ltIP _ _ _ _ _ hd1)) fun a95 h94 => ?_
        refine wv h94 rfl rfl rfl rfl (.bool true) (run_pick rfl (h94.ev 10 rfl) (by rw [if_pos rfl]; exact h94.ev 12 rfl)) fun a97 h96 => ?_
        have h98 := h96.subs (l' := [(13, _), (3, _), (4, _), (2, _), (0, _)]) rfl
        clear h96
        iterate 3 go_step
        refine wp_cond (t := true) (h98.ev 13 rfl) ?_
        simp only [if_true]
        have h99 := h98.subs (l' := [(3, _), (4, _), (2, _), (0, _)]) rfl
        clear h98
        iterate 7 go_step
        refine wmk h99 rfl rfl rfl rfl 0 rfl (fun _ => rfl) fun a101 h100 => ?_
        refine wmk h100 rfl rfl rfl rfl 4 rfl (fun _ => rfl) fun a103 h102 => ?_
        refine wv h102 rfl rfl rfl rfl (.pointer (some ⟨pb, poff + j * 2, none⟩)) (by unfold execOp; simp only [h102.ev 16 rfl, h102.ev 17 rfl]; exact run_v (by rw [ha0]; exact ixP pb poff _ c j hltL _)) fun a105 h104 => ?_
        refine wv h104 rfl rfl rfl rfl (ptV p) (by unfold execOp; simp only [h104.ev 18 rfl]; exact run_v (run_loadAt_mid _ _ _ _ (ptC p) _ hrg Tryd.underlying46 rfl (by rw [infoPt]; rfl))) fun a107 h106 => ?_
        refine wv h106 rfl rfl rfl rfl (.pointer (some ⟨aw.heap.size, 0, none⟩)) (run_allocPt rfl _ aw) fun a109 h108 => ?_
        obtain ⟨wp, hwp⟩ : ∃ x, x = aw.alloc (.cells (ptC ⟨0, []⟩).toArray 46) := ⟨_, rfl⟩
        obtain ⟨gp, hgp⟩ : ∃ x, x = aw.heap.size := ⟨_, rfl⟩
        have hk0 : Blk wp gp 46 (ptC ⟨0, []⟩) := by rw [hwp, hgp]; exact blk_newO rfl _ _
        have HOp : Hid (OwnPt wp w.heap.size la lc (cutP j 300 L)) := hid (by rw [hwp]; exact Own.alloc HO.out _)
        have HBp : Hid (Below w.heap.size w wp) := hid (by rw [hwp]; exact kept_alloc HB.out _)
        have hgw : w.heap.size ≤ gp := by rw [hgp]; exact HB.out.size
        have hapart : (Value.slice la (cutP j 300 L).length lc).ownBlock ≠ some gp := by rw [hgp]; exact own_lt_ne HO.out
        rw [← hgp] at h108; rw [← hwp]; clear hwp hgp
        refine wpk_storeP h108 rfl rfl rfl gp 0 (h108.ev 5 rfl) (ptC p) (h108.ev 19 rfl) (by rw [infoPt]; rfl) (ptC_one _) hk0 (by show 0 + 2 ≤ 2; omega) fun a111 wq h110 kq gq => ?_
        rw [splice_all (by rfl)] at kq
        have HP := hid kq; have HOq : Hid (OwnPt wq w.heap.size la lc (cutP j 300 L)) := hid (own_grown_apart HOp.out gq hapart); have HBq : Hid (Below w.heap.size w wq) := hid (below_grownS HBp.out gq hgw HBp.out.size)
        clear kq gq hk0 HOp HBp
        have h112 := h110.subs (l' := [(5, _), (3, _), (4, _), (2, _), (0, _)]) rfl
        clear h110
        iterate 6 go_step
        refine wv h112 rfl rfl rfl rfl (.pointer (some ⟨gp, 1, none⟩)) (by unfold execOp; simp only [h112.ev 5 rfl]; exact run_v (fa_46_0_1 (gp) _)) fun a114 h113 => ?_
        refine wv h113 rfl rfl rfl rfl (strB p.d) (by unfold execOp; simp only [h113.ev 20 rfl]; exact run_v (loadSP (HP.out.cell (i := 1) (by show 1 < 2; omega)))) fun a116 h115 => ?_
        refine wv h115 rfl rfl rfl rfl (.int .i64 (p.d.length : Int)) (run_lenSP rfl (h115.ev 21 rfl) _) fun a118 h117 => ?_
        refine wv h117 rfl rfl rfl rfl (.bool false) (by unfold execOp; simp only [h117.ev 22 rfl]; exact run_v (gtIP _ _ _ _ _ hlong)) fun a120 h119 => ?_
        have h121 := h119.subs (l' := [(23, _), (5, _), (3, _), (4, _), (2, _), (0, _)]) rfl
        clear h119
        iterate 3 go_step
        refine wp_cond (t := false) (h121.ev 23 rfl) ?_
        simp only [Bool.false_eq_true, if_false]
        have h122 := h121.subs (l' := [(5, _), (3, _), (4, _), (2, _), (0, _)]) rfl
        clear h121
        iterate 4 go_step
        refine wmk h122 rfl rfl rfl rfl 3 rfl (fun _ => rfl) fun a124 h123 => ?_
        refine wv h123 rfl rfl rfl rfl (ptV p) (by unfold execOp; simp only [h123.ev 5 rfl]; exact run_v (run_loadAt_mid _ _ _ _ (ptC p) _ (fun i u hu => by rw [Nat.zero_add]; exact blk_at HP.out hu) Tryd.underlying46 rfl (by rw [infoPt]; rfl))) fun a126 h125 => ?_
        obtain ⟨wz, hwz⟩ : ∃ x, x = wq.alloc (.cells (ptC p).toArray 46) := ⟨_, rfl⟩
        have rz : RowPt wz (some ⟨wq.heap.size, 0, none⟩) 1 [p] := by rw [hwz]; exact rowPt1 _ _
        have oz : OwnPt wz w.heap.size la lc (cutP j 300 L) := by rw [hwz]; exact Own.alloc HOq.out _
        have bz : Below w.heap.size w wz := by rw [hwz]; exact kept_alloc HBq.out _
        refine wv h125 rfl rfl rfl rfl (.slice (some ⟨wq.heap.size, 0, none⟩) ([p] : List PtM).length 1) (by unfold execOp; simp only [List.map_toArray, List.map_cons, List.map_nil, h125.ev 29 rfl]; exact run_v (buildPts _ _)) fun a128 h127 => ?_
        rw [← hwz]
        refine wpl_append rfl (.tmp 28) (.tmp 30) rfl EPt w.heap.size (h127.ev 28 rfl) (h127.ev 30 rfl) oz rz (pts_one _) (by rw [hcl]; show (j + 1) * 24 ≤ _; omega) (by rw [hcl]; show j + 1 ≤ _; omega) bz.size ?_
        intro la3 lc3 w3 o3 g3 b3
        refine wpk_enter (h127.put (d := 31) (by decide) (fr rfl) (.slice la3 ((cutP j 300 L).length + ([p] : List PtM).length) lc3)) fun a130 h129 => ?_
        have hsn := cutP_snoc (D := 300) hltL; rw [← HPJ.out] at hsn
        have hpd : (⟨p.at_, p.d.take 300⟩ : PtM) = p := by rw [List.take_of_length_le (by omega)]
        rw [hpd] at hsn
        have HO3 : Hid (OwnPt w3 w.heap.size la3 lc3 (cutP (j + 1) 300 L)) := hid (by rw [hsn]; unfold OwnPt; rw [List.length_append, List.flatMap_append]; exact o3)
        have HB3 := hid (bz.trans b3); clear o3 g3 b3 oz rz bz hwz
        have h131 := h129.subs (l' := [(31, _), (30, _), (29, _), (28, _), (5, _), (4, _), (2, _), (0, _)]) rfl
        clear h129
        refine wmk h131 rfl rfl rfl rfl 31 rfl (fun _ => rfl) fun a133 h132 => ?_
        have h134 := h132.subs (l' := [(3, _), (5, _), (4, _), (2, _), (0, _)]) rfl
        clear h132
        iterate 4 go_step
        refine wmk h134 rfl rfl rfl rfl 4 rfl (fun _ => rfl) fun a136 h135 => ?_
        refine wv h135 rfl rfl rfl rfl (.int .i64 ((j + 1 : Nat) : Int)) (by unfold execOp; simp only [h135.ev 14 rfl]; exact run_v (addIP _ _ j (by omega) _)) fun a138 h137 => ?_
        have h139 := h137.subs (l' := [(15, _), (14, _), (3, _), (5, _), (2, _), (0, _)]) rfl
        clear h137
        refine wmk h139 rfl rfl rfl rfl 15 rfl (fun _ => rfl) fun a141 h140 => ?_
        have h142 := h140.subs (l' := [(4, _), (3, _), (5, _), (2, _), (0, _)]) rfl
        clear h140
        iterate 2 go_step
        refine ⟨⟨j + 1, la3, lc3, by omega, by omega, ?_, HO3.out, HB3.out⟩, ?_⟩
        · have hz : (cutP (j + 1) 300 L).length = (cutP j 300 L).length + ([p] : List PtM).length := by rw [hsn, List.length_append]
          rw [hz]; exact h142.subs rfl
        · rw [h142.ev 4 rfl, hK.ev 4 rfl]; simp [intOf]; omega
    · have hd1 : decide ((j : Int) < 70) = false := decide_eq_false (by omega)
      iterate 4 go_step
      refine wmk hK rfl rfl rfl rfl 4 rfl (fun _ => rfl) fun a144 h143 => ?_
      refine wmk h143 rfl rfl rfl rfl 0 rfl (fun _ => rfl) fun a146 h145 => ?_
      refine wv h145 rfl rfl rfl rfl (.int .i64 (L.length : Int)) (run_lenP rfl (h145.ev 7 rfl) _) fun a148 h147 => ?_
      refine wv h147 rfl rfl rfl rfl (.bool true) (by unfold execOp; simp only [h147.ev 6 rfl, h147.ev 8 rfl]; exact run_v (ltIP _ _ _ _ _ hd0)) fun a150 h149 => ?_
      refine wmk h149 rfl rfl rfl rfl 9 rfl (fun _ => rfl) fun a152 h151 => ?_
      refine wpk_val h151 (by rw [wanted_of (g := 4) (want := true) (b := true) rfl (h151.yields (prev := 10) rfl (by simp))]; rfl) rfl (by decide) (fr rfl) (.int .i64 (j : Int)) (by unfold execOp; simp only [h151.ev 4 rfl]; rfl) fun a154 h153 => ?_
      refine wpk_val h153 (by rw [wanted_of (g := 4) (want := true) (b := true) rfl (h153.yields (prev := 10) rfl (by simp))]; rfl) rfl (by decide) (fr rfl) (.bool false) (by unfold execOp; simp only [h153.ev 11 rfl]; exact run_v (ltIP _ _ _ _ _ hd1)) fun a156 h155 => ?_
      refine wv h155 rfl rfl rfl rfl (.bool false) (run_pick rfl (h155.ev 10 rfl) (by rw [if_pos rfl]; exact h155.ev 12 rfl)) fun a158 h157 => ?_
      have h159 := h157.subs (l' := [(13, _), (3, _), (4, _), (2, _), (0, _)]) rfl
      clear h157
      iterate 3 go_step
      refine wp_cond (t := false) (h159.ev 13 rfl) ?_
      simp only [Bool.false_eq_true, if_false]
      have h160 := h159.subs (l' := [(3, _), (4, _), (2, _), (0, _)]) rfl
      clear h159
      iterate 7 go_step
      refine wmk h160 rfl rfl rfl rfl 3 rfl (fun _ => rfl) fun a162 h161 => ?_
      have h163 := h161.subs (l' := [(32, _), (3, _), (4, _), (0, _)]) rfl
      clear h161
      refine wmk h163 rfl rfl rfl rfl 32 rfl (fun _ => rfl) fun a165 h164 => ?_
      have h166 := h164.subs (l' := [(2, _), (3, _), (4, _), (0, _)]) rfl
      clear h164
      iterate 4 go_step
      have he : cutP j 300 L = cutP 70 300 L := by unfold cutP; congr 1; rw [show j = 70 by omega]
      rw [he] at HO
      refine bodyPost_ret (results_tmp1 rfl (h166.known (2, .slice la (cutP j 300 L).length lc) (by simp))) h166.defs ⟨la, lc, by rw [he], HO.out, HB.out⟩
  · have hd0 : decide ((j : Int) < (L.length : Int)) = false := decide_eq_false (by omega)
    iterate 4 go_step
    refine wmk hK rfl rfl rfl rfl 4 rfl (fun _ => rfl) fun a168 h167 => ?_
    refine wmk h167 rfl rfl rfl rfl 0 rfl (fun _ => rfl) fun a170 h169 => ?_
    refine wv h169 rfl rfl rfl rfl (.int .i64 (L.length : Int)) (run_lenP rfl (h169.ev 7 rfl) _) fun a172 h171 => ?_
    refine wv h171 rfl rfl rfl rfl (.bool false) (by unfold execOp; simp only [h171.ev 6 rfl, h171.ev 8 rfl]; exact run_v (ltIP _ _ _ _ _ hd0)) fun a174 h173 => ?_
    refine wmk h173 rfl rfl rfl rfl 9 rfl (fun _ => rfl) fun a176 h175 => ?_
    refine wpk_skip h175 (by rw [wanted_of (g := 4) (want := true) (b := false) rfl (h175.yields (prev := 10) rfl (by simp))]; rfl) rfl (by decide) (fr rfl) fun a178 h177 => ?_
    refine wpk_skip h177 (by rw [wanted_of (g := 4) (want := true) (b := false) rfl (h177.yields (prev := 10) rfl (by simp))]; rfl) rfl (by decide) (fr rfl) fun a180 h179 => ?_
    refine wv h179 rfl rfl rfl rfl (.bool false) (run_pick rfl (h179.ev 10 rfl) rfl) fun a182 h181 => ?_
    have h183 := h181.subs (l' := [(13, _), (3, _), (4, _), (2, _), (0, _)]) rfl
    clear h181
    iterate 3 go_step
    refine wp_cond (t := false) (h183.ev 13 rfl) ?_
    simp only [Bool.false_eq_true, if_false]
    have h184 := h183.subs (l' := [(3, _), (4, _), (2, _), (0, _)]) rfl
    clear h183
    iterate 7 go_step
    refine wmk h184 rfl rfl rfl rfl 3 rfl (fun _ => rfl) fun a186 h185 => ?_
    have h187 := h185.subs (l' := [(32, _), (3, _), (4, _), (0, _)]) rfl
    clear h185
    refine wmk h187 rfl rfl rfl rfl 32 rfl (fun _ => rfl) fun a189 h188 => ?_
    have h190 := h188.subs (l' := [(2, _), (3, _), (4, _), (0, _)]) rfl
    clear h188
    iterate 4 go_step
    have he : cutP j 300 L = cutP 70 300 L := by unfold cutP; congr 1; rw [List.take_of_length_le (by omega), List.take_of_length_le (by omega)]
    rw [he] at HO
    refine bodyPost_ret (results_tmp1 rfl (h190.known (2, .slice la (cutP j 300 L).length lc) (by simp))) h190.defs ⟨la, lc, by rw [he], HO.out, HB.out⟩

set_option maxHeartbeats 4000000 in
theorem little_any {w : World} {a : Option Addr} {c : Nat} {L : List PtM} (hL : RowPt w a c L) (hl9 : L.length ≤ 9223372036854775807) :
    Calls Tryd.prog 21 #[.slice a L.length c] w fun e w' => ∃ la lc, e = .returned (.slice la (cutP 6 40 L).length lc) ∧ OwnPt w' w.heap.size la lc (cutP 6 40 L) ∧ Below w.heap.size w w' := by
  have HL := hid hL
  clear hL
  go_enter Tryd.func21, Tryd.ntmps21
  iterate 3 go_step
  refine wpk_enter (N := 33) (l := [(0, .slice a L.length c)]) ⟨rfl, (by intro x hx; simp only [List.mem_cons, List.not_mem_nil, or_false] at hx; rcases hx with rfl <;> rfl), rfl⟩ fun a2 h1 => ?_
  refine wv h1 rfl rfl rfl rfl (.slice none 0 0) rfl fun a4 h3 => ?_
  iterate 5 go_step
  refine wv h3 rfl rfl rfl rfl (.slice none 0 0) rfl fun a6 h5 => ?_
  iterate 6 go_step
  refine wv h5 rfl rfl rfl rfl (.int .i64 0) rfl fun a8 h7 => ?_
  iterate 4 go_step
  have h9 := h7.subs (l' := [(3, _), (4, _), (2, _), (0, _)]) rfl
  clear h7
  refine wp_loop (I := fun a' w' => ∃ (j : Nat) (la : Option Addr) (lc : Nat), j ≤ L.length ∧ j ≤ 6 ∧ Kn 33 [(3, .slice la (cutP j 40 L).length lc), (4, .int .i64 (j : Int)), (2, .slice none 0 0), (0, .slice a L.length c)] a' ∧ OwnPt w' w.heap.size la lc (cutP j 40 L) ∧ Below w.heap.size w w') (μ := fun a' _ => L.length - (intOf (a'.eval (.tmp 4))).toNat) ⟨0, none, 0, by omega, by omega, h9, Own.nil _ _ _ _, Below.refl _ _⟩ ?_
  clear h9
  rintro aL aw ⟨j, la, lc, hj, hjK, hK, ho, hb⟩
  have HO := hid ho; have HB := hid hb; clear ho hb
  have hcl : (cutP j 40 L).length = j := by unfold cutP; rw [List.length_map, List.length_take]; omega
  by_cases hltL : j < L.length
  · have hd0 : decide ((j : Int) < (L.length : Int)) = true := decide_eq_true (by omega)
    by_cases hltK : j < 6
    · have hd1 : decide ((j : Int) < 6) = true := decide_eq_true (by omega)
      obtain ⟨pb, poff, ha0, hrg⟩ := rowPt_at (HL.out.mono HB.out) (by omega)
      have hrg := hrg j hltL
      obtain ⟨p, hp⟩ : ∃ p, p = L[j] := ⟨_, rfl⟩
      rw [← hp] at hrg
      have HPJ := hid hp; clear hp
      by_cases hl2 : 40 < p.d.length
      · have hlong : decide ((40 : Int) < (p.d.length : Int)) = true := decide_eq_true (by omega)
        iterate 4 go_step
        refine wmk hK rfl rfl rfl rfl 4 rfl (fun _ => rfl) fun a11 h10 => ?_
        refine wmk h10 rfl rfl rfl rfl 0 rfl (fun _ => rfl) fun a13 h12 => ?_
        refine wv h12 rfl rfl rfl rfl (.int .i64 (L.length : Int)) (run_lenP rfl (h12.ev 7 rfl) _) fun a15 h14 => ?_
        refine wv h14 rfl rfl rfl rfl (.bool true) (by unfold execOp; simp only [h14.ev 6 rfl, h14.ev 8 rfl]; exact run_v (ltIP _ _ _ _ _ hd0)) fun a17 h16 => ?_
        refine wmk h16 rfl rfl rfl rfl 9 rfl (fun _ => rfl) fun a19 h18 => ?_
        refine wpk_val h18 (by rw [wanted_of (g := 4) (want := true) (b := true) rfl (h18.yields (prev := 10) rfl (by simp))]; rfl) rfl (by decide) (fr rfl) (.int .i64 (j : Int)) (by unfold execOp; simp only [h18.ev 4 rfl]; rfl) fun a21 h20 => ?_
        refine wpk_val h20 (by rw [wanted_of (g := 4) (want := true) (b := true) rfl (h20.yields (prev := 10) rfl (by simp))]; rfl) rfl (by decide) (fr rfl) (.bool true) (by unfold execOp; simp only [h20.ev 11 rfl]; exact run_v (ltIP _ _ _ _ _ hd1)) fun a23 h22 => ?_
        refine wv h22 rfl rfl rfl rfl (.bool true) (run_pick rfl (h22.ev 10 rfl) (by rw [if_pos rfl]; exact h22.ev 12 rfl)) fun a25 h24 => ?_
        have h26 := h24.subs (l' := [(13, _), (3, _), (4, _), (2, _), (0, _)]) rfl
        clear h24
        iterate 3 go_step
        refine wp_cond (t := true) (h26.ev 13 rfl) ?_
        simp only [if_true]
        have h27 := h26.subs (l' := [(3, _), (4, _), (2, _), (0, _)]) rfl
        clear h26
        iterate 7 go_step
        refine wmk h27 rfl rfl rfl rfl 0 rfl (fun _ => rfl) fun a29 h28 => ?_
        refine wmk h28 rfl rfl rfl rfl 4 rfl (fun _ => rfl) fun a31 h30 => ?_
        refine wv h30 rfl rfl rfl rfl (.pointer (some ⟨pb, poff + j * 2, none⟩)) (by unfold execOp; simp only [h30.ev 16 rfl, h30.ev 17 rfl]; exact run_v (by rw [ha0]; exact ixP pb poff _ c j hltL _)) fun a33 h32 => ?_
        refine wv h32 rfl rfl rfl rfl (ptV p) (by unfold execOp; simp only [h32.ev 18 rfl]; exact run_v (run_loadAt_mid _ _ _ _ (ptC p) _ hrg Tryd.underlying46 rfl (by rw [infoPt]; rfl))) fun a35 h34 => ?_
        refine wv h34 rfl rfl rfl rfl (.pointer (some ⟨aw.heap.size, 0, none⟩)) (run_allocPt rfl _ aw) fun a37 h36 => ?_
        obtain ⟨wp, hwp⟩ : ∃ x, x = aw.alloc (.cells (ptC ⟨0, []⟩).toArray 46) := ⟨_, rfl⟩
        obtain ⟨gp, hgp⟩ : ∃ x, x = aw.heap.size := ⟨_, rfl⟩
        have hk0 : Blk wp gp 46 (ptC ⟨0, []⟩) := by rw [hwp, hgp]; exact blk_newO rfl _ _
        have HOp : Hid (OwnPt wp w.heap.size la lc (cutP j 40 L)) := hid (by rw [hwp]; exact Own.alloc HO.out _)
        have HBp : Hid (Below w.heap.size w wp) := hid (by rw [hwp]; exact kept_alloc HB.out _)
        have hgw : w.heap.size ≤ gp := by rw [hgp]; exact HB.out.size
        have hapart : (Value.slice la (cutP j 40 L).length lc).ownBlock ≠ some gp := by rw [hgp]; exact own_lt_ne HO.out
        rw [← hgp] at h36; rw [← hwp]; clear hwp hgp
        refine wpk_storeP h36 rfl rfl rfl gp 0 (h36.ev 5 rfl) (ptC p) (h36.ev 19 rfl) (by rw [infoPt]; rfl) (ptC_one _) hk0 (by show 0 + 2 ≤ 2; omega) fun a39 wq h38 kq gq => ?_
        rw [splice_all (by rfl)] at kq
        have HP := hid kq; have HOq : Hid (OwnPt wq w.heap.size la lc (cutP j 40 L)) := hid (own_grown_apart HOp.out gq hapart); have HBq : Hid (Below w.heap.size w wq) := hid (below_grownS HBp.out gq hgw HBp.out.size)
        clear kq gq hk0 HOp HBp
        have h40 := h38.subs (l' := [(5, _), (3, _), (4, _), (2, _), (0, _)]) rfl
        clear h38
        iterate 6 go_step
        refine wv h40 rfl rfl rfl rfl (.pointer (some ⟨gp, 1, none⟩)) (by unfold execOp; simp only [h40.ev 5 rfl]; exact run_v (fa_46_0_1 (gp) _)) fun a42 h41 => ?_
        refine wv h41 rfl rfl rfl rfl (strB p.d) (by unfold execOp; simp only [h41.ev 20 rfl]; exact run_v (loadSP (HP.out.cell (i := 1) (by show 1 < 2; omega)))) fun a44 h43 => ?_
        refine wv h43 rfl rfl rfl rfl (.int .i64 (p.d.length : Int)) (run_lenSP rfl (h43.ev 21 rfl) _) fun a46 h45 => ?_
        refine wv h45 rfl rfl rfl rfl (.bool true) (by unfold execOp; simp only [h45.ev 22 rfl]; exact run_v (gtIP _ _ _ _ _ hlong)) fun a48 h47 => ?_
        have h49 := h47.subs (l' := [(23, _), (5, _), (3, _), (4, _), (2, _), (0, _)]) rfl
        clear h47
        iterate 3 go_step
        refine wp_cond (t := true) (h49.ev 23 rfl) ?_
        simp only [if_true]
        have h50 := h49.subs (l' := [(5, _), (3, _), (4, _), (2, _), (0, _)]) rfl
        clear h49
        go_step
        refine wv h50 rfl rfl rfl rfl (.pointer (some ⟨gp, 1, none⟩)) (by unfold execOp; simp only [h50.ev 5 rfl]; exact run_v (fa_46_0_1 (gp) _)) fun a52 h51 => ?_
        refine wv h51 rfl rfl rfl rfl (strB p.d) (by unfold execOp; simp only [h51.ev 24 rfl]; exact run_v (loadSP (HP.out.cell (i := 1) (by show 1 < 2; omega)))) fun a54 h53 => ?_
        refine wv h53 rfl rfl rfl rfl (strB (p.d.take 40)) (by unfold execOp; simp only [h53.ev 25 rfl]; exact run_v (slSH p.d 40 (by omega) _)) fun a56 h55 => ?_
        refine wv h55 rfl rfl rfl rfl (.pointer (some ⟨gp, 1, none⟩)) (by unfold execOp; simp only [h55.ev 5 rfl]; exact run_v (fa_46_0_1 (gp) _)) fun a58 h57 => ?_
        obtain ⟨wr, hwr⟩ : ∃ x, x = wq.setCell ⟨gp, 1, none⟩ (strB (p.d.take 40)) := ⟨_, rfl⟩
        refine wpk_skipvP h57 (wanted_none rfl) rfl (w' := wr) (by rw [hwr]; unfold execOp; simp only [h57.ev 27 rfl, h57.ev 26 rfl]; exact run_uP (storeSP (HP.out.cell (i := 1) (by show 1 < 2; omega)) (HP.out.frozen 1) _)) fun a60 h59 => ?_
        have kr : Blk wr gp 46 (ptC ⟨p.at_, p.d.take 40⟩) := by rw [hwr]; exact HP.out.set 1 _
        have gr : wq.grownBy wr (some gp) := by rw [hwr]; exact sg_set (sg_refl wq (some gp)) 1 _
        have HOr : Hid (OwnPt wr w.heap.size la lc (cutP j 40 L)) := hid (own_grown_apart HOq.out gr hapart); have HBr : Hid (Below w.heap.size w wr) := hid (below_grownS HBq.out gr hgw HBq.out.size)
        clear HP HOq HBq hwr gr; have HP := hid kr; have HOq := HOr; have HBq := HBr; clear kr HOr HBr
        have h61 := h59.subs (l' := [(5, _), (3, _), (4, _), (2, _), (0, _)]) rfl
        clear h59
        iterate 4 go_step
        refine wmk h61 rfl rfl rfl rfl 3 rfl (fun _ => rfl) fun a63 h62 => ?_
        refine wv h62 rfl rfl rfl rfl (ptV ⟨p.at_, p.d.take 40⟩) (by unfold execOp; simp only [h62.ev 5 rfl]; exact run_v (run_loadAt_mid _ _ _ _ (ptC ⟨p.at_, p.d.take 40⟩) _ (fun i u hu => by rw [Nat.zero_add]; exact blk_at HP.out hu) Tryd.underlying46 rfl (by rw [infoPt]; rfl))) fun a65 h64 => ?_
        obtain ⟨wz, hwz⟩ : ∃ x, x = wr.alloc (.cells (ptC ⟨p.at_, p.d.take 40⟩).toArray 46) := ⟨_, rfl⟩
        have rz : RowPt wz (some ⟨wr.heap.size, 0, none⟩) 1 [⟨p.at_, p.d.take 40⟩] := by rw [hwz]; exact rowPt1 _ _
        have oz : OwnPt wz w.heap.size la lc (cutP j 40 L) := by rw [hwz]; exact Own.alloc HOq.out _
        have bz : Below w.heap.size w wz := by rw [hwz]; exact kept_alloc HBq.out _
        refine wv h64 rfl rfl rfl rfl (.slice (some ⟨wr.heap.size, 0, none⟩) ([⟨p.at_, p.d.take 40⟩] : List PtM).length 1) (by unfold execOp; simp only [List.map_toArray, List.map_cons, List.map_nil, h64.ev 29 rfl]; exact run_v (buildPts _ _)) fun a67 h66 => ?_
        rw [← hwz]
        refine wpl_append rfl (.tmp 28) (.tmp 30) rfl EPt w.heap.size (h66.ev 28 rfl) (h66.ev 30 rfl) oz rz (pts_one _) (by rw [hcl]; show (j + 1) * 24 ≤ _; omega) (by rw [hcl]; show j + 1 ≤ _; omega) bz.size ?_
        intro la3 lc3 w3 o3 g3 b3
        refine wpk_enter (h66.put (d := 31) (by decide) (fr rfl) (.slice la3 ((cutP j 40 L).length + ([⟨p.at_, p.d.take 40⟩] : List PtM).length) lc3)) fun a69 h68 => ?_
        have hsn := cutP_snoc (D := 40) hltL; rw [← HPJ.out] at hsn
        have hpd : (⟨p.at_, p.d.take 40⟩ : PtM) = ⟨p.at_, p.d.take 40⟩ := rfl
        rw [hpd] at hsn
        have HO3 : Hid (OwnPt w3 w.heap.size la3 lc3 (cutP (j + 1) 40 L)) := hid (by rw [hsn]; unfold OwnPt; rw [List.length_append, List.flatMap_append]; exact o3)
        have HB3 := hid (bz.trans b3); clear o3 g3 b3 oz rz bz hwz
        have h70 := h68.subs (l' := [(31, _), (30, _), (29, _), (28, _), (5, _), (4, _), (2, _), (0, _)]) rfl
        clear h68
        refine wmk h70 rfl rfl rfl rfl 31 rfl (fun _ => rfl) fun a72 h71 => ?_
        have h73 := h71.subs (l' := [(3, _), (5, _), (4, _), (2, _), (0, _)]) rfl
        clear h71
        iterate 4 go_step
        refine wmk h73 rfl rfl rfl rfl 4 rfl (fun _ => rfl) fun a75 h74 => ?_
        refine wv h74 rfl rfl rfl rfl (.int .i64 ((j + 1 : Nat) : Int)) (by unfold execOp; simp only [h74.ev 14 rfl]; exact run_v (addIP _ _ j (by omega) _)) fun a77 h76 => ?_
        have h78 := h76.subs (l' := [(15, _), (14, _), (3, _), (5, _), (2, _), (0, _)]) rfl
        clear h76
        refine wmk h78 rfl rfl rfl rfl 15 rfl (fun _ => rfl) fun a80 h79 => ?_
        have h81 := h79.subs (l' := [(4, _), (3, _), (5, _), (2, _), (0, _)]) rfl
        clear h79
        iterate 2 go_step
        refine ⟨⟨j + 1, la3, lc3, by omega, by omega, ?_, HO3.out, HB3.out⟩, ?_⟩
        · have hz : (cutP (j + 1) 40 L).length = (cutP j 40 L).length + ([⟨p.at_, p.d.take 40⟩] : List PtM).length := by rw [hsn, List.length_append]
          rw [hz]; exact h81.subs rfl
        · rw [h81.ev 4 rfl, hK.ev 4 rfl]; simp [intOf]; omega
      · have hlong : decide ((40 : Int) < (p.d.length : Int)) = false := decide_eq_false (by omega)
        iterate 4 go_step
        refine wmk hK rfl rfl rfl rfl 4 rfl (fun _ => rfl) fun a83 h82 => ?_
        refine wmk h82 rfl rfl rfl rfl 0 rfl (fun _ => rfl) fun a85 h84 => ?_
        refine wv h84 rfl rfl rfl rfl (.int .i64 (L.length : Int)) (run_lenP rfl (h84.ev 7 rfl) _) fun a87 h86 => ?_
        refine wv h86 rfl rfl rfl rfl (.bool true) (by unfold execOp; simp only [h86.ev 6 rfl, h86.ev 8 rfl]; exact run_v (ltIP _ _ _ _ _ hd0)) fun a89 h88 => ?_
        refine wmk h88 rfl rfl rfl rfl 9 rfl (fun _ => rfl) fun a91 h90 => ?_
        refine wpk_val h90 (by rw [wanted_of (g := 4) (want := true) (b := true) rfl (h90.yields (prev := 10) rfl (by simp))]; rfl) rfl (by decide) (fr rfl) (.int .i64 (j : Int)) (by unfold execOp; simp only [h90.ev 4 rfl]; rfl) fun a93 h92 => ?_
        refine wpk_val h92 (by rw [wanted_of (g := 4) (want := true) (b := true) rfl (h92.yields (prev := 10) rfl (by simp))]; rfl) rfl (by decide) (fr rfl) (.bool true) (by unfold execOp; simp only [h92.ev 11 rfl]; exact run_v (ltIP _ _ _ _ _ hd1)) fun a95 h94 => ?_
        refine wv h94 rfl rfl rfl rfl (.bool true) (run_pick rfl (h94.ev 10 rfl) (by rw [if_pos rfl]; exact h94.ev 12 rfl)) fun a97 h96 => ?_
        have h98 := h96.subs (l' := [(13, _), (3, _), (4, _), (2, _), (0, _)]) rfl
        clear h96
        iterate 3 go_step
        refine wp_cond (t := true) (h98.ev 13 rfl) ?_
        simp only [if_true]
        have h99 := h98.subs (l' := [(3, _), (4, _), (2, _), (0, _)]) rfl
        clear h98
        iterate 7 go_step
        refine wmk h99 rfl rfl rfl rfl 0 rfl (fun _ => rfl) fun a101 h100 => ?_
        refine wmk h100 rfl rfl rfl rfl 4 rfl (fun _ => rfl) fun a103 h102 => ?_
        refine wv h102 rfl rfl rfl rfl (.pointer (some ⟨pb, poff + j * 2, none⟩)) (by unfold execOp; simp only [h102.ev 16 rfl, h102.ev 17 rfl]; exact run_v (by rw [ha0]; exact ixP pb poff _ c j hltL _)) fun a105 h104 => ?_
        refine wv h104 rfl rfl rfl rfl (ptV p) (by unfold execOp; simp only [h104.ev 18 rfl]; exact run_v (run_loadAt_mid _ _ _ _ (ptC p) _ hrg Tryd.underlying46 rfl (by rw [infoPt]; rfl))) fun a107 h106 => ?_
        refine wv h106 rfl rfl rfl rfl (.pointer (some ⟨aw.heap.size, 0, none⟩)) (run_allocPt rfl _ aw) fun a109 h108 => ?_
        obtain ⟨wp, hwp⟩ : ∃ x, x = aw.alloc (.cells (ptC ⟨0, []⟩).toArray 46) := ⟨_, rfl⟩
        obtain ⟨gp, hgp⟩ : ∃ x, x = aw.heap.size := ⟨_, rfl⟩
        have hk0 : Blk wp gp 46 (ptC ⟨0, []⟩) := by rw [hwp, hgp]; exact blk_newO rfl _ _
        have HOp : Hid (OwnPt wp w.heap.size la lc (cutP j 40 L)) := hid (by rw [hwp]; exact Own.alloc HO.out _)
        have HBp : Hid (Below w.heap.size w wp) := hid (by rw [hwp]; exact kept_alloc HB.out _)
        have hgw : w.heap.size ≤ gp := by rw [hgp]; exact HB.out.size
        have hapart : (Value.slice la (cutP j 40 L).length lc).ownBlock ≠ some gp := by rw [hgp]; exact own_lt_ne HO.out
        rw [← hgp] at h108; rw [← hwp]; clear hwp hgp
        refine wpk_storeP h108 rfl rfl rfl gp 0 (h108.ev 5 rfl) (ptC p) (h108.ev 19 rfl) (by rw [infoPt]; rfl) (ptC_one _) hk0 (by show 0 + 2 ≤ 2; omega) fun a111 wq h110 kq gq => ?_
        rw [splice_all (by rfl)] at kq
        have HP := hid kq; have HOq : Hid (OwnPt wq w.heap.size la lc (cutP j 40 L)) := hid (own_grown_apart HOp.out gq hapart); have HBq : Hid (Below w.heap.size w wq) := hid (below_grownS HBp.out gq hgw HBp.out.size)
        clear kq gq hk0 HOp HBp
        have h112 := h110.subs (l' := [(5, _), (3, _), (4, _), (2, _), (0, _)]) rfl
        clear h110
        iterate 6 go_step
        refine wv h112 rfl rfl rfl rfl (.pointer (some ⟨gp, 1, none⟩)) (by unfold execOp; simp only [h112.ev 5 rfl]; exact run_v (fa_46_0_1 (gp) _)) fun a114 h113 => ?_
        refine wv h113 rfl rfl rfl rfl (strB p.d) (by unfold execOp; simp only [h113.ev 20 rfl]; exact run_v (loadSP (HP.out.cell (i := 1) (by show 1 < 2; omega)))) fun a116 h115 => ?_
        refine wv h115 rfl rfl rfl rfl (.int .i64 (p.d.length : Int)) (run_lenSP rfl (h115.ev 21 rfl) _) fun a118 h117 => ?_
        refine wv h117 rfl rfl rfl rfl (.bool false) (by unfold execOp; simp only [h117.ev 22 rfl]; exact run_v (gtIP _ _ _ _ _ hlong)) fun a120 h119 => ?_
        have h121 := h119.subs (l' := [(23, _), (5, _), (3, _), (4, _), (2, _), (0, _)]) rfl
        clear h119
        iterate 3 go_step
        refine wp_cond (t := false) (h121.ev 23 rfl) ?_
        simp only [Bool.false_eq_true, if_false]
        have h122 := h121.subs (l' := [(5, _), (3, _), (4, _), (2, _), (0, _)]) rfl
        clear h121
        iterate 4 go_step
        refine wmk h122 rfl rfl rfl rfl 3 rfl (fun _ => rfl) fun a124 h123 => ?_
        refine wv h123 rfl rfl rfl rfl (ptV p) (by unfold execOp; simp only [h123.ev 5 rfl]; exact run_v (run_loadAt_mid _ _ _ _ (ptC p) _ (fun i u hu => by rw [Nat.zero_add]; exact blk_at HP.out hu) Tryd.underlying46 rfl (by rw [infoPt]; rfl))) fun a126 h125 => ?_
        obtain ⟨wz, hwz⟩ : ∃ x, x = wq.alloc (.cells (ptC p).toArray 46) := ⟨_, rfl⟩
        have rz : RowPt wz (some ⟨wq.heap.size, 0, none⟩) 1 [p] := by rw [hwz]; exact rowPt1 _ _
        have oz : OwnPt wz w.heap.size la lc (cutP j 40 L) := by rw [hwz]; exact Own.alloc HOq.out _
        have bz : Below w.heap.size w wz := by rw [hwz]; exact kept_alloc HBq.out _
        refine wv h125 rfl rfl rfl rfl (.slice (some ⟨wq.heap.size, 0, none⟩) ([p] : List PtM).length 1) (by unfold execOp; simp only [List.map_toArray, List.map_cons, List.map_nil, h125.ev 29 rfl]; exact run_v (buildPts _ _)) fun a128 h127 => ?_
        rw [← hwz]
        refine wpl_append rfl (.tmp 28) (.tmp 30) rfl EPt w.heap.size (h127.ev 28 rfl) (h127.ev 30 rfl) oz rz (pts_one _) (by rw [hcl]; show (j + 1) * 24 ≤ _; omega) (by rw [hcl]; show j + 1 ≤ _; omega) bz.size ?_
        intro la3 lc3 w3 o3 g3 b3
        refine wpk_enter (h127.put (d := 31) (by decide) (fr rfl) (.slice la3 ((cutP j 40 L).length + ([p] : List PtM).length) lc3)) fun a130 h129 => ?_
        have hsn := cutP_snoc (D := 40) hltL; rw [← HPJ.out] at hsn
        have hpd : (⟨p.at_, p.d.take 40⟩ : PtM) = p := by rw [List.take_of_length_le (by omega)]
        rw [hpd] at hsn
        have HO3 : Hid (OwnPt w3 w.heap.size la3 lc3 (cutP (j + 1) 40 L)) := hid (by rw [hsn]; unfold OwnPt; rw [List.length_append, List.flatMap_append]; exact o3)
        have HB3 := hid (bz.trans b3); clear o3 g3 b3 oz rz bz hwz
        have h131 := h129.subs (l' := [(31, _), (30, _), (29, _), (28, _), (5, _), (4, _), (2, _), (0, _)]) rfl
        clear h129
        refine wmk h131 rfl rfl rfl rfl 31 rfl (fun _ => rfl) fun a133 h132 => ?_
        have h134 := h132.subs (l' := [(3, _), (5, _), (4, _), (2, _), (0, _)]) rfl
        clear h132
        iterate 4 go_step
        refine wmk h134 rfl rfl rfl rfl 4 rfl (fun _ => rfl) fun a136 h135 => ?_
        refine wv h135 rfl rfl rfl rfl (.int .i64 ((j + 1 : Nat) : Int)) (by unfold execOp; simp only [h135.ev 14 rfl]; exact run_v (addIP _ _ j (by omega) _)) fun a138 h137 => ?_
        have h139 := h137.subs (l' := [(15, _), (14, _), (3, _), (5, _), (2, _), (0, _)]) rfl
        clear h137
        refine wmk h139 rfl rfl rfl rfl 15 rfl (fun _ => rfl) fun a141 h140 => ?_
        have h142 := h140.subs (l' := [(4, _), (3, _), (5, _), (2, _), (0, _)]) rfl
        clear h140
        iterate 2 go_step
        refine ⟨⟨j + 1, la3, lc3, by omega, by omega, ?_, HO3.out, HB3.out⟩, ?_⟩
        · have hz : (cutP (j + 1) 40 L).length = (cutP j 40 L).length + ([p] : List PtM).length := by rw [hsn, List.length_append]
          rw [hz]; exact h142.subs rfl
        · rw [h142.ev 4 rfl, hK.ev 4 rfl]; simp [intOf]; omega
    · have hd1 : decide ((j : Int) < 6) = false := decide_eq_false (by omega)
      iterate 4 go_step
      refine wmk hK rfl rfl rfl rfl 4 rfl (fun _ => rfl) fun a144 h143 => ?_
      refine wmk h143 rfl rfl rfl rfl 0 rfl (fun _ => rfl) fun a146 h145 => ?_
      refine wv h145 rfl rfl rfl rfl (.int .i64 (L.length : Int)) (run_lenP rfl (h145.ev 7 rfl) _) fun a148 h147 => ?_
      refine wv h147 rfl rfl rfl rfl (.bool true) (by unfold execOp; simp only [h147.ev 6 rfl, h147.ev 8 rfl]; exact run_v (ltIP _ _ _ _ _ hd0)) fun a150 h149 => ?_
      refine wmk h149 rfl rfl rfl rfl 9 rfl (fun _ => rfl) fun a152 h151 => ?_
      refine wpk_val h151 (by rw [wanted_of (g := 4) (want := true) (b := true) rfl (h151.yields (prev := 10) rfl (by simp))]; rfl) rfl (by decide) (fr rfl) (.int .i64 (j : Int)) (by unfold execOp; simp only [h151.ev 4 rfl]; rfl) fun a154 h153 => ?_
      refine wpk_val h153 (by rw [wanted_of (g := 4) (want := true) (b := true) rfl (h153.yields (prev := 10) rfl (by simp))]; rfl) rfl (by decide) (fr rfl) (.bool false) (by unfold execOp; simp only [h153.ev 11 rfl]; exact run_v (ltIP _ _ _ _ _ hd1)) fun a156 h155 => ?_
      refine wv h155 rfl rfl rfl rfl (.bool false) (run_pick rfl (h155.ev 10 rfl) (by rw [if_pos rfl]; exact h155.ev 12 rfl)) fun a158 h157 => ?_
      have h159 := h157.subs (l' := [(13, _), (3, _), (4, _), (2, _), (0, _)]) rfl
      clear h157
      iterate 3 go_step
      refine wp_cond (t := false) (h159.ev 13 rfl) ?_
      simp only [Bool.false_eq_true, if_false]
      have h160 := h159.subs (l' := [(3, _), (4, _), (2, _), (0, _)]) rfl
      clear h159
      iterate 7 go_step
      refine wmk h160 rfl rfl rfl rfl 3 rfl (fun _ => rfl) fun a162 h161 => ?_
      have h163 := h161.subs (l' := [(32, _), (3, _), (4, _), (0, _)]) rfl
      clear h161
      refine wmk h163 rfl rfl rfl rfl 32 rfl (fun _ => rfl) fun a165 h164 => ?_
      have h166 := h164.subs (l' := [(2, _), (3, _), (4, _), (0, _)]) rfl
      clear h164
      iterate 4 go_step
      have he : cutP j 40 L = cutP 6 40 L := by unfold cutP; congr 1; rw [show j = 6 by omega]
      rw [he] at HO
      refine bodyPost_ret (results_tmp1 rfl (h166.known (2, .slice la (cutP j 40 L).length lc) (by simp))) h166.defs ⟨la, lc, by rw [he], HO.out, HB.out⟩
  · have hd0 : decide ((j : Int) < (L.length : Int)) = false := decide_eq_false (by omega)
    iterate 4 go_step
    refine wmk hK rfl rfl rfl rfl 4 rfl (fun _ => rfl) fun a168 h167 => ?_
    refine wmk h167 rfl rfl rfl rfl 0 rfl (fun _ => rfl) fun a170 h169 => ?_
    refine wv h169 rfl rfl rfl rfl (.int .i64 (L.length : Int)) (run_lenP rfl (h169.ev 7 rfl) _) fun a172 h171 => ?_
    refine wv h171 rfl rfl rfl rfl (.bool false) (by unfold execOp; simp only [h171.ev 6 rfl, h171.ev 8 rfl]; exact run_v (ltIP _ _ _ _ _ hd0)) fun a174 h173 => ?_
    refine wmk h173 rfl rfl rfl rfl 9 rfl (fun _ => rfl) fun a176 h175 => ?_
    refine wpk_skip h175 (by rw [wanted_of (g := 4) (want := true) (b := false) rfl (h175.yields (prev := 10) rfl (by simp))]; rfl) rfl (by decide) (fr rfl) fun a178 h177 => ?_
    refine wpk_skip h177 (by rw [wanted_of (g := 4) (want := true) (b := false) rfl (h177.yields (prev := 10) rfl (by simp))]; rfl) rfl (by decide) (fr rfl) fun a180 h179 => ?_
    refine wv h179 rfl rfl rfl rfl (.bool false) (run_pick rfl (h179.ev 10 rfl) rfl) fun a182 h181 => ?_
    have h183 := h181.subs (l' := [(13, _), (3, _), (4, _), (2, _), (0, _)]) rfl
    clear h181
    iterate 3 go_step
    refine wp_cond (t := false) (h183.ev 13 rfl) ?_
    simp only [Bool.false_eq_true, if_false]
    have h184 := h183.subs (l' := [(3, _), (4, _), (2, _), (0, _)]) rfl
    clear h183
    iterate 7 go_step
    refine wmk h184 rfl rfl rfl rfl 3 rfl (fun _ => rfl) fun a186 h185 => ?_
    have h187 := h185.subs (l' := [(32, _), (3, _), (4, _), (0, _)]) rfl
    clear h185
    refine wmk h187 rfl rfl rfl rfl 32 rfl (fun _ => rfl) fun a189 h188 => ?_
    have h190 := h188.subs (l' := [(2, _), (3, _), (4, _), (0, _)]) rfl
    clear h188
    iterate 4 go_step
    have he : cutP j 40 L = cutP 6 40 L := by unfold cutP; congr 1; rw [List.take_of_length_le (by omega), List.take_of_length_le (by omega)]
    rw [he] at HO
    refine bodyPost_ret (results_tmp1 rfl (h190.known (2, .slice la (cutP j 40 L).length lc) (by simp))) h190.defs ⟨la, lc, by rw [he], HO.out, HB.out⟩
end Go.Proofs.YtkhhoognemjibaaDoor
