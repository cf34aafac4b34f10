/- Merged: PlgEr PlgDr PlgSp. -/
import Derived.Test.YtcackliabemecaaGreatDoorPlgMa
import Derived.Test.YtcackliabemecaaGreatDoorPlgMb
import Derived.Test.YtcackliabemecaaGreatDoorPlgMd
import Derived.Test.YtcackliabemecaaGreatDoorPlgMe
/- The document's Encode. (genPlgEr.py) -/
namespace Go.Proofs.YtcackliabemecaaGreatDoor
open Go.RowKit
set_option linter.unusedSimpArgs false
set_option linter.unusedVariables false
set_option maxRecDepth 100000

def lenOfS : Value → Nat
  | .slice _ n _ => n
  | _ => 0
theorem fa46g_0 (g off : Nat) (w : World) : (Instr.fieldAt 47 (.pointer (some ⟨g, off, none⟩)) 0).run Tryz.prog w = .ok (.pointer (some ⟨g, off, none⟩)) w := rfl
theorem fa46g_1 (g off : Nat) (w : World) : (Instr.fieldAt 47 (.pointer (some ⟨g, off, none⟩)) 1).run Tryz.prog w = .ok (.pointer (some ⟨g, off + 1, none⟩)) w := rfl
theorem remIP (x y : Operand) (n : Nat) (w : World) : (do eqGuard .rem 3 x y (.int .i64 (n : Int)) (.int .i64 8); binOp .rem 3 (.int .i64 (n : Int)) (.int .i64 8) : Sem Value).run Tryz.prog w = .ok (.int .i64 ((n % 8 : Nat) : Int)) w := by
  have u3 := Tryz.underlying3
  have a3 := Tryz.isAgg3
  have z3 := Tryz.sizeOf3
  have e0 : (n : Int).tmod 8 = ((n % 8 : Nat) : Int) := rfl
  have e1 : IntKind.i64.wrap ((n % 8 : Nat) : Int) = ((n % 8 : Nat) : Int) := IntWalk.i64_in _ (by omega)
  go_simp
theorem buildB1 (w : World) : (Instr.buildSlice 26 1 #[(0, .int .u8 0)]).run Tryz.prog w = .ok (.slice (some ⟨w.heap.size, 0, none⟩) 1 1) (w.alloc (.cells #[.int .u8 0] 5)) := by
  have u3 := Tryz.underlying26
  have u9 := Tryz.underlying5
  have z3 := Tryz.sizeOf5
  go_simp
theorem rowPt_cells {w : World} {a : Option Addr} {c : Nat} {L : List PtM} (r : RowPt w a c L) {j : Nat} (hj : j < L.length) {pb poff : Nat} (ha : a = some ⟨pb, poff, none⟩) :
    w.cell? ⟨pb, poff + j * 2, none⟩ = some (.int .i64 L[j].at_) ∧ w.cell? ⟨pb, poff + j * 2 + 1, none⟩ = some (strB L[j].d) := by
  obtain ⟨b, off, e, h⟩ := rowPt_at r (by omega)
  rw [ha] at e
  cases e
  exact ⟨h j hj 0 _ rfl, h j hj 1 _ rfl⟩
theorem callP_35 (args : Array Value) (w : World) : (callFunc 54 args).run Tryz.prog w = .ok (.enter 54 args) w := by
  have h := Tryz.func54
  go_simp
theorem callP_36 (args : Array Value) (w : World) : (callFunc 69 args).run Tryz.prog w = .ok (.enter 69 args) w := by
  have h := Tryz.func69
  go_simp
theorem callP_37 (args : Array Value) (w : World) : (callFunc 70 args).run Tryz.prog w = .ok (.enter 70 args) w := by
  have h := Tryz.func70
  go_simp
theorem retEr {w W : World} {L : List PtM} {a : Act} (hb : Below w.heap.size w W) (hbad : encOk L = false) (hd : a.defers = []) (h2 : a.tmps[2]? = some (.slice none 0 0)) (h3 : a.tmps[3]? = some (.int .i64 1)) :
    bodyPost Tryz.prog Tryz.f51 (fun e w' => ∃ ba bc, e = .returned (.tuple #[.slice ba (encL L).length bc, .int .i64 (encE L)]) ∧ OwnB w' w.heap.size ba bc (encL L) ∧ Below w.heap.size w w') .ret a W := by
  refine bodyPost_ret (results_tmp2 rfl h2 h3) hd ?_
  have e1 : encL L = [] := by unfold encL; rw [if_neg (by rw [hbad]; decide)]
  have e2 : encE L = 1 := by unfold encE; rw [if_neg (by rw [hbad]; decide)]
  rw [e1, e2]
  exact ⟨none, 0, rfl, Own.nil _ _ _ _, hb⟩
set_option maxHeartbeats 4000000 in
theorem encodeR_any {w : World} {a : Option Addr} {c : Nat} {L : List PtM} (hL : RowPt w a c L) (okP : okPts L) (hl9 : L.length ≤ 9223372036854775807) :
    Calls Tryz.prog 51 #[.slice a L.length c] w fun e w' => ∃ ba bc, e = .returned (.tuple #[.slice ba (encL L).length bc, .int .i64 (encE L)]) ∧ OwnB w' w.heap.size ba bc (encL L) ∧ Below w.heap.size w w' := by
  have HL := hid hL
  clear hL
  go_enter Tryz.func51, Tryz.ntmps51
  iterate 3 go_step
  refine wpk_enter (N := 70) (l := [(0, .slice a L.length c)]) ⟨rfl, (by intro x hx; simp only [List.mem_cons, List.not_mem_nil, or_false] at hx; rcases hx with rfl <;> rfl), rfl⟩ fun a2 h1 => ?_
  refine wv h1 rfl rfl rfl rfl (.slice none 0 0) rfl fun a4 h3 => ?_
  refine wv h3 rfl rfl rfl rfl (.int .i64 0) rfl fun a6 h5 => ?_
  iterate 4 go_step
  by_cases hn : 64 < L.length
  · have hbig : decide ((64 : Int) < (L.length : Int)) = true := decide_eq_true (by omega)
    iterate 2 go_step
    refine wmk h5 rfl rfl rfl rfl 0 rfl (fun _ => rfl) fun a8 h7 => ?_
    refine wv h7 rfl rfl rfl rfl (.int .i64 (L.length : Int)) (run_lenP rfl (h7.ev 7 rfl) _) fun a10 h9 => ?_
    refine wv h9 rfl rfl rfl rfl (.bool true) (by unfold execOp; simp only [h9.ev 8 rfl]; exact run_v (gtIP _ _ _ _ _ hbig)) fun a12 h11 => ?_
    have h13 := h11.subs (l' := [(9, _), (3, _), (2, _), (0, _)]) rfl
    clear h11
    iterate 3 go_step
    refine wp_cond (t := true) (h13.ev 9 rfl) ?_
    simp only [if_true]
    have h14 := h13.subs (l' := [(3, _), (2, _), (0, _)]) rfl
    clear h13
    iterate 2 go_step
    have h15 := h14.subs (l' := [(3, _), (0, _)]) rfl
    clear h14
    refine wv h15 rfl rfl rfl rfl (.slice none 0 0) rfl fun a17 h16 => ?_
    have h18 := h16.subs (l' := [(2, _), (0, _)]) rfl
    clear h16
    refine wv h18 rfl rfl rfl rfl (.int .i64 1) rfl fun a20 h19 => ?_
    iterate 4 go_step
    simp only [Exit.then, Exit.inBlock]
    exact retEr (Below.refl _ _) (by unfold encOk; rw [Bool.and_eq_false_iff]; left; exact decide_eq_false (by omega)) h19.defs (h19.known (2, .slice none 0 0) (by simp)) (h19.known (3, .int .i64 1) (by simp))
  · have hbig : decide ((64 : Int) < (L.length : Int)) = false := decide_eq_false (by omega)
    have H0 := hid (Below.refl w.heap.size w)
    iterate 2 go_step
    refine wmk h5 rfl rfl rfl rfl 0 rfl (fun _ => rfl) fun a22 h21 => ?_
    refine wv h21 rfl rfl rfl rfl (.int .i64 (L.length : Int)) (run_lenP rfl (h21.ev 7 rfl) _) fun a24 h23 => ?_
    refine wv h23 rfl rfl rfl rfl (.bool false) (by unfold execOp; simp only [h23.ev 8 rfl]; exact run_v (gtIP _ _ _ _ _ hbig)) fun a26 h25 => ?_
    have h27 := h25.subs (l' := [(9, _), (3, _), (2, _), (0, _)]) rfl
    clear h25
    iterate 3 go_step
    refine wp_cond (t := false) (h27.ev 9 rfl) ?_
    simp only [Bool.false_eq_true, if_false]
    have h28 := h27.subs (l' := [(3, _), (2, _), (0, _)]) rfl
    clear h27
    iterate 5 go_step
    refine wmk h28 rfl rfl rfl rfl 0 rfl (fun _ => rfl) fun a30 h29 => ?_
    refine wv h29 rfl rfl rfl rfl (.int .i64 (L.length : Int)) (run_lenP rfl (h29.ev 10 rfl) _) fun a32 h31 => ?_
    refine wpk_call h31 (wanted_none rfl) rfl (by decide) (fr rfl) (fun args => callP_35 args _) rfl #[.slice none 0 0, .int .i64 (L.length : Int), .int .i64 2] (by simp only [List.map_toArray, List.map_cons, List.map_nil, h31.ev 11 rfl]; rfl) (R := fun v w' => ∃ a2 c2, v = .slice a2 (putF [] (L.length : Int) 2).length c2 ∧ OwnB w' w.heap.size a2 c2 (putF [] (L.length : Int) 2) ∧ Below w.heap.size w w') ((putRef_any none 0 [] (L.length : Int) 2 w (Row.nil _ _) (by simp) (by omega)).mono fun e w' q => by obtain ⟨a2, c2, q1, q2, q3⟩ := q; exact ⟨_, q1, a2, c2, rfl, q2, q3⟩) fun a34 v0 w0 r0 h33 => ?_
    obtain ⟨ba0, bc0, rfl, o0, b0⟩ := r0
    obtain ⟨e0, he0⟩ : ∃ x, x = putF [] (L.length : Int) 2 := ⟨_, rfl⟩
    have le0 : e0.length ≤ ([] : List UInt8).length + 2 := by rw [he0]; exact putF_lenA _ _ 2
    rw [← he0] at o0 h33
    have HO0 := hid (o0.low H0.out.size); have HB0 := hid (kept_trans H0.out b0); have HE0 := hid he0; clear o0 b0 he0
    refine wmk h33 rfl rfl rfl rfl 12 rfl (fun _ => rfl) fun a36 h35 => ?_
    have h37 := h35.subs (l' := [(4, _), (3, _), (2, _), (0, _)]) rfl
    clear h35
    iterate 6 go_step
    refine wv h37 rfl rfl rfl rfl (.int .i64 0) rfl fun a39 h38 => ?_
    iterate 4 go_step
    have h40 := h38.subs (l' := [(4, _), (5, _), (3, _), (2, _), (0, _)]) rfl
    clear h38
    have hl0 : e0.length ≤ 2 + 262 * 0 := by simpa using le0
    refine wp_loop (I := fun a' w' => ∃ (j : Nat) (eb : List UInt8) (ba : Option Addr) (bc : Nat), j ≤ L.length ∧ Kn 70 [(4, .slice ba eb.length bc), (5, .int .i64 (j : Int)), (3, .int .i64 0), (2, .slice none 0 0), (0, .slice a L.length c)] a' ∧ eb = (L.take j).foldl encP1 (putF [] L.length 2) ∧ (L.take j).all okPt = true ∧ eb.length ≤ 2 + 262 * j ∧ OwnB w' w.heap.size ba bc eb ∧ Below w.heap.size w w') (μ := fun a' _ => L.length - (intOf (a'.eval (.tmp 5))).toNat) ⟨0, e0, ba0, bc0, by omega, h40, (by rw [List.take_zero, List.foldl_nil]; exact HE0.out), (by rw [List.take_zero, List.all_nil]), hl0, HO0.out, HB0.out⟩ ?_
    clear HO0 HB0 HE0 hl0 le0 h40
    rintro aL aw ⟨j, eb, ba, bc, hj, hK, heb, hall, hle, ho, hb⟩
    have HO := hid ho; have HB := hid hb; have HEB := hid heb; have HAL := hid hall; clear ho hb heb hall
    by_cases hlt : j < L.length
    · have hd0 : decide ((j : Int) < (L.length : Int)) = true := decide_eq_true (by omega)
      obtain ⟨pb, poff, ha0, _⟩ := rowPt_at (HL.out.mono HB.out) (by omega)
      have hsp := okP L[j] (List.getElem_mem hlt)
      obtain ⟨p, hp⟩ : ∃ p, p = L[j] := ⟨_, rfl⟩
      rw [← hp] at hsp
      unfold okI at hsp
      have HPJ := hid hp; clear hp
      have hclaw := rowPt_cells (HL.out.mono HB.out) hlt ha0; rw [← HPJ.out] at hclaw
      cases hfit : fitsB p.at_ 4 with
      | false =>
        iterate 4 go_step
        refine wmk hK rfl rfl rfl rfl 5 rfl (fun _ => rfl) fun a42 h41 => ?_
        refine wmk h41 rfl rfl rfl rfl 0 rfl (fun _ => rfl) fun a44 h43 => ?_
        refine wv h43 rfl rfl rfl rfl (.int .i64 (L.length : Int)) (run_lenP rfl (h43.ev 14 rfl) _) fun a46 h45 => ?_
        refine wv h45 rfl rfl rfl rfl (.bool true) (by unfold execOp; simp only [h45.ev 13 rfl, h45.ev 15 rfl]; exact run_v (ltIP _ _ _ _ _ hd0)) fun a48 h47 => ?_
        have h49 := h47.subs (l' := [(16, _), (4, _), (5, _), (3, _), (2, _), (0, _)]) rfl
        clear h47
        iterate 3 go_step
        refine wp_cond (t := true) (h49.ev 16 rfl) ?_
        simp only [if_true]
        have h50 := h49.subs (l' := [(4, _), (5, _), (3, _), (2, _), (0, _)]) rfl
        clear h49
        iterate 7 go_step
        refine wmk h50 rfl rfl rfl rfl 0 rfl (fun _ => rfl) fun a52 h51 => ?_
        refine wmk h51 rfl rfl rfl rfl 5 rfl (fun _ => rfl) fun a54 h53 => ?_
        refine wv h53 rfl rfl rfl rfl (.pointer (some ⟨pb, poff + j * 2, none⟩)) (by unfold execOp; simp only [h53.ev 19 rfl, h53.ev 20 rfl]; exact run_v (by rw [ha0]; exact ixP pb poff _ c j hlt _)) fun a56 h55 => ?_
        refine wv h55 rfl rfl rfl rfl (.pointer (some ⟨pb, poff + j * 2, none⟩)) (by unfold execOp; simp only [h55.ev 21 rfl]; exact run_v (fa46g_0 _ _ _)) fun a58 h57 => ?_
        refine wv h57 rfl rfl rfl rfl (.int .i64 p.at_) (by unfold execOp; simp only [h57.ev 22 rfl]; exact run_v (loadIP hclaw.1)) fun a60 h59 => ?_
        refine wpk_call h59 (wanted_none rfl) rfl (by decide) (fr rfl) (fun args => callP_36 args _) rfl #[.int .i64 p.at_, .int .i64 4] (by simp only [List.map_toArray, List.map_cons, List.map_nil, h59.ev 23 rfl]; rfl) (R := fun v w' => v = .bool (fitsB p.at_ 4) ∧ aw = w') ((fitsRef_any p.at_ 4 aw).mono fun e w' q => ⟨_, q.1, rfl, q.2⟩) fun a62 vf wf rf h61 => ?_
        obtain ⟨rfl, rfl⟩ := rf
        rw [hfit] at h61
        refine wmk h61 rfl rfl rfl rfl 24 rfl (fun _ => rfl) fun a64 h63 => ?_
        have h65 := h63.subs (l' := [(6, _), (4, _), (5, _), (3, _), (2, _), (0, _)]) rfl
        clear h63
        iterate 6 go_step
        refine wmk h65 rfl rfl rfl rfl 6 rfl (fun _ => rfl) fun a67 h66 => ?_
        refine wv h66 rfl rfl rfl rfl (.bool true) (run_not rfl (h66.ev 25 rfl)) fun a69 h68 => ?_
        refine wmk h68 rfl rfl rfl rfl 26 rfl (fun _ => rfl) fun a71 h70 => ?_
        refine wpk_skip h70 (by rw [wanted_of (g := 2) (want := false) (b := true) rfl (h70.yields (prev := 27) rfl (by simp))]; rfl) rfl (by decide) (fr rfl) fun a73 h72 => ?_
        refine wpk_skip h72 (by rw [wanted_of (g := 2) (want := false) (b := true) rfl (h72.yields (prev := 27) rfl (by simp))]; rfl) rfl (by decide) (fr rfl) fun a75 h74 => ?_
        refine wpk_skip h74 (by rw [wanted_of (g := 2) (want := false) (b := true) rfl (h74.yields (prev := 27) rfl (by simp))]; rfl) rfl (by decide) (fr rfl) fun a77 h76 => ?_
        refine wpk_skip h76 (by rw [wanted_of (g := 2) (want := false) (b := true) rfl (h76.yields (prev := 27) rfl (by simp))]; rfl) rfl (by decide) (fr rfl) fun a79 h78 => ?_
        refine wpk_skip h78 (by rw [wanted_of (g := 2) (want := false) (b := true) rfl (h78.yields (prev := 27) rfl (by simp))]; rfl) rfl (by decide) (fr rfl) fun a81 h80 => ?_
        refine wpk_skip h80 (by rw [wanted_of (g := 2) (want := false) (b := true) rfl (h80.yields (prev := 27) rfl (by simp))]; rfl) rfl (by decide) (fr rfl) fun a83 h82 => ?_
        refine wpk_skip h82 (by rw [wanted_of (g := 2) (want := false) (b := true) rfl (h82.yields (prev := 27) rfl (by simp))]; rfl) rfl (by decide) (fr rfl) fun a85 h84 => ?_
        refine wv h84 rfl rfl rfl rfl (.bool true) (run_pick rfl (h84.ev 27 rfl) rfl) fun a87 h86 => ?_
        have h88 := h86.subs (l' := [(35, _), (6, _), (4, _), (5, _), (3, _), (2, _), (0, _)]) rfl
        clear h86
        iterate 3 go_step
        refine wp_cond (t := true) (h88.ev 35 rfl) ?_
        simp only [if_true]
        have h89 := h88.subs (l' := [(6, _), (4, _), (5, _), (3, _), (2, _), (0, _)]) rfl
        clear h88
        iterate 2 go_step
        have h90 := h89.subs (l' := [(6, _), (4, _), (5, _), (3, _), (0, _)]) rfl
        clear h89
        refine wv h90 rfl rfl rfl rfl (.slice none 0 0) rfl fun a92 h91 => ?_
        have h93 := h91.subs (l' := [(2, _), (6, _), (4, _), (5, _), (0, _)]) rfl
        clear h91
        refine wv h93 rfl rfl rfl rfl (.int .i64 1) rfl fun a95 h94 => ?_
        iterate 4 go_step
        simp only [Exit.then, Exit.inBlock]
        have hbad : encOk L = false := by unfold encOk; rw [Bool.and_eq_false_iff]; right; rw [List.all_eq_false]; exact ⟨L[j], List.getElem_mem hlt, by rw [← HPJ.out]; unfold okPt; simp [hfit]⟩
        exact retEr HB.out hbad h94.defs (h94.known (2, .slice none 0 0) (by simp)) (h94.known (3, .int .i64 1) (by simp))
      | true =>
        by_cases hl2 : 256 < p.d.length
        · have hlong : decide ((256 : Int) < (p.d.length : Int)) = true := decide_eq_true (by omega)
          iterate 4 go_step
          refine wmk hK rfl rfl rfl rfl 5 rfl (fun _ => rfl) fun a97 h96 => ?_
          refine wmk h96 rfl rfl rfl rfl 0 rfl (fun _ => rfl) fun a99 h98 => ?_
          refine wv h98 rfl rfl rfl rfl (.int .i64 (L.length : Int)) (run_lenP rfl (h98.ev 14 rfl) _) fun a101 h100 => ?_
          refine wv h100 rfl rfl rfl rfl (.bool true) (by unfold execOp; simp only [h100.ev 13 rfl, h100.ev 15 rfl]; exact run_v (ltIP _ _ _ _ _ hd0)) fun a103 h102 => ?_
          have h104 := h102.subs (l' := [(16, _), (4, _), (5, _), (3, _), (2, _), (0, _)]) rfl
          clear h102
          iterate 3 go_step
          refine wp_cond (t := true) (h104.ev 16 rfl) ?_
          simp only [if_true]
          have h105 := h104.subs (l' := [(4, _), (5, _), (3, _), (2, _), (0, _)]) rfl
          clear h104
          iterate 7 go_step
          refine wmk h105 rfl rfl rfl rfl 0 rfl (fun _ => rfl) fun a107 h106 => ?_
          refine wmk h106 rfl rfl rfl rfl 5 rfl (fun _ => rfl) fun a109 h108 => ?_
          refine wv h108 rfl rfl rfl rfl (.pointer (some ⟨pb, poff + j * 2, none⟩)) (by unfold execOp; simp only [h108.ev 19 rfl, h108.ev 20 rfl]; exact run_v (by rw [ha0]; exact ixP pb poff _ c j hlt _)) fun a111 h110 => ?_
          refine wv h110 rfl rfl rfl rfl (.pointer (some ⟨pb, poff + j * 2, none⟩)) (by unfold execOp; simp only [h110.ev 21 rfl]; exact run_v (fa46g_0 _ _ _)) fun a113 h112 => ?_
          refine wv h112 rfl rfl rfl rfl (.int .i64 p.at_) (by unfold execOp; simp only [h112.ev 22 rfl]; exact run_v (loadIP hclaw.1)) fun a115 h114 => ?_
          refine wpk_call h114 (wanted_none rfl) rfl (by decide) (fr rfl) (fun args => callP_36 args _) rfl #[.int .i64 p.at_, .int .i64 4] (by simp only [List.map_toArray, List.map_cons, List.map_nil, h114.ev 23 rfl]; rfl) (R := fun v w' => v = .bool (fitsB p.at_ 4) ∧ aw = w') ((fitsRef_any p.at_ 4 aw).mono fun e w' q => ⟨_, q.1, rfl, q.2⟩) fun a117 vf wf rf h116 => ?_
          obtain ⟨rfl, rfl⟩ := rf
          rw [hfit] at h116
          refine wmk h116 rfl rfl rfl rfl 24 rfl (fun _ => rfl) fun a119 h118 => ?_
          have h120 := h118.subs (l' := [(6, _), (4, _), (5, _), (3, _), (2, _), (0, _)]) rfl
          clear h118
          iterate 6 go_step
          refine wmk h120 rfl rfl rfl rfl 6 rfl (fun _ => rfl) fun a122 h121 => ?_
          refine wv h121 rfl rfl rfl rfl (.bool false) (run_not rfl (h121.ev 25 rfl)) fun a124 h123 => ?_
          refine wmk h123 rfl rfl rfl rfl 26 rfl (fun _ => rfl) fun a126 h125 => ?_
          refine wpk_val h125 (by rw [wanted_of (g := 2) (want := false) (b := false) rfl (h125.yields (prev := 27) rfl (by simp))]; rfl) rfl (by decide) (fr rfl) (.slice a L.length c) (by unfold execOp; simp only [h125.ev 0 rfl]; rfl) fun a128 h127 => ?_
          refine wpk_val h127 (by rw [wanted_of (g := 2) (want := false) (b := false) rfl (h127.yields (prev := 27) rfl (by simp))]; rfl) rfl (by decide) (fr rfl) (.int .i64 (j : Int)) (by unfold execOp; simp only [h127.ev 5 rfl]; rfl) fun a130 h129 => ?_
          refine wpk_val h129 (by rw [wanted_of (g := 2) (want := false) (b := false) rfl (h129.yields (prev := 27) rfl (by simp))]; rfl) rfl (by decide) (fr rfl) (.pointer (some ⟨pb, poff + j * 2, none⟩)) (by unfold execOp; simp only [h129.ev 28 rfl, h129.ev 29 rfl]; exact run_v (by rw [ha0]; exact ixP pb poff _ c j hlt _)) fun a132 h131 => ?_
          refine wpk_val h131 (by rw [wanted_of (g := 2) (want := false) (b := false) rfl (h131.yields (prev := 27) rfl (by simp))]; rfl) rfl (by decide) (fr rfl) (.pointer (some ⟨pb, poff + j * 2 + 1, none⟩)) (by unfold execOp; simp only [h131.ev 30 rfl]; exact run_v (fa46g_1 _ _ _)) fun a134 h133 => ?_
          refine wpk_val h133 (by rw [wanted_of (g := 2) (want := false) (b := false) rfl (h133.yields (prev := 27) rfl (by simp))]; rfl) rfl (by decide) (fr rfl) (strB p.d) (by unfold execOp; simp only [h133.ev 31 rfl]; exact run_v (loadSP hclaw.2)) fun a136 h135 => ?_
          refine wpk_val h135 (by rw [wanted_of (g := 2) (want := false) (b := false) rfl (h135.yields (prev := 27) rfl (by simp))]; rfl) rfl (by decide) (fr rfl) (.int .i64 (p.d.length : Int)) (run_lenSP rfl (h135.ev 32 rfl) _) fun a138 h137 => ?_
          refine wpk_val h137 (by rw [wanted_of (g := 2) (want := false) (b := false) rfl (h137.yields (prev := 27) rfl (by simp))]; rfl) rfl (by decide) (fr rfl) (.bool true) (by unfold execOp; simp only [h137.ev 33 rfl]; exact run_v (gtIP _ _ _ _ _ hlong)) fun a140 h139 => ?_
          refine wv h139 rfl rfl rfl rfl (.bool true) (run_pick rfl (h139.ev 27 rfl) (by rw [if_neg (by simp)]; exact h139.ev 34 rfl)) fun a142 h141 => ?_
          have h143 := h141.subs (l' := [(35, _), (6, _), (4, _), (5, _), (3, _), (2, _), (0, _)]) rfl
          clear h141
          iterate 3 go_step
          refine wp_cond (t := true) (h143.ev 35 rfl) ?_
          simp only [if_true]
          have h144 := h143.subs (l' := [(6, _), (4, _), (5, _), (3, _), (2, _), (0, _)]) rfl
          clear h143
          iterate 2 go_step
          have h145 := h144.subs (l' := [(6, _), (4, _), (5, _), (3, _), (0, _)]) rfl
          clear h144
          refine wv h145 rfl rfl rfl rfl (.slice none 0 0) rfl fun a147 h146 => ?_
          have h148 := h146.subs (l' := [(2, _), (6, _), (4, _), (5, _), (0, _)]) rfl
          clear h146
          refine wv h148 rfl rfl rfl rfl (.int .i64 1) rfl fun a150 h149 => ?_
          iterate 4 go_step
          simp only [Exit.then, Exit.inBlock]
          have hbad : encOk L = false := by unfold encOk; rw [Bool.and_eq_false_iff]; right; rw [List.all_eq_false]; exact ⟨L[j], List.getElem_mem hlt, by rw [← HPJ.out]; unfold okPt; simp [hl2]⟩
          exact retEr HB.out hbad h149.defs (h149.known (2, .slice none 0 0) (by simp)) (h149.known (3, .int .i64 1) (by simp))
        · have hlong : decide ((256 : Int) < (p.d.length : Int)) = false := decide_eq_false (by omega)
          iterate 4 go_step
          refine wmk hK rfl rfl rfl rfl 5 rfl (fun _ => rfl) fun a152 h151 => ?_
          refine wmk h151 rfl rfl rfl rfl 0 rfl (fun _ => rfl) fun a154 h153 => ?_
          refine wv h153 rfl rfl rfl rfl (.int .i64 (L.length : Int)) (run_lenP rfl (h153.ev 14 rfl) _) fun a156 h155 => ?_
          refine wv h155 rfl rfl rfl rfl (.bool true) (by unfold execOp; simp only [h155.ev 13 rfl, h155.ev 15 rfl]; exact run_v (ltIP _ _ _ _ _ hd0)) fun a158 h157 => ?_
          have h159 := h157.subs (l' := [(16, _), (4, _), (5, _), (3, _), (2, _), (0, _)]) rfl
          clear h157
          iterate 3 go_step
          refine wp_cond (t := true) (h159.ev 16 rfl) ?_
          simp only [if_true]
          have h160 := h159.subs (l' := [(4, _), (5, _), (3, _), (2, _), (0, _)]) rfl
          clear h159
          iterate 7 go_step
          refine wmk h160 rfl rfl rfl rfl 0 rfl (fun _ => rfl) fun a162 h161 => ?_
          refine wmk h161 rfl rfl rfl rfl 5 rfl (fun _ => rfl) fun a164 h163 => ?_
          refine wv h163 rfl rfl rfl rfl (.pointer (some ⟨pb, poff + j * 2, none⟩)) (by unfold execOp; simp only [h163.ev 19 rfl, h163.ev 20 rfl]; exact run_v (by rw [ha0]; exact ixP pb poff _ c j hlt _)) fun a166 h165 => ?_
          refine wv h165 rfl rfl rfl rfl (.pointer (some ⟨pb, poff + j * 2, none⟩)) (by unfold execOp; simp only [h165.ev 21 rfl]; exact run_v (fa46g_0 _ _ _)) fun a168 h167 => ?_
          refine wv h167 rfl rfl rfl rfl (.int .i64 p.at_) (by unfold execOp; simp only [h167.ev 22 rfl]; exact run_v (loadIP hclaw.1)) fun a170 h169 => ?_
          refine wpk_call h169 (wanted_none rfl) rfl (by decide) (fr rfl) (fun args => callP_36 args _) rfl #[.int .i64 p.at_, .int .i64 4] (by simp only [List.map_toArray, List.map_cons, List.map_nil, h169.ev 23 rfl]; rfl) (R := fun v w' => v = .bool (fitsB p.at_ 4) ∧ aw = w') ((fitsRef_any p.at_ 4 aw).mono fun e w' q => ⟨_, q.1, rfl, q.2⟩) fun a172 vf wf rf h171 => ?_
          obtain ⟨rfl, rfl⟩ := rf
          rw [hfit] at h171
          refine wmk h171 rfl rfl rfl rfl 24 rfl (fun _ => rfl) fun a174 h173 => ?_
          have h175 := h173.subs (l' := [(6, _), (4, _), (5, _), (3, _), (2, _), (0, _)]) rfl
          clear h173
          iterate 6 go_step
          refine wmk h175 rfl rfl rfl rfl 6 rfl (fun _ => rfl) fun a177 h176 => ?_
          refine wv h176 rfl rfl rfl rfl (.bool false) (run_not rfl (h176.ev 25 rfl)) fun a179 h178 => ?_
          refine wmk h178 rfl rfl rfl rfl 26 rfl (fun _ => rfl) fun a181 h180 => ?_
          refine wpk_val h180 (by rw [wanted_of (g := 2) (want := false) (b := false) rfl (h180.yields (prev := 27) rfl (by simp))]; rfl) rfl (by decide) (fr rfl) (.slice a L.length c) (by unfold execOp; simp only [h180.ev 0 rfl]; rfl) fun a183 h182 => ?_
          refine wpk_val h182 (by rw [wanted_of (g := 2) (want := false) (b := false) rfl (h182.yields (prev := 27) rfl (by simp))]; rfl) rfl (by decide) (fr rfl) (.int .i64 (j : Int)) (by unfold execOp; simp only [h182.ev 5 rfl]; rfl) fun a185 h184 => ?_
          refine wpk_val h184 (by rw [wanted_of (g := 2) (want := false) (b := false) rfl (h184.yields (prev := 27) rfl (by simp))]; rfl) rfl (by decide) (fr rfl) (.pointer (some ⟨pb, poff + j * 2, none⟩)) (by unfold execOp; simp only [h184.ev 28 rfl, h184.ev 29 rfl]; exact run_v (by rw [ha0]; exact ixP pb poff _ c j hlt _)) fun a187 h186 => ?_
          refine wpk_val h186 (by rw [wanted_of (g := 2) (want := false) (b := false) rfl (h186.yields (prev := 27) rfl (by simp))]; rfl) rfl (by decide) (fr rfl) (.pointer (some ⟨pb, poff + j * 2 + 1, none⟩)) (by unfold execOp; simp only [h186.ev 30 rfl]; exact run_v (fa46g_1 _ _ _)) fun a189 h188 => ?_
          refine wpk_val h188 (by rw [wanted_of (g := 2) (want := false) (b := false) rfl (h188.yields (prev := 27) rfl (by simp))]; rfl) rfl (by decide) (fr rfl) (strB p.d) (by unfold execOp; simp only [h188.ev 31 rfl]; exact run_v (loadSP hclaw.2)) fun a191 h190 => ?_
          refine wpk_val h190 (by rw [wanted_of (g := 2) (want := false) (b := false) rfl (h190.yields (prev := 27) rfl (by simp))]; rfl) rfl (by decide) (fr rfl) (.int .i64 (p.d.length : Int)) (run_lenSP rfl (h190.ev 32 rfl) _) fun a193 h192 => ?_
          refine wpk_val h192 (by rw [wanted_of (g := 2) (want := false) (b := false) rfl (h192.yields (prev := 27) rfl (by simp))]; rfl) rfl (by decide) (fr rfl) (.bool false) (by unfold execOp; simp only [h192.ev 33 rfl]; exact run_v (gtIP _ _ _ _ _ hlong)) fun a195 h194 => ?_
          refine wv h194 rfl rfl rfl rfl (.bool false) (run_pick rfl (h194.ev 27 rfl) (by rw [if_neg (by simp)]; exact h194.ev 34 rfl)) fun a197 h196 => ?_
          have h198 := h196.subs (l' := [(35, _), (6, _), (4, _), (5, _), (3, _), (2, _), (0, _)]) rfl
          clear h196
          iterate 3 go_step
          refine wp_cond (t := false) (h198.ev 35 rfl) ?_
          simp only [Bool.false_eq_true, if_false]
          have h199 := h198.subs (l' := [(6, _), (4, _), (5, _), (3, _), (2, _), (0, _)]) rfl
          clear h198
          iterate 5 go_step
          refine wmk h199 rfl rfl rfl rfl 4 rfl (fun _ => rfl) fun a201 h200 => ?_
          refine wmk h200 rfl rfl rfl rfl 0 rfl (fun _ => rfl) fun a203 h202 => ?_
          refine wmk h202 rfl rfl rfl rfl 5 rfl (fun _ => rfl) fun a205 h204 => ?_
          refine wv h204 rfl rfl rfl rfl (.pointer (some ⟨pb, poff + j * 2, none⟩)) (by unfold execOp; simp only [h204.ev 37 rfl, h204.ev 38 rfl]; exact run_v (by rw [ha0]; exact ixP pb poff _ c j hlt _)) fun a207 h206 => ?_
          refine wv h206 rfl rfl rfl rfl (.pointer (some ⟨pb, poff + j * 2, none⟩)) (by unfold execOp; simp only [h206.ev 39 rfl]; exact run_v (fa46g_0 _ _ _)) fun a209 h208 => ?_
          refine wv h208 rfl rfl rfl rfl (.int .i64 p.at_) (by unfold execOp; simp only [h208.ev 40 rfl]; exact run_v (loadIP hclaw.1)) fun a211 h210 => ?_
          refine wpk_call h210 (wanted_none rfl) rfl (by decide) (fr rfl) (fun args => callP_35 args _) rfl #[.slice ba eb.length bc, .int .i64 p.at_, .int .i64 4] (by simp only [List.map_toArray, List.map_cons, List.map_nil, h210.ev 36 rfl, h210.ev 41 rfl]; rfl) (R := fun v w' => ∃ a2 c2, v = .slice a2 (putF eb p.at_ 4).length c2 ∧ OwnB w' aw.heap.size a2 c2 (putF eb p.at_ 4) ∧ Below aw.heap.size aw w') ((putRef_any ba bc eb p.at_ 4 aw HO.out.row (by omega) (by omega)).mono fun e w' q => by obtain ⟨a2, c2, q1, q2, q3⟩ := q; exact ⟨_, q1, a2, c2, rfl, q2, q3⟩) fun a213 v1 w1 r1 h212 => ?_
          obtain ⟨ba1, bc1, rfl, o1, b1⟩ := r1
          obtain ⟨e1, he1⟩ : ∃ x, x = putF eb p.at_ 4 := ⟨_, rfl⟩
          have le1 : e1.length ≤ (eb : List UInt8).length + 4 := by rw [he1]; exact putF_lenA _ _ 4
          rw [← he1] at o1 h212
          have HO1 := hid (o1.low HB.out.size); have HB1 := hid (kept_trans HB.out b1); have HE1 := hid he1; clear o1 b1 he1
          have hclw1 := rowPt_cells (HL.out.mono HB1.out) hlt ha0; rw [← HPJ.out] at hclw1
          have h214 := h212.subs (l' := [(42, _), (41, _), (40, _), (39, _), (38, _), (37, _), (36, _), (6, _), (5, _), (3, _), (2, _), (0, _)]) rfl
          clear h212
          refine wmk h214 rfl rfl rfl rfl 42 rfl (fun _ => rfl) fun a216 h215 => ?_
          have h217 := h215.subs (l' := [(4, _), (6, _), (5, _), (3, _), (2, _), (0, _)]) rfl
          clear h215
          iterate 5 go_step
          refine wmk h217 rfl rfl rfl rfl 4 rfl (fun _ => rfl) fun a219 h218 => ?_
          refine wmk h218 rfl rfl rfl rfl 0 rfl (fun _ => rfl) fun a221 h220 => ?_
          refine wmk h220 rfl rfl rfl rfl 5 rfl (fun _ => rfl) fun a223 h222 => ?_
          refine wv h222 rfl rfl rfl rfl (.pointer (some ⟨pb, poff + j * 2, none⟩)) (by unfold execOp; simp only [h222.ev 44 rfl, h222.ev 45 rfl]; exact run_v (by rw [ha0]; exact ixP pb poff _ c j hlt _)) fun a225 h224 => ?_
          refine wv h224 rfl rfl rfl rfl (.pointer (some ⟨pb, poff + j * 2 + 1, none⟩)) (by unfold execOp; simp only [h224.ev 46 rfl]; exact run_v (fa46g_1 _ _ _)) fun a227 h226 => ?_
          refine wv h226 rfl rfl rfl rfl (strB p.d) (by unfold execOp; simp only [h226.ev 47 rfl]; exact run_v (loadSP hclw1.2)) fun a229 h228 => ?_
          refine wv h228 rfl rfl rfl rfl (.int .i64 (p.d.length : Int)) (run_lenSP rfl (h228.ev 48 rfl) _) fun a231 h230 => ?_
          refine wpk_call h230 (wanted_none rfl) rfl (by decide) (fr rfl) (fun args => callP_35 args _) rfl #[.slice ba1 e1.length bc1, .int .i64 (p.d.length : Int), .int .i64 2] (by simp only [List.map_toArray, List.map_cons, List.map_nil, h230.ev 43 rfl, h230.ev 49 rfl]; rfl) (R := fun v w' => ∃ a2 c2, v = .slice a2 (putF e1 (p.d.length : Int) 2).length c2 ∧ OwnB w' w1.heap.size a2 c2 (putF e1 (p.d.length : Int) 2) ∧ Below w1.heap.size w1 w') ((putRef_any ba1 bc1 e1 (p.d.length : Int) 2 w1 HO1.out.row (by omega) (by omega)).mono fun e w' q => by obtain ⟨a2, c2, q1, q2, q3⟩ := q; exact ⟨_, q1, a2, c2, rfl, q2, q3⟩) fun a233 v2 w2 r2 h232 => ?_
          obtain ⟨ba2, bc2, rfl, o2, b2⟩ := r2
          obtain ⟨e2, he2⟩ : ∃ x, x = putF e1 (p.d.length : Int) 2 := ⟨_, rfl⟩
          have le2 : e2.length ≤ (e1 : List UInt8).length + 2 := by rw [he2]; exact putF_lenA _ _ 2
          rw [← he2] at o2 h232
          have HO2 := hid (o2.low HB1.out.size); have HB2 := hid (kept_trans HB1.out b2); have HE2 := hid he2; clear o2 b2 he2
          have hclw2 := rowPt_cells (HL.out.mono HB2.out) hlt ha0; rw [← HPJ.out] at hclw2
          have h234 := h232.subs (l' := [(50, _), (49, _), (48, _), (47, _), (46, _), (45, _), (44, _), (43, _), (6, _), (5, _), (3, _), (2, _), (0, _)]) rfl
          clear h232
          refine wmk h234 rfl rfl rfl rfl 50 rfl (fun _ => rfl) fun a236 h235 => ?_
          have h237 := h235.subs (l' := [(4, _), (6, _), (5, _), (3, _), (2, _), (0, _)]) rfl
          clear h235
          iterate 4 go_step
          refine wmk h237 rfl rfl rfl rfl 4 rfl (fun _ => rfl) fun a239 h238 => ?_
          refine wmk h238 rfl rfl rfl rfl 0 rfl (fun _ => rfl) fun a241 h240 => ?_
          refine wmk h240 rfl rfl rfl rfl 5 rfl (fun _ => rfl) fun a243 h242 => ?_
          refine wv h242 rfl rfl rfl rfl (.pointer (some ⟨pb, poff + j * 2, none⟩)) (by unfold execOp; simp only [h242.ev 52 rfl, h242.ev 53 rfl]; exact run_v (by rw [ha0]; exact ixP pb poff _ c j hlt _)) fun a245 h244 => ?_
          refine wv h244 rfl rfl rfl rfl (.pointer (some ⟨pb, poff + j * 2 + 1, none⟩)) (by unfold execOp; simp only [h244.ev 54 rfl]; exact run_v (fa46g_1 _ _ _)) fun a247 h246 => ?_
          refine wv h246 rfl rfl rfl rfl (strB p.d) (by unfold execOp; simp only [h246.ev 55 rfl]; exact run_v (loadSP hclw2.2)) fun a249 h248 => ?_
          refine wpl_append_str rfl (.tmp 51) (.tmp 56) rfl Tryz.underlying26 Tryz.underlying9 (by kernel_rfl) w.heap.size (h248.ev 51 rfl) (h248.ev 56 rfl) HO2.out (by rw [bsB_size]; omega) HB2.out.size ?_
          intro ba3 bc3 w3 o3 g3 b3
          rw [bsB_size, bsB_list] at o3
          rw [bsB_size]
          refine wpk_enter (h248.put (d := 57) (by decide) (fr rfl) (.slice ba3 (e2.length + p.d.length) bc3)) fun a251 h250 => ?_
          have HO3 : Hid (OwnB w3 w.heap.size ba3 bc3 (e2 ++ p.d)) := hid (by unfold OwnB; rw [List.length_append, List.map_append]; exact o3)
          have HB3 := hid (HB2.out.trans b3); clear o3 g3 b3
          have h252 := h250.subs (l' := [(57, _), (56, _), (55, _), (54, _), (53, _), (52, _), (51, _), (6, _), (5, _), (3, _), (2, _), (0, _)]) rfl
          clear h250
          refine wmk h252 rfl rfl rfl rfl 57 rfl (fun _ => rfl) fun a254 h253 => ?_
          have h255 := h253.subs (l' := [(4, _), (6, _), (5, _), (3, _), (2, _), (0, _)]) rfl
          clear h253
          iterate 4 go_step
          refine wmk h255 rfl rfl rfl rfl 5 rfl (fun _ => rfl) fun a257 h256 => ?_
          refine wv h256 rfl rfl rfl rfl (.int .i64 ((j + 1 : Nat) : Int)) (by unfold execOp; simp only [h256.ev 17 rfl]; exact run_v (addIP _ _ j (by omega) _)) fun a259 h258 => ?_
          have h260 := h258.subs (l' := [(18, _), (17, _), (4, _), (6, _), (3, _), (2, _), (0, _)]) rfl
          clear h258
          refine wmk h260 rfl rfl rfl rfl 18 rfl (fun _ => rfl) fun a262 h261 => ?_
          have h263 := h261.subs (l' := [(5, _), (4, _), (6, _), (3, _), (2, _), (0, _)]) rfl
          clear h261
          iterate 2 go_step
          refine ⟨⟨j + 1, e2 ++ p.d, ba3, bc3, by omega, by rw [List.length_append]; exact h263.subs rfl, ?_, ?_, ?_, HO3.out, HB3.out⟩, ?_⟩
          · rw [List.take_add_one, List.getElem?_eq_getElem hlt, Option.toList_some, List.foldl_append, ← HEB.out, ← HPJ.out]; show _ = encP1 eb p; unfold encP1; rw [HE2.out, HE1.out]
          · rw [List.take_add_one, List.getElem?_eq_getElem hlt, Option.toList_some, List.all_append, HAL.out, ← HPJ.out]; simp [okPt, hfit]; omega
          · rw [List.length_append]; omega
          · rw [h263.ev 5 rfl, hK.ev 5 rfl]; simp [intOf]; omega
    · have hd0 : decide ((j : Int) < (L.length : Int)) = false := decide_eq_false (by omega)
      obtain rfl : j = L.length := by omega
      iterate 4 go_step
      refine wmk hK rfl rfl rfl rfl 5 rfl (fun _ => rfl) fun a265 h264 => ?_
      refine wmk h264 rfl rfl rfl rfl 0 rfl (fun _ => rfl) fun a267 h266 => ?_
      refine wv h266 rfl rfl rfl rfl (.int .i64 (L.length : Int)) (run_lenP rfl (h266.ev 14 rfl) _) fun a269 h268 => ?_
      refine wv h268 rfl rfl rfl rfl (.bool false) (by unfold execOp; simp only [h268.ev 13 rfl, h268.ev 15 rfl]; exact run_v (ltIP _ _ _ _ _ hd0)) fun a271 h270 => ?_
      have h272 := h270.subs (l' := [(16, _), (4, _), (5, _), (3, _), (2, _), (0, _)]) rfl
      clear h270
      iterate 3 go_step
      refine wp_cond (t := false) (h272.ev 16 rfl) ?_
      simp only [Bool.false_eq_true, if_false]
      have h273 := h272.subs (l' := [(4, _), (5, _), (3, _), (2, _), (0, _)]) rfl
      clear h272
      iterate 7 go_step
      refine wmk h273 rfl rfl rfl rfl 4 rfl (fun _ => rfl) fun a275 h274 => ?_
      refine wmk h274 rfl rfl rfl rfl 4 rfl (fun _ => rfl) fun a277 h276 => ?_
      refine wpk_call h276 (wanted_none rfl) rfl (by decide) (fr rfl) (fun args => callP_37 args _) rfl #[.slice ba eb.length bc] (by simp only [List.map_toArray, List.map_cons, List.map_nil, h276.ev 59 rfl]) (R := fun v w' => v = .int .i64 (crcF eb : Int) ∧ aw = w') ((sumRef_any ba bc eb aw HO.out.row).mono fun e w' q => ⟨_, q.1, rfl, q.2⟩) fun a279 vs ws rs h278 => ?_
      obtain ⟨rfl, rfl⟩ := rs
      refine wpk_call h278 (wanted_none rfl) rfl (by decide) (fr rfl) (fun args => callP_35 args _) rfl #[.slice ba eb.length bc, .int .i64 (crcF eb : Int), .int .i64 4] (by simp only [List.map_toArray, List.map_cons, List.map_nil, h278.ev 58 rfl, h278.ev 60 rfl]; rfl) (R := fun v w' => ∃ a2 c2, v = .slice a2 (putF eb (crcF eb : Int) 4).length c2 ∧ OwnB w' aw.heap.size a2 c2 (putF eb (crcF eb : Int) 4) ∧ Below aw.heap.size aw w') ((putRef_any ba bc eb (crcF eb : Int) 4 aw HO.out.row (by omega) (by have := crcF_lt eb; omega)).mono fun e w' q => by obtain ⟨a2, c2, q1, q2, q3⟩ := q; exact ⟨_, q1, a2, c2, rfl, q2, q3⟩) fun a281 v5 w5 r5 h280 => ?_
      obtain ⟨ba5, bc5, rfl, o5, b5⟩ := r5
      obtain ⟨e5, he5⟩ : ∃ x, x = putF eb (crcF eb : Int) 4 := ⟨_, rfl⟩
      have le5 : e5.length ≤ (eb : List UInt8).length + 4 := by rw [he5]; exact putF_lenA _ _ 4
      rw [← he5] at o5 h280
      have HO5 := hid (o5.low HB.out.size); have HB5 := hid (kept_trans HB.out b5); have HE5 := hid he5; clear o5 b5 he5
      have h282 := h280.subs (l' := [(61, _), (60, _), (59, _), (58, _), (5, _), (3, _), (2, _), (0, _)]) rfl
      clear h280
      refine wmk h282 rfl rfl rfl rfl 61 rfl (fun _ => rfl) fun a284 h283 => ?_
      have h285 := h283.subs (l' := [(4, _), (5, _), (3, _), (2, _), (0, _)]) rfl
      clear h283
      iterate 5 go_step
      rw [List.take_length] at HEB HAL
      have H5 : Hid (e5 = sealY (encB L)) := hid (by unfold sealY encB; rw [← HEB.out]; exact HE5.out)
      clear HE5 HEB HO HB
      refine wp_loop (I := fun a' w' => ∃ (i : Nat) (eb : List UInt8) (ba : Option Addr) (bc : Nat), i ≤ pad8 e5.length ∧ Kn 70 [(4, .slice ba eb.length bc), (5, .int .i64 (L.length : Int)), (3, .int .i64 0), (2, .slice none 0 0), (0, .slice a L.length c)] a' ∧ eb = e5 ++ List.replicate i 0 ∧ eb.length = e5.length + i ∧ OwnB w' w.heap.size ba bc eb ∧ Below w.heap.size w w') (μ := fun a' _ => pad8 (lenOfS (a'.eval (.tmp 4)))) ⟨0, e5, ba5, bc5, Nat.zero_le _, h285, (by rw [List.replicate_zero, List.append_nil]), rfl, HO5.out, HB5.out⟩ ?_
      clear HO5 HB5 h285
      rintro aL2 aw2 ⟨i, eb2, ba2, bc2, hi, hK2, heb, hle2, ho, hb⟩
      obtain ⟨eb, hebx⟩ : ∃ x, x = eb2 := ⟨_, rfl⟩
      rw [← hebx] at heb hle2 ho hK2; clear hebx eb2
      obtain ⟨ba, hbax⟩ : ∃ x, x = ba2 := ⟨_, rfl⟩
      rw [← hbax] at ho hK2; clear hbax ba2
      obtain ⟨bc, hbcx⟩ : ∃ x, x = bc2 := ⟨_, rfl⟩
      rw [← hbcx] at ho hK2; clear hbcx bc2
      have HO := hid ho; have HB := hid hb; have HEB := hid heb; clear ho hb heb
      have hp8 : pad8 e5.length ≤ 7 := by unfold pad8; omega
      by_cases hm : eb.length % 8 = 0
      · have hne : (((eb.length % 8 : Nat) : Int) != 0) = false := by rw [hm]; rfl
        iterate 4 go_step
        refine wmk hK2 rfl rfl rfl rfl 4 rfl (fun _ => rfl) fun a287 h286 => ?_
        refine wv h286 rfl rfl rfl rfl (.int .i64 (eb.length : Int)) (run_lenBP rfl (h286.ev 62 rfl) _) fun a289 h288 => ?_
        refine wv h288 rfl rfl rfl rfl (.int .i64 ((eb.length % 8 : Nat) : Int)) (by unfold execOp; simp only [h288.ev 63 rfl]; exact run_v (remIP _ _ eb.length _)) fun a291 h290 => ?_
        refine wv h290 rfl rfl rfl rfl (.bool false) (by unfold execOp; simp only [h290.ev 64 rfl]; exact run_v (neqIP _ _ _ _ _ hne)) fun a293 h292 => ?_
        have h294 := h292.subs (l' := [(65, _), (4, _), (5, _), (3, _), (2, _), (0, _)]) rfl
        clear h292
        iterate 3 go_step
        refine wp_cond (t := false) (h294.ev 65 rfl) ?_
        simp only [Bool.false_eq_true, if_false]
        have h295 := h294.subs (l' := [(4, _), (5, _), (3, _), (2, _), (0, _)]) rfl
        clear h294
        iterate 7 go_step
        refine wmk h295 rfl rfl rfl rfl 4 rfl (fun _ => rfl) fun a317 h316 => ?_
        have h318 := h316.subs (l' := [(69, _), (4, _), (5, _), (3, _), (0, _)]) rfl
        clear h316
        refine wmk h318 rfl rfl rfl rfl 69 rfl (fun _ => rfl) fun a320 h319 => ?_
        have h321 := h319.subs (l' := [(2, _), (69, _), (4, _), (5, _), (0, _)]) rfl
        clear h319
        refine wv h321 rfl rfl rfl rfl (.int .i64 0) rfl fun a323 h322 => ?_
        have h324 := h322.subs (l' := [(3, _), (2, _), (4, _), (5, _), (0, _)]) rfl
        clear h322
        iterate 4 go_step
        refine bodyPost_ret (results_tmp2 rfl (h324.known (2, .slice ba eb.length bc) (by simp)) (h324.known (3, .int .i64 0) (by simp))) h324.defs ?_
        have hok : encOk L = true := by unfold encOk; rw [HAL.out, decide_eq_true (by omega)]; rfl
        have hi2 : i = pad8 e5.length := by unfold pad8 at *; omega
        have e1 : encL L = eb := by unfold encL; rw [if_pos hok]; unfold sealP; rw [← H5.out, HEB.out, hi2]
        have e2 : encE L = 0 := by unfold encE; rw [if_pos hok]
        rw [e1, e2]
        exact ⟨ba, bc, rfl, HO.out, HB.out⟩
      · have hne : (((eb.length % 8 : Nat) : Int) != 0) = true := by simp only [bne_iff_ne, ne_eq]; omega
        iterate 4 go_step
        refine wmk hK2 rfl rfl rfl rfl 4 rfl (fun _ => rfl) fun a297 h296 => ?_
        refine wv h296 rfl rfl rfl rfl (.int .i64 (eb.length : Int)) (run_lenBP rfl (h296.ev 62 rfl) _) fun a299 h298 => ?_
        refine wv h298 rfl rfl rfl rfl (.int .i64 ((eb.length % 8 : Nat) : Int)) (by unfold execOp; simp only [h298.ev 63 rfl]; exact run_v (remIP _ _ eb.length _)) fun a301 h300 => ?_
        refine wv h300 rfl rfl rfl rfl (.bool true) (by unfold execOp; simp only [h300.ev 64 rfl]; exact run_v (neqIP _ _ _ _ _ hne)) fun a303 h302 => ?_
        have h304 := h302.subs (l' := [(65, _), (4, _), (5, _), (3, _), (2, _), (0, _)]) rfl
        clear h302
        iterate 3 go_step
        refine wp_cond (t := true) (h304.ev 65 rfl) ?_
        simp only [if_true]
        have h305 := h304.subs (l' := [(4, _), (5, _), (3, _), (2, _), (0, _)]) rfl
        clear h304
        iterate 5 go_step
        refine wmk h305 rfl rfl rfl rfl 4 rfl (fun _ => rfl) fun a307 h306 => ?_
        obtain ⟨wz, hwz⟩ : ∃ x, x = aw2.alloc (.cells #[.int .u8 0] 5) := ⟨_, rfl⟩
        have rz : Row wz 1 (some ⟨aw2.heap.size, 0, none⟩) 1 1 [.int .u8 0] := by rw [hwz]; exact row_new1 _ _ _
        have oz : OwnB wz w.heap.size ba bc eb := by rw [hwz]; exact Own.alloc HO.out _
        have bz : Below w.heap.size w wz := by rw [hwz]; exact kept_alloc HB.out _
        refine wv h306 rfl rfl rfl rfl (.slice (some ⟨aw2.heap.size, 0, none⟩) 1 1) (by unfold execOp; simp only [List.map_toArray, List.map_cons, List.map_nil]; exact run_v (buildB1 _)) fun a309 h308 => ?_
        rw [← hwz]
        refine wpl_append rfl (.tmp 66) (.tmp 67) rfl E8 w.heap.size (h308.ev 66 rfl) (h308.ev 67 rfl) oz rz (by simp [Value.oneCell']) (by omega) (by omega) bz.size ?_
        intro ba3 bc3 w3 o3 g3 b3
        refine wpk_enter (h308.put (d := 68) (by decide) (fr rfl) (.slice ba3 (eb.length + 1) bc3)) fun a311 h310 => ?_
        have HO3 : Hid (OwnB w3 w.heap.size ba3 bc3 (eb ++ [0])) := hid (by unfold OwnB; rw [List.length_append, List.map_append]; exact o3)
        have HB3 := hid (bz.trans b3); clear o3 g3 b3 oz rz bz hwz
        have h312 := h310.subs (l' := [(68, _), (67, _), (66, _), (5, _), (3, _), (2, _), (0, _)]) rfl
        clear h310
        refine wmk h312 rfl rfl rfl rfl 68 rfl (fun _ => rfl) fun a314 h313 => ?_
        have h315 := h313.subs (l' := [(4, _), (5, _), (3, _), (2, _), (0, _)]) rfl
        clear h313
        iterate 2 go_step
        refine ⟨⟨i + 1, eb ++ [0], ba3, bc3, by unfold pad8 at *; omega, by rw [List.length_append]; exact h315.subs rfl, ?_, ?_, HO3.out, HB3.out⟩, ?_⟩
        · rw [HEB.out, List.replicate_succ', List.append_assoc]
        · rw [List.length_append]; show _ + 1 = _; omega
        · rw [h315.ev 4 rfl, hK2.ev 4 rfl]; show pad8 (eb.length + 1) < pad8 eb.length; unfold pad8; omega
end Go.Proofs.YtcackliabemecaaGreatDoor
/- The document's Decode. (genPlgDr.py) -/
namespace Go.Proofs.YtcackliabemecaaGreatDoor
open Go.RowKit
set_option linter.unusedSimpArgs false
set_option linter.unusedVariables false
set_option maxRecDepth 100000

theorem getF_some2 {xs : List UInt8} {n : Nat} (h : getF xs 0 2 = some n) : 2 ≤ xs.length ∧ n ≤ 65535 := by
  by_cases q : 0 + 2 ≤ xs.length
  · have g := getF_inP q (.inl rfl)
    change getF xs 0 2 = _ at g
    rw [h] at g
    have hl : ((xs.drop 0).take 2).length ≤ 2 := by rw [List.length_take]; omega
    have hb := ofLE_lt ((xs.drop 0).take 2)
    have : (256 : Nat) ^ ((xs.drop 0).take 2).length ≤ 256 ^ 2 := Nat.pow_le_pow_right (by omega) hl
    have e : n = ofLE ((xs.drop 0).take 2) := by injection g
    omega
  · have g := getF_outP (xs := xs) (a := 0) (k := 2) (by omega)
    change getF xs 0 2 = _ at g
    rw [h] at g; cases g
theorem decR_none {xs : List UInt8} (g : getF xs 0 2 = none) : decR xs = ([], 0, 3) := by unfold decR; rw [g]
theorem decR_big {xs : List UInt8} {n : Nat} (g : getF xs 0 2 = some n) (h : 64 < n) : decR xs = ([], 0, 2) := by unfold decR; rw [g]; exact if_pos h
theorem decR_inl {xs : List UInt8} {n : Nat} {e : Int} (g : getF xs 0 2 = some n) (h : ¬ 64 < n) (hg : getsR xs n 2 [] = .inl e) : decR xs = ([], 0, e) := by
  unfold decR; rw [g]; dsimp only; rw [if_neg h, hg]; rfl
theorem decR_inr {xs : List UInt8} {n : Nat} {L : List PtM} {q : Nat} (g : getF xs 0 2 = some n) (h : ¬ 64 < n) (hg : getsR xs n 2 [] = .inr (L, q)) : decR xs = endR xs L q := by
  unfold decR; rw [g]; dsimp only; rw [if_neg h, hg]; rfl
theorem getsR_1 {xs : List UInt8} {m q : Nat} {L : List PtM} (g1 : getF xs (q : Int) 4 = none) : getsR xs (m + 1) q L = .inl 3 := by
  unfold getsR; rw [g1]
theorem getsR_2 {xs : List UInt8} {m q x : Nat} {L : List PtM} (g1 : getF xs (q : Int) 4 = some x) (g2 : getF xs ((q + 4 : Nat) : Int) 2 = none) : getsR xs (m + 1) q L = .inl 3 := by
  unfold getsR; rw [g1, g2]
theorem getsR_3 {xs : List UInt8} {m q x k : Nat} {L : List PtM} (g1 : getF xs (q : Int) 4 = some x) (g2 : getF xs ((q + 4 : Nat) : Int) 2 = some k) (h : 256 < k) : getsR xs (m + 1) q L = .inl 2 := by
  unfold getsR; rw [g1, g2]; exact if_pos h
theorem getsR_4 {xs : List UInt8} {m q x k : Nat} {L : List PtM} (g1 : getF xs (q : Int) 4 = some x) (g2 : getF xs ((q + 4 : Nat) : Int) 2 = some k) (h : ¬ 256 < k) (h4 : xs.length < q + 6 + k) : getsR xs (m + 1) q L = .inl 3 := by
  unfold getsR; rw [g1, g2]; dsimp only; rw [if_neg h, if_pos h4]
theorem getsR_5 {xs : List UInt8} {m q x k : Nat} {L : List PtM} (g1 : getF xs (q : Int) 4 = some x) (g2 : getF xs ((q + 4 : Nat) : Int) 2 = some k) (h : ¬ 256 < k) (h4 : ¬ xs.length < q + 6 + k) : getsR xs (m + 1) q L = getsR xs m (q + 6 + k) (L ++ [⟨(x : Int), (xs.drop (q + 6)).take k⟩]) := by
  rw [getsR, g1, g2]; dsimp only; rw [if_neg h, if_neg h4]
theorem endR_1 {xs : List UInt8} {L : List PtM} {q : Nat} (g : getF xs (q : Int) 4 = none) : endR xs L q = ([], 0, 3) := by unfold endR; rw [g]
theorem endR_2 {xs : List UInt8} {L : List PtM} {q s : Nat} (g : getF xs (q : Int) 4 = some s) (h : s ≠ crcF (xs.take q)) : endR xs L q = ([], 0, 4) := by unfold endR; rw [g]; exact if_pos h
theorem endR_3 {xs : List UInt8} {L : List PtM} {q s : Nat} (g : getF xs (q : Int) 4 = some s) (h : ¬ s ≠ crcF (xs.take q)) (h3 : xs.length < q + 4 + pad8 (q + 4)) : endR xs L q = ([], 0, 3) := by unfold endR; rw [g]; dsimp only; rw [if_neg h, if_pos h3]
theorem endR_4 {xs : List UInt8} {L : List PtM} {q s : Nat} (g : getF xs (q : Int) 4 = some s) (h : ¬ s ≠ crcF (xs.take q)) (h3 : ¬ xs.length < q + 4 + pad8 (q + 4)) (h4 : ¬ ∀ x ∈ (xs.drop (q + 4)).take (pad8 (q + 4)), x = 0) : endR xs L q = ([], 0, 2) := by unfold endR; rw [g]; dsimp only; rw [if_neg h, if_neg h3, if_neg h4]
theorem endR_5 {xs : List UInt8} {L : List PtM} {q s : Nat} (g : getF xs (q : Int) 4 = some s) (h : ¬ s ≠ crcF (xs.take q)) (h3 : ¬ xs.length < q + 4 + pad8 (q + 4)) (h4 : ∀ x ∈ (xs.drop (q + 4)).take (pad8 (q + 4)), x = 0) : endR xs L q = (L, ((q + 4 + pad8 (q + 4) : Nat) : Int), 0) := by unfold endR; rw [g]; dsimp only; rw [if_neg h, if_neg h3, if_pos h4]
theorem mem_sl {xs : List UInt8} {p f F : Nat} (h1 : p ≤ f) (h2 : f < F) (h3 : f < xs.length) : xs[f] ∈ (xs.drop p).take (F - p) := by
  refine List.mem_iff_getElem.2 ⟨f - p, by rw [List.length_take, List.length_drop]; omega, ?_⟩
  rw [List.getElem_take, List.getElem_drop]
  congr 1; omega
theorem sl_snoc {xs : List UInt8} {p f : Nat} (h1 : p ≤ f) (h3 : f < xs.length) (hz : ∀ x ∈ (xs.drop p).take (f - p), x = 0) (h0 : xs[f] = 0) : ∀ x ∈ (xs.drop p).take (f + 1 - p), x = 0 := by
  intro x hx
  rw [show f + 1 - p = (f - p) + 1 by omega, List.take_add_one, List.getElem?_drop, show p + (f - p) = f by omega, List.getElem?_eq_getElem h3, Option.toList_some] at hx
  rcases List.mem_append.1 hx with q | q
  · exact hz x q
  · rw [List.mem_singleton.1 q]; exact h0
theorem rowB_cell {w : World} {a : Option Addr} {c : Nat} {xs : List UInt8} (r : RowB w a c xs) {f : Nat} (hf : f < xs.length) : ∃ pb poff, a = some ⟨pb, poff, none⟩ ∧ w.cell? ⟨pb, poff + f, none⟩ = some (byteV xs[f]) := by
  obtain ⟨b, off, e, _, hc⟩ := r.2.2.2.2 (by omega)
  exact ⟨b, off, e, hc f _ (by rw [List.getElem?_map, List.getElem?_eq_getElem hf]; rfl)⟩
theorem ixB (b off n c j : Nat) (hj : j < n) (w : World) : (Instr.indexAt 26 (.slice (some ⟨b, off, none⟩) n c) (.int .i64 (j : Int))).run Tryz.prog w = .ok (.pointer (some ⟨b, off + j, none⟩)) w := by
  have u3 := Tryz.underlying26
  have u9 := Tryz.underlying5
  have z3 := Tryz.sizeOf5
  have d0 : (j : Int) < (n : Int) := by omega
  have d1 : 0 ≤ (j : Int) := by omega
  go_simp
theorem loadUP {w : World} {g off : Nat} {x : UInt8} (h : w.cell? ⟨g, off, none⟩ = some (byteV x)) : (Instr.loadAt 5 (.pointer (some ⟨g, off, none⟩))).run Tryz.prog w = .ok (byteV x) w := by
  have u3 := Tryz.underlying5
  have a3 := Tryz.isAgg5
  have z3 := Tryz.sizeOf5
  unfold byteV at *
  go_simp
theorem neU8z (x y : Operand) (v : UInt8) (w : World) {b : Bool} (h : (!decide (v = 0)) = b) : (do eqGuard .neq 5 x y (byteV v) (.int .u8 0); binOp .neq 5 (byteV v) (.int .u8 0) : Sem Value).run Tryz.prog w = .ok (.bool b) w := by
  have u3 := Tryz.underlying5
  have a3 := Tryz.isAgg5
  have z3 := Tryz.sizeOf5
  have e : ((v.toNat : Int) != 0) = b := by
    rw [← h]
    by_cases q : v = 0
    · subst q; rfl
    · have : v.toNat ≠ 0 := fun z => q (UInt8.toNat_inj.1 z)
      simp [q, bne]; omega
  unfold byteV
  subst e
  go_simp
theorem callP_42 (args : Array Value) (w : World) : (callFunc 85 args).run Tryz.prog w = .ok (.enter 85 args) w := by
  have h := Tryz.func85
  go_simp
theorem retDr {w W : World} {xs : List UInt8} {act : Act} {la : Option Addr} {lc : Nat} {L : List PtM} {n E : Int} (hd : act.defers = []) (h2 : act.tmps[2]? = some (.slice la L.length lc)) (h3 : act.tmps[3]? = some (.int .i64 n)) (h4 : act.tmps[4]? = some (.int .i64 E)) (hdec : decR xs = (L, n, E)) (ho : OwnPt W w.heap.size la lc L) (hb : Below w.heap.size w W) :
    bodyPost Tryz.prog Tryz.f72 (fun e w' => ∃ v, e = .returned v ∧ ∃ la lc, v = .tuple #[.slice la (decR xs).1.length lc, .int .i64 (decR xs).2.1, .int .i64 (decR xs).2.2] ∧ OwnPt w' w.heap.size la lc (decR xs).1 ∧ Below w.heap.size w w') .ret act W := by
  refine bodyPost_ret (results_tmp3 rfl h2 h3 h4) hd ?_
  rw [hdec]
  exact ⟨_, rfl, la, lc, rfl, ho, hb⟩
set_option maxHeartbeats 8000000 in
theorem decodeR_any {w : World} {a : Option Addr} {c : Nat} {xs : List UInt8} (r0 : RowB w a c xs) (hl : xs.length ≤ 1000000) :
    Calls Tryz.prog 72 #[.slice a xs.length c] w fun e w' => ∃ v, e = .returned v ∧ ∃ la lc, v = .tuple #[.slice la (decR xs).1.length lc, .int .i64 (decR xs).2.1, .int .i64 (decR xs).2.2] ∧ OwnPt w' w.heap.size la lc (decR xs).1 ∧ Below w.heap.size w w' := by
  have HR := hid r0
  clear r0
  go_enter Tryz.func72, Tryz.ntmps72
  iterate 3 go_step
  refine wpk_enter (N := 115) (l := [(0, .slice a xs.length c)]) ⟨rfl, (by intro x hx; simp only [List.mem_cons, List.not_mem_nil, or_false] at hx; rcases hx with rfl <;> rfl), rfl⟩ fun a2 h1 => ?_
  refine wv h1 rfl rfl rfl rfl (.slice none 0 0) rfl fun a4 h3 => ?_
  refine wv h3 rfl rfl rfl rfl (.int .i64 0) rfl fun a6 h5 => ?_
  refine wv h5 rfl rfl rfl rfl (.int .i64 0) rfl fun a8 h7 => ?_
  iterate 3 go_step
  have HB := hid (Below.refl w.heap.size w)
  go_step
  cases g0 : getF xs 0 2 with
  | none =>
    go_step
    refine wmk h7 rfl rfl rfl rfl 0 rfl (fun _ => rfl) fun a10 h9 => ?_
    have hget : Calls Tryz.prog 85 #[.slice a xs.length c, .int .i64 0, .int .i64 2] w fun e w' => e = .returned (.tuple #[.int .i64 0, .bool false]) ∧ w = w' := (by have z := getRef_any a c xs 0 2 w HR.out (by omega) (by omega); rw [g0] at z; exact z)
    refine wpk_call h9 (wanted_none rfl) rfl (by decide) (fr rfl) (fun args => callP_42 args _) rfl #[.slice a xs.length c, .int .i64 0, .int .i64 2] (by simp only [List.map_toArray, List.map_cons, List.map_nil, h9.ev 19 rfl]; rfl) (R := fun v w' => v = .tuple #[.int .i64 0, .bool false] ∧ w = w') (hget.mono fun e w' q => ⟨_, q.1, rfl, q.2⟩) fun a12 vg wg rg h11 => ?_
    obtain ⟨rfl, rfl⟩ := rg; clear hget
    refine wmk h11 rfl rfl rfl rfl 20 rfl (fun _ => rfl) fun a14 h13 => ?_
    refine wv h13 rfl rfl rfl rfl (.int .i64 0) (by unfold execOp; simp only [h13.ev 18 rfl]; exact rfl) fun a16 h15 => ?_
    refine wv h15 rfl rfl rfl rfl (.bool false) (by unfold execOp; simp only [h15.ev 18 rfl]; exact rfl) fun a18 h17 => ?_
    refine wmk h17 rfl rfl rfl rfl 21 rfl (fun _ => rfl) fun a20 h19 => ?_
    refine wmk h19 rfl rfl rfl rfl 22 rfl (fun _ => rfl) fun a22 h21 => ?_
    have h23 := h21.subs (l' := [(6, _), (5, _), (4, _), (3, _), (2, _), (0, _)]) rfl
    clear h21
    iterate 6 go_step
    refine wmk h23 rfl rfl rfl rfl 6 rfl (fun _ => rfl) fun a25 h24 => ?_
    refine wv h24 rfl rfl rfl rfl (.bool true) (run_not rfl (h24.ev 23 rfl)) fun a27 h26 => ?_
    have h28 := h26.subs (l' := [(24, _), (6, _), (5, _), (4, _), (3, _), (2, _), (0, _)]) rfl
    clear h26
    iterate 3 go_step
    refine wp_cond (t := true) (h28.ev 24 rfl) ?_
    simp only [if_true]
    have h29 := h28.subs (l' := [(6, _), (5, _), (4, _), (3, _), (2, _), (0, _)]) rfl
    clear h28
    iterate 2 go_step
    have h30 := h29.subs (l' := [(6, _), (5, _), (4, _), (3, _), (0, _)]) rfl
    clear h29
    refine wv h30 rfl rfl rfl rfl (.slice none 0 0) rfl fun a32 h31 => ?_
    have h33 := h31.subs (l' := [(2, _), (6, _), (5, _), (4, _), (0, _)]) rfl
    clear h31
    refine wv h33 rfl rfl rfl rfl (.int .i64 0) rfl fun a35 h34 => ?_
    have h36 := h34.subs (l' := [(3, _), (2, _), (6, _), (5, _), (0, _)]) rfl
    clear h34
    refine wv h36 rfl rfl rfl rfl (.int .i64 3) rfl fun a38 h37 => ?_
    iterate 4 go_step
    simp only [Exit.then, Exit.inBlock]
    exact retDr h37.defs (h37.known (2, .slice none 0 0) (by simp)) (h37.known (3, .int .i64 0) (by simp)) (h37.known (4, .int .i64 3) (by simp)) (decR_none g0) (Own.nil _ _ _ _) (HB.out)
  | some n =>
    have hn2 := getF_some2 g0
    go_step
    refine wmk h7 rfl rfl rfl rfl 0 rfl (fun _ => rfl) fun a40 h39 => ?_
    have hget : Calls Tryz.prog 85 #[.slice a xs.length c, .int .i64 0, .int .i64 2] w fun e w' => e = .returned (.tuple #[.int .i64 (n : Int), .bool true]) ∧ w = w' := (by have z := getRef_any a c xs 0 2 w HR.out (by omega) (by omega); rw [g0] at z; exact z)
    refine wpk_call h39 (wanted_none rfl) rfl (by decide) (fr rfl) (fun args => callP_42 args _) rfl #[.slice a xs.length c, .int .i64 0, .int .i64 2] (by simp only [List.map_toArray, List.map_cons, List.map_nil, h39.ev 19 rfl]; rfl) (R := fun v w' => v = .tuple #[.int .i64 (n : Int), .bool true] ∧ w = w') (hget.mono fun e w' q => ⟨_, q.1, rfl, q.2⟩) fun a42 vg wg rg h41 => ?_
    obtain ⟨rfl, rfl⟩ := rg; clear hget
    refine wmk h41 rfl rfl rfl rfl 20 rfl (fun _ => rfl) fun a44 h43 => ?_
    refine wv h43 rfl rfl rfl rfl (.int .i64 (n : Int)) (by unfold execOp; simp only [h43.ev 18 rfl]; exact rfl) fun a46 h45 => ?_
    refine wv h45 rfl rfl rfl rfl (.bool true) (by unfold execOp; simp only [h45.ev 18 rfl]; exact rfl) fun a48 h47 => ?_
    refine wmk h47 rfl rfl rfl rfl 21 rfl (fun _ => rfl) fun a50 h49 => ?_
    refine wmk h49 rfl rfl rfl rfl 22 rfl (fun _ => rfl) fun a52 h51 => ?_
    have h53 := h51.subs (l' := [(6, _), (5, _), (4, _), (3, _), (2, _), (0, _)]) rfl
    clear h51
    iterate 6 go_step
    refine wmk h53 rfl rfl rfl rfl 6 rfl (fun _ => rfl) fun a55 h54 => ?_
    refine wv h54 rfl rfl rfl rfl (.bool false) (run_not rfl (h54.ev 23 rfl)) fun a57 h56 => ?_
    have h58 := h56.subs (l' := [(24, _), (6, _), (5, _), (4, _), (3, _), (2, _), (0, _)]) rfl
    clear h56
    iterate 3 go_step
    refine wp_cond (t := false) (h58.ev 24 rfl) ?_
    simp only [Bool.false_eq_true, if_false]
    have h59 := h58.subs (l' := [(6, _), (5, _), (4, _), (3, _), (2, _), (0, _)]) rfl
    clear h58
    iterate 4 go_step
    by_cases h64 : 64 < n
    · have hc1 : decide ((64 : Int) < (n : Int)) = true := decide_eq_true (by omega)
      iterate 2 go_step
      refine wmk h59 rfl rfl rfl rfl 5 rfl (fun _ => rfl) fun a61 h60 => ?_
      refine wv h60 rfl rfl rfl rfl (.bool true) (by unfold execOp; simp only [h60.ev 25 rfl]; exact run_v (gtIP _ _ _ _ _ hc1)) fun a63 h62 => ?_
      have h64 := h62.subs (l' := [(26, _), (6, _), (5, _), (4, _), (3, _), (2, _), (0, _)]) rfl
      clear h62
      iterate 3 go_step
      refine wp_cond (t := true) (h64.ev 26 rfl) ?_
      simp only [if_true]
      have h65 := h64.subs (l' := [(6, _), (5, _), (4, _), (3, _), (2, _), (0, _)]) rfl
      clear h64
      iterate 2 go_step
      have h66 := h65.subs (l' := [(6, _), (5, _), (4, _), (3, _), (0, _)]) rfl
      clear h65
      refine wv h66 rfl rfl rfl rfl (.slice none 0 0) rfl fun a68 h67 => ?_
      have h69 := h67.subs (l' := [(2, _), (6, _), (5, _), (4, _), (0, _)]) rfl
      clear h67
      refine wv h69 rfl rfl rfl rfl (.int .i64 0) rfl fun a71 h70 => ?_
      have h72 := h70.subs (l' := [(3, _), (2, _), (6, _), (5, _), (0, _)]) rfl
      clear h70
      refine wv h72 rfl rfl rfl rfl (.int .i64 2) rfl fun a74 h73 => ?_
      iterate 4 go_step
      simp only [Exit.then, Exit.inBlock]
      exact retDr h73.defs (h73.known (2, .slice none 0 0) (by simp)) (h73.known (3, .int .i64 0) (by simp)) (h73.known (4, .int .i64 2) (by simp)) (decR_big g0 h64) (Own.nil _ _ _ _) (HB.out)
    · have hc1 : decide ((64 : Int) < (n : Int)) = false := decide_eq_false (by omega)
      iterate 2 go_step
      refine wmk h59 rfl rfl rfl rfl 5 rfl (fun _ => rfl) fun a76 h75 => ?_
      refine wv h75 rfl rfl rfl rfl (.bool false) (by unfold execOp; simp only [h75.ev 25 rfl]; exact run_v (gtIP _ _ _ _ _ hc1)) fun a78 h77 => ?_
      have h79 := h77.subs (l' := [(26, _), (6, _), (5, _), (4, _), (3, _), (2, _), (0, _)]) rfl
      clear h77
      iterate 3 go_step
      refine wp_cond (t := false) (h79.ev 26 rfl) ?_
      simp only [Bool.false_eq_true, if_false]
      have h80 := h79.subs (l' := [(6, _), (5, _), (4, _), (3, _), (2, _), (0, _)]) rfl
      clear h79
      iterate 5 go_step
      refine wv h80 rfl rfl rfl rfl (.int .i64 2) rfl fun a82 h81 => ?_
      iterate 5 go_step
      refine wv h81 rfl rfl rfl rfl (.slice none 0 0) rfl fun a84 h83 => ?_
      iterate 6 go_step
      refine wv h83 rfl rfl rfl rfl (.int .i64 0) rfl fun a86 h85 => ?_
      iterate 4 go_step
      have h87 := h85.subs (l' := [(7, _), (8, _), (9, _), (6, _), (5, _), (0, _)]) rfl
      clear h85
      refine wp_loop (I := fun a' w' => ∃ (i q : Nat) (L : List PtM) (la : Option Addr) (lc : Nat), i ≤ n ∧ q ≤ xs.length ∧ L.length = i ∧ Kn 115 [(7, .int .i64 ((q : Nat) : Int)), (8, .slice la L.length lc), (9, .int .i64 ((i : Nat) : Int)), (6, .bool true), (5, .int .i64 (n : Int)), (0, .slice a xs.length c)] a' ∧ getsR xs n 2 [] = getsR xs (n - i) q L ∧ OwnPt w' w.heap.size la lc L ∧ Below w.heap.size w w') (μ := fun a' _ => n - (intOf (a'.eval (.tmp 9))).toNat) ⟨0, 2, [], none, 0, by omega, by omega, rfl, h87, rfl, Own.nil _ _ _ _, HB.out⟩ ?_
      clear h87 HB
      rintro aL aw ⟨i, q, L, la, lc, hi, hq, hL, hK, hg, ho, hb⟩
      have HO := hid ho; have HB := hid hb; have HG := hid hg; have HRa := hid (HR.out.mono hb); clear ho hb hg
      by_cases hlt : i < n
      · have hd0 : decide ((i : Int) < (n : Int)) = true := decide_eq_true (by omega)
        obtain ⟨m, hm⟩ : ∃ m, n - i = m + 1 := ⟨n - i - 1, by omega⟩
        rw [hm] at HG
        by_cases h1 : q + 4 ≤ xs.length
        case neg =>
          have g1 := getF_outP (xs := xs) (a := q) (k := 4) (by omega)
          have g2 := getF_outP (xs := xs) (a := q + 4) (k := 2) (by omega)
          change getF xs (q : Int) 4 = _ at g1; change getF xs ((q + 4 : Nat) : Int) 2 = _ at g2
          iterate 4 go_step
          refine wmk hK rfl rfl rfl rfl 9 rfl (fun _ => rfl) fun a89 h88 => ?_
          refine wmk h88 rfl rfl rfl rfl 5 rfl (fun _ => rfl) fun a91 h90 => ?_
          refine wv h90 rfl rfl rfl rfl (.bool true) (by unfold execOp; simp only [h90.ev 27 rfl, h90.ev 28 rfl]; exact run_v (ltIP _ _ _ _ _ hd0)) fun a93 h92 => ?_
          have h94 := h92.subs (l' := [(29, _), (7, _), (8, _), (9, _), (6, _), (5, _), (0, _)]) rfl
          clear h92
          iterate 3 go_step
          refine wp_cond (t := true) (h94.ev 29 rfl) ?_
          simp only [if_true]
          have h95 := h94.subs (l' := [(7, _), (8, _), (9, _), (6, _), (5, _), (0, _)]) rfl
          clear h94
          iterate 7 go_step
          refine wmk h95 rfl rfl rfl rfl 0 rfl (fun _ => rfl) fun a97 h96 => ?_
          refine wmk h96 rfl rfl rfl rfl 7 rfl (fun _ => rfl) fun a99 h98 => ?_
          have hget : Calls Tryz.prog 85 #[.slice a xs.length c, .int .i64 ((q : Nat) : Int), .int .i64 4] aw fun e w' => e = .returned (.tuple #[.int .i64 0, .bool false]) ∧ aw = w' := (by have z := getRef_any a c xs (q : Int) 4 aw HRa.out (by omega) (by omega); rw [g1] at z; exact z)
          refine wpk_call h98 (wanted_none rfl) rfl (by decide) (fr rfl) (fun args => callP_42 args _) rfl #[.slice a xs.length c, .int .i64 ((q : Nat) : Int), .int .i64 4] (by simp only [List.map_toArray, List.map_cons, List.map_nil, h98.ev 33 rfl, h98.ev 34 rfl]; rfl) (R := fun v w' => v = .tuple #[.int .i64 0, .bool false] ∧ aw = w') (hget.mono fun e w' q => ⟨_, q.1, rfl, q.2⟩) fun a101 vg wg rg h100 => ?_
          obtain ⟨rfl, rfl⟩ := rg; clear hget
          refine wmk h100 rfl rfl rfl rfl 35 rfl (fun _ => rfl) fun a103 h102 => ?_
          refine wv h102 rfl rfl rfl rfl (.int .i64 0) (by unfold execOp; simp only [h102.ev 32 rfl]; exact rfl) fun a105 h104 => ?_
          refine wv h104 rfl rfl rfl rfl (.bool false) (by unfold execOp; simp only [h104.ev 32 rfl]; exact rfl) fun a107 h106 => ?_
          refine wmk h106 rfl rfl rfl rfl 36 rfl (fun _ => rfl) fun a109 h108 => ?_
          refine wmk h108 rfl rfl rfl rfl 37 rfl (fun _ => rfl) fun a111 h110 => ?_
          have h112 := h110.subs (l' := [(11, _), (10, _), (7, _), (8, _), (9, _), (6, _), (5, _), (0, _)]) rfl
          clear h110
          iterate 5 go_step
          refine wmk h112 rfl rfl rfl rfl 0 rfl (fun _ => rfl) fun a114 h113 => ?_
          refine wmk h113 rfl rfl rfl rfl 7 rfl (fun _ => rfl) fun a116 h115 => ?_
          refine wv h115 rfl rfl rfl rfl (.int .i64 ((q + 4 : Nat) : Int)) (by unfold execOp; simp only [h115.ev 40 rfl]; exact run_v (addNP _ _ _ _ _ (by omega) (by omega) (by omega) _)) fun a118 h117 => ?_
          have hget : Calls Tryz.prog 85 #[.slice a xs.length c, .int .i64 ((q + 4 : Nat) : Int), .int .i64 2] aw fun e w' => e = .returned (.tuple #[.int .i64 0, .bool false]) ∧ aw = w' := (by have z := getRef_any a c xs ((q + 4 : Nat) : Int) 2 aw HRa.out (by omega) (by omega); rw [g2] at z; exact z)
          refine wpk_call h117 (wanted_none rfl) rfl (by decide) (fr rfl) (fun args => callP_42 args _) rfl #[.slice a xs.length c, .int .i64 ((q + 4 : Nat) : Int), .int .i64 2] (by simp only [List.map_toArray, List.map_cons, List.map_nil, h117.ev 39 rfl, h117.ev 41 rfl]; rfl) (R := fun v w' => v = .tuple #[.int .i64 0, .bool false] ∧ aw = w') (hget.mono fun e w' q => ⟨_, q.1, rfl, q.2⟩) fun a120 vg wg rg h119 => ?_
          obtain ⟨rfl, rfl⟩ := rg; clear hget
          refine wmk h119 rfl rfl rfl rfl 42 rfl (fun _ => rfl) fun a122 h121 => ?_
          refine wv h121 rfl rfl rfl rfl (.int .i64 0) (by unfold execOp; simp only [h121.ev 38 rfl]; exact rfl) fun a124 h123 => ?_
          refine wv h123 rfl rfl rfl rfl (.bool false) (by unfold execOp; simp only [h123.ev 38 rfl]; exact rfl) fun a126 h125 => ?_
          refine wmk h125 rfl rfl rfl rfl 43 rfl (fun _ => rfl) fun a128 h127 => ?_
          refine wmk h127 rfl rfl rfl rfl 44 rfl (fun _ => rfl) fun a130 h129 => ?_
          have h131 := h129.subs (l' := [(13, _), (12, _), (11, _), (10, _), (7, _), (8, _), (9, _), (6, _), (5, _), (0, _)]) rfl
          clear h129
          iterate 6 go_step
          refine wmk h131 rfl rfl rfl rfl 11 rfl (fun _ => rfl) fun a133 h132 => ?_
          refine wv h132 rfl rfl rfl rfl (.bool true) (run_not rfl (h132.ev 45 rfl)) fun a135 h134 => ?_
          refine wmk h134 rfl rfl rfl rfl 46 rfl (fun _ => rfl) fun a137 h136 => ?_
          refine wpk_skip h136 (by rw [wanted_of (g := 2) (want := false) (b := true) rfl (h136.yields (prev := 47) rfl (by simp))]; rfl) rfl (by decide) (fr rfl) fun a139 h138 => ?_
          refine wpk_skip h138 (by rw [wanted_of (g := 2) (want := false) (b := true) rfl (h138.yields (prev := 47) rfl (by simp))]; rfl) rfl (by decide) (fr rfl) fun a141 h140 => ?_
          refine wv h140 rfl rfl rfl rfl (.bool true) (run_pick rfl (h140.ev 47 rfl) rfl) fun a143 h142 => ?_
          have h144 := h142.subs (l' := [(50, _), (13, _), (12, _), (11, _), (10, _), (7, _), (8, _), (9, _), (6, _), (5, _), (0, _)]) rfl
          clear h142
          iterate 3 go_step
          refine wp_cond (t := true) (h144.ev 50 rfl) ?_
          simp only [if_true]
          have h145 := h144.subs (l' := [(13, _), (12, _), (11, _), (10, _), (7, _), (8, _), (9, _), (6, _), (5, _), (0, _)]) rfl
          clear h144
          iterate 2 go_step
          refine wv h145 rfl rfl rfl rfl (.slice none 0 0) rfl fun a147 h146 => ?_
          refine wv h146 rfl rfl rfl rfl (.int .i64 0) rfl fun a149 h148 => ?_
          refine wv h148 rfl rfl rfl rfl (.int .i64 3) rfl fun a151 h150 => ?_
          iterate 4 go_step
          simp only [Exit.then, Exit.inBlock]
          exact retDr h150.defs (h150.known (2, .slice none 0 0) (by simp)) (h150.known (3, .int .i64 0) (by simp)) (h150.known (4, .int .i64 3) (by simp)) (decR_inl g0 h64 (HG.out.trans (getsR_1 g1))) (Own.nil _ _ _ _) (HB.out)
        have g1 := getF_inP h1 (.inr rfl)
        change getF xs (q : Int) 4 = _ at g1
        obtain ⟨x, hx⟩ : ∃ x, x = ofLE ((xs.drop q).take 4) := ⟨_, rfl⟩
        rw [← hx] at g1; clear hx
        by_cases h2 : q + 4 + 2 ≤ xs.length
        case neg =>
          have g2 := getF_outP (xs := xs) (a := q + 4) (k := 2) (by omega)
          change getF xs ((q + 4 : Nat) : Int) 2 = _ at g2
          iterate 4 go_step
          refine wmk hK rfl rfl rfl rfl 9 rfl (fun _ => rfl) fun a153 h152 => ?_
          refine wmk h152 rfl rfl rfl rfl 5 rfl (fun _ => rfl) fun a155 h154 => ?_
          refine wv h154 rfl rfl rfl rfl (.bool true) (by unfold execOp; simp only [h154.ev 27 rfl, h154.ev 28 rfl]; exact run_v (ltIP _ _ _ _ _ hd0)) fun a157 h156 => ?_
          have h158 := h156.subs (l' := [(29, _), (7, _), (8, _), (9, _), (6, _), (5, _), (0, _)]) rfl
          clear h156
          iterate 3 go_step
          refine wp_cond (t := true) (h158.ev 29 rfl) ?_
          simp only [if_true]
          have h159 := h158.subs (l' := [(7, _), (8, _), (9, _), (6, _), (5, _), (0, _)]) rfl
          clear h158
          iterate 7 go_step
          refine wmk h159 rfl rfl rfl rfl 0 rfl (fun _ => rfl) fun a161 h160 => ?_
          refine wmk h160 rfl rfl rfl rfl 7 rfl (fun _ => rfl) fun a163 h162 => ?_
          have hget : Calls Tryz.prog 85 #[.slice a xs.length c, .int .i64 ((q : Nat) : Int), .int .i64 4] aw fun e w' => e = .returned (.tuple #[.int .i64 (x : Int), .bool true]) ∧ aw = w' := (by have z := getRef_any a c xs (q : Int) 4 aw HRa.out (by omega) (by omega); rw [g1] at z; exact z)
          refine wpk_call h162 (wanted_none rfl) rfl (by decide) (fr rfl) (fun args => callP_42 args _) rfl #[.slice a xs.length c, .int .i64 ((q : Nat) : Int), .int .i64 4] (by simp only [List.map_toArray, List.map_cons, List.map_nil, h162.ev 33 rfl, h162.ev 34 rfl]; rfl) (R := fun v w' => v = .tuple #[.int .i64 (x : Int), .bool true] ∧ aw = w') (hget.mono fun e w' q => ⟨_, q.1, rfl, q.2⟩) fun a165 vg wg rg h164 => ?_
          obtain ⟨rfl, rfl⟩ := rg; clear hget
          refine wmk h164 rfl rfl rfl rfl 35 rfl (fun _ => rfl) fun a167 h166 => ?_
          refine wv h166 rfl rfl rfl rfl (.int .i64 (x : Int)) (by unfold execOp; simp only [h166.ev 32 rfl]; exact rfl) fun a169 h168 => ?_
          refine wv h168 rfl rfl rfl rfl (.bool true) (by unfold execOp; simp only [h168.ev 32 rfl]; exact rfl) fun a171 h170 => ?_
          refine wmk h170 rfl rfl rfl rfl 36 rfl (fun _ => rfl) fun a173 h172 => ?_
          refine wmk h172 rfl rfl rfl rfl 37 rfl (fun _ => rfl) fun a175 h174 => ?_
          have h176 := h174.subs (l' := [(11, _), (10, _), (7, _), (8, _), (9, _), (6, _), (5, _), (0, _)]) rfl
          clear h174
          iterate 5 go_step
          refine wmk h176 rfl rfl rfl rfl 0 rfl (fun _ => rfl) fun a178 h177 => ?_
          refine wmk h177 rfl rfl rfl rfl 7 rfl (fun _ => rfl) fun a180 h179 => ?_
          refine wv h179 rfl rfl rfl rfl (.int .i64 ((q + 4 : Nat) : Int)) (by unfold execOp; simp only [h179.ev 40 rfl]; exact run_v (addNP _ _ _ _ _ (by omega) (by omega) (by omega) _)) fun a182 h181 => ?_
          have hget : Calls Tryz.prog 85 #[.slice a xs.length c, .int .i64 ((q + 4 : Nat) : Int), .int .i64 2] aw fun e w' => e = .returned (.tuple #[.int .i64 0, .bool false]) ∧ aw = w' := (by have z := getRef_any a c xs ((q + 4 : Nat) : Int) 2 aw HRa.out (by omega) (by omega); rw [g2] at z; exact z)
          refine wpk_call h181 (wanted_none rfl) rfl (by decide) (fr rfl) (fun args => callP_42 args _) rfl #[.slice a xs.length c, .int .i64 ((q + 4 : Nat) : Int), .int .i64 2] (by simp only [List.map_toArray, List.map_cons, List.map_nil, h181.ev 39 rfl, h181.ev 41 rfl]; rfl) (R := fun v w' => v = .tuple #[.int .i64 0, .bool false] ∧ aw = w') (hget.mono fun e w' q => ⟨_, q.1, rfl, q.2⟩) fun a184 vg wg rg h183 => ?_
          obtain ⟨rfl, rfl⟩ := rg; clear hget
          refine wmk h183 rfl rfl rfl rfl 42 rfl (fun _ => rfl) fun a186 h185 => ?_
          refine wv h185 rfl rfl rfl rfl (.int .i64 0) (by unfold execOp; simp only [h185.ev 38 rfl]; exact rfl) fun a188 h187 => ?_
          refine wv h187 rfl rfl rfl rfl (.bool false) (by unfold execOp; simp only [h187.ev 38 rfl]; exact rfl) fun a190 h189 => ?_
          refine wmk h189 rfl rfl rfl rfl 43 rfl (fun _ => rfl) fun a192 h191 => ?_
          refine wmk h191 rfl rfl rfl rfl 44 rfl (fun _ => rfl) fun a194 h193 => ?_
          have h195 := h193.subs (l' := [(13, _), (12, _), (11, _), (10, _), (7, _), (8, _), (9, _), (6, _), (5, _), (0, _)]) rfl
          clear h193
          iterate 6 go_step
          refine wmk h195 rfl rfl rfl rfl 11 rfl (fun _ => rfl) fun a197 h196 => ?_
          refine wv h196 rfl rfl rfl rfl (.bool false) (run_not rfl (h196.ev 45 rfl)) fun a199 h198 => ?_
          refine wmk h198 rfl rfl rfl rfl 46 rfl (fun _ => rfl) fun a201 h200 => ?_
          refine wpk_val h200 (by rw [wanted_of (g := 2) (want := false) (b := false) rfl (h200.yields (prev := 47) rfl (by simp))]; rfl) rfl (by decide) (fr rfl) (.bool false) (by unfold execOp; simp only [h200.ev 13 rfl]; rfl) fun a203 h202 => ?_
          refine wpk_val h202 (by rw [wanted_of (g := 2) (want := false) (b := false) rfl (h202.yields (prev := 47) rfl (by simp))]; rfl) rfl (by decide) (fr rfl) (.bool true) (run_not rfl (h202.ev 48 rfl)) fun a205 h204 => ?_
          refine wv h204 rfl rfl rfl rfl (.bool true) (run_pick rfl (h204.ev 47 rfl) (by rw [if_neg (by simp)]; exact h204.ev 49 rfl)) fun a207 h206 => ?_
          have h208 := h206.subs (l' := [(50, _), (13, _), (12, _), (11, _), (10, _), (7, _), (8, _), (9, _), (6, _), (5, _), (0, _)]) rfl
          clear h206
          iterate 3 go_step
          refine wp_cond (t := true) (h208.ev 50 rfl) ?_
          simp only [if_true]
          have h209 := h208.subs (l' := [(13, _), (12, _), (11, _), (10, _), (7, _), (8, _), (9, _), (6, _), (5, _), (0, _)]) rfl
          clear h208
          iterate 2 go_step
          refine wv h209 rfl rfl rfl rfl (.slice none 0 0) rfl fun a211 h210 => ?_
          refine wv h210 rfl rfl rfl rfl (.int .i64 0) rfl fun a213 h212 => ?_
          refine wv h212 rfl rfl rfl rfl (.int .i64 3) rfl fun a215 h214 => ?_
          iterate 4 go_step
          simp only [Exit.then, Exit.inBlock]
          exact retDr h214.defs (h214.known (2, .slice none 0 0) (by simp)) (h214.known (3, .int .i64 0) (by simp)) (h214.known (4, .int .i64 3) (by simp)) (decR_inl g0 h64 (HG.out.trans (getsR_2 g1 g2))) (Own.nil _ _ _ _) (HB.out)
        have g2 := getF_inP h2 (.inl rfl)
        change getF xs ((q + 4 : Nat) : Int) 2 = _ at g2
        obtain ⟨k, hk⟩ : ∃ k, k = ofLE ((xs.drop (q + 4)).take 2) := ⟨_, rfl⟩
        rw [← hk] at g2; clear hk
        by_cases h3 : 256 < k
        case pos =>
          have hc3 : decide ((256 : Int) < (k : Int)) = true := decide_eq_true (by omega)
          iterate 4 go_step
          refine wmk hK rfl rfl rfl rfl 9 rfl (fun _ => rfl) fun a217 h216 => ?_
          refine wmk h216 rfl rfl rfl rfl 5 rfl (fun _ => rfl) fun a219 h218 => ?_
          refine wv h218 rfl rfl rfl rfl (.bool true) (by unfold execOp; simp only [h218.ev 27 rfl, h218.ev 28 rfl]; exact run_v (ltIP _ _ _ _ _ hd0)) fun a221 h220 => ?_
          have h222 := h220.subs (l' := [(29, _), (7, _), (8, _), (9, _), (6, _), (5, _), (0, _)]) rfl
          clear h220
          iterate 3 go_step
          refine wp_cond (t := true) (h222.ev 29 rfl) ?_
          simp only [if_true]
          have h223 := h222.subs (l' := [(7, _), (8, _), (9, _), (6, _), (5, _), (0, _)]) rfl
          clear h222
          iterate 7 go_step
          refine wmk h223 rfl rfl rfl rfl 0 rfl (fun _ => rfl) fun a225 h224 => ?_
          refine wmk h224 rfl rfl rfl rfl 7 rfl (fun _ => rfl) fun a227 h226 => ?_
          have hget : Calls Tryz.prog 85 #[.slice a xs.length c, .int .i64 ((q : Nat) : Int), .int .i64 4] aw fun e w' => e = .returned (.tuple #[.int .i64 (x : Int), .bool true]) ∧ aw = w' := (by have z := getRef_any a c xs (q : Int) 4 aw HRa.out (by omega) (by omega); rw [g1] at z; exact z)
          refine wpk_call h226 (wanted_none rfl) rfl (by decide) (fr rfl) (fun args => callP_42 args _) rfl #[.slice a xs.length c, .int .i64 ((q : Nat) : Int), .int .i64 4] (by simp only [List.map_toArray, List.map_cons, List.map_nil, h226.ev 33 rfl, h226.ev 34 rfl]; rfl) (R := fun v w' => v = .tuple #[.int .i64 (x : Int), .bool true] ∧ aw = w') (hget.mono fun e w' q => ⟨_, q.1, rfl, q.2⟩) fun a229 vg wg rg h228 => ?_
          obtain ⟨rfl, rfl⟩ := rg; clear hget
          refine wmk h228 rfl rfl rfl rfl 35 rfl (fun _ => rfl) fun a231 h230 => ?_
          refine wv h230 rfl rfl rfl rfl (.int .i64 (x : Int)) (by unfold execOp; simp only [h230.ev 32 rfl]; exact rfl) fun a233 h232 => ?_
          refine wv h232 rfl rfl rfl rfl (.bool true) (by unfold execOp; simp only [h232.ev 32 rfl]; exact rfl) fun a235 h234 => ?_
          refine wmk h234 rfl rfl rfl rfl 36 rfl (fun _ => rfl) fun a237 h236 => ?_
          refine wmk h236 rfl rfl rfl rfl 37 rfl (fun _ => rfl) fun a239 h238 => ?_
          have h240 := h238.subs (l' := [(11, _), (10, _), (7, _), (8, _), (9, _), (6, _), (5, _), (0, _)]) rfl
          clear h238
          iterate 5 go_step
          refine wmk h240 rfl rfl rfl rfl 0 rfl (fun _ => rfl) fun a242 h241 => ?_
          refine wmk h241 rfl rfl rfl rfl 7 rfl (fun _ => rfl) fun a244 h243 => ?_
          refine wv h243 rfl rfl rfl rfl (.int .i64 ((q + 4 : Nat) : Int)) (by unfold execOp; simp only [h243.ev 40 rfl]; exact run_v (addNP _ _ _ _ _ (by omega) (by omega) (by omega) _)) fun a246 h245 => ?_
          have hget : Calls Tryz.prog 85 #[.slice a xs.length c, .int .i64 ((q + 4 : Nat) : Int), .int .i64 2] aw fun e w' => e = .returned (.tuple #[.int .i64 (k : Int), .bool true]) ∧ aw = w' := (by have z := getRef_any a c xs ((q + 4 : Nat) : Int) 2 aw HRa.out (by omega) (by omega); rw [g2] at z; exact z)
          refine wpk_call h245 (wanted_none rfl) rfl (by decide) (fr rfl) (fun args => callP_42 args _) rfl #[.slice a xs.length c, .int .i64 ((q + 4 : Nat) : Int), .int .i64 2] (by simp only [List.map_toArray, List.map_cons, List.map_nil, h245.ev 39 rfl, h245.ev 41 rfl]; rfl) (R := fun v w' => v = .tuple #[.int .i64 (k : Int), .bool true] ∧ aw = w') (hget.mono fun e w' q => ⟨_, q.1, rfl, q.2⟩) fun a248 vg wg rg h247 => ?_
          obtain ⟨rfl, rfl⟩ := rg; clear hget
          refine wmk h247 rfl rfl rfl rfl 42 rfl (fun _ => rfl) fun a250 h249 => ?_
          refine wv h249 rfl rfl rfl rfl (.int .i64 (k : Int)) (by unfold execOp; simp only [h249.ev 38 rfl]; exact rfl) fun a252 h251 => ?_
          refine wv h251 rfl rfl rfl rfl (.bool true) (by unfold execOp; simp only [h251.ev 38 rfl]; exact rfl) fun a254 h253 => ?_
          refine wmk h253 rfl rfl rfl rfl 43 rfl (fun _ => rfl) fun a256 h255 => ?_
          refine wmk h255 rfl rfl rfl rfl 44 rfl (fun _ => rfl) fun a258 h257 => ?_
          have h259 := h257.subs (l' := [(13, _), (12, _), (11, _), (10, _), (7, _), (8, _), (9, _), (6, _), (5, _), (0, _)]) rfl
          clear h257
          iterate 6 go_step
          refine wmk h259 rfl rfl rfl rfl 11 rfl (fun _ => rfl) fun a261 h260 => ?_
          refine wv h260 rfl rfl rfl rfl (.bool false) (run_not rfl (h260.ev 45 rfl)) fun a263 h262 => ?_
          refine wmk h262 rfl rfl rfl rfl 46 rfl (fun _ => rfl) fun a265 h264 => ?_
          refine wpk_val h264 (by rw [wanted_of (g := 2) (want := false) (b := false) rfl (h264.yields (prev := 47) rfl (by simp))]; rfl) rfl (by decide) (fr rfl) (.bool true) (by unfold execOp; simp only [h264.ev 13 rfl]; rfl) fun a267 h266 => ?_
          refine wpk_val h266 (by rw [wanted_of (g := 2) (want := false) (b := false) rfl (h266.yields (prev := 47) rfl (by simp))]; rfl) rfl (by decide) (fr rfl) (.bool false) (run_not rfl (h266.ev 48 rfl)) fun a269 h268 => ?_
          refine wv h268 rfl rfl rfl rfl (.bool false) (run_pick rfl (h268.ev 47 rfl) (by rw [if_neg (by simp)]; exact h268.ev 49 rfl)) fun a271 h270 => ?_
          have h272 := h270.subs (l' := [(50, _), (13, _), (12, _), (11, _), (10, _), (7, _), (8, _), (9, _), (6, _), (5, _), (0, _)]) rfl
          clear h270
          iterate 3 go_step
          refine wp_cond (t := false) (h272.ev 50 rfl) ?_
          simp only [Bool.false_eq_true, if_false]
          have h273 := h272.subs (l' := [(13, _), (12, _), (11, _), (10, _), (7, _), (8, _), (9, _), (6, _), (5, _), (0, _)]) rfl
          clear h272
          iterate 6 go_step
          refine wmk h273 rfl rfl rfl rfl 12 rfl (fun _ => rfl) fun a275 h274 => ?_
          refine wv h274 rfl rfl rfl rfl (.bool true) (by unfold execOp; simp only [h274.ev 51 rfl]; exact run_v (gtIP _ _ _ _ _ hc3)) fun a277 h276 => ?_
          have h278 := h276.subs (l' := [(52, _), (13, _), (12, _), (11, _), (10, _), (7, _), (8, _), (9, _), (6, _), (5, _), (0, _)]) rfl
          clear h276
          iterate 3 go_step
          refine wp_cond (t := true) (h278.ev 52 rfl) ?_
          simp only [if_true]
          have h279 := h278.subs (l' := [(13, _), (12, _), (11, _), (10, _), (7, _), (8, _), (9, _), (6, _), (5, _), (0, _)]) rfl
          clear h278
          iterate 2 go_step
          refine wv h279 rfl rfl rfl rfl (.slice none 0 0) rfl fun a281 h280 => ?_
          refine wv h280 rfl rfl rfl rfl (.int .i64 0) rfl fun a283 h282 => ?_
          refine wv h282 rfl rfl rfl rfl (.int .i64 2) rfl fun a285 h284 => ?_
          iterate 4 go_step
          simp only [Exit.then, Exit.inBlock]
          exact retDr h284.defs (h284.known (2, .slice none 0 0) (by simp)) (h284.known (3, .int .i64 0) (by simp)) (h284.known (4, .int .i64 2) (by simp)) (decR_inl g0 h64 (HG.out.trans (getsR_3 g1 g2 h3))) (Own.nil _ _ _ _) (HB.out)
        have hc3 : decide ((256 : Int) < (k : Int)) = false := decide_eq_false (by omega)
        by_cases h4 : xs.length < q + 6 + k
        case pos =>
          have hc4 : decide (((xs.length - (q + 6) : Nat) : Int) < (k : Int)) = true := decide_eq_true (by omega)
          iterate 4 go_step
          refine wmk hK rfl rfl rfl rfl 9 rfl (fun _ => rfl) fun a287 h286 => ?_
          refine wmk h286 rfl rfl rfl rfl 5 rfl (fun _ => rfl) fun a289 h288 => ?_
          refine wv h288 rfl rfl rfl rfl (.bool true) (by unfold execOp; simp only [h288.ev 27 rfl, h288.ev 28 rfl]; exact run_v (ltIP _ _ _ _ _ hd0)) fun a291 h290 => ?_
          have h292 := h290.subs (l' := [(29, _), (7, _), (8, _), (9, _), (6, _), (5, _), (0, _)]) rfl
          clear h290
          iterate 3 go_step
          refine wp_cond (t := true) (h292.ev 29 rfl) ?_
          simp only [if_true]
          have h293 := h292.subs (l' := [(7, _), (8, _), (9, _), (6, _), (5, _), (0, _)]) rfl
          clear h292
          iterate 7 go_step
          refine wmk h293 rfl rfl rfl rfl 0 rfl (fun _ => rfl) fun a295 h294 => ?_
          refine wmk h294 rfl rfl rfl rfl 7 rfl (fun _ => rfl) fun a297 h296 => ?_
          have hget : Calls Tryz.prog 85 #[.slice a xs.length c, .int .i64 ((q : Nat) : Int), .int .i64 4] aw fun e w' => e = .returned (.tuple #[.int .i64 (x : Int), .bool true]) ∧ aw = w' := (by have z := getRef_any a c xs (q : Int) 4 aw HRa.out (by omega) (by omega); rw [g1] at z; exact z)
          refine wpk_call h296 (wanted_none rfl) rfl (by decide) (fr rfl) (fun args => callP_42 args _) rfl #[.slice a xs.length c, .int .i64 ((q : Nat) : Int), .int .i64 4] (by simp only [List.map_toArray, List.map_cons, List.map_nil, h296.ev 33 rfl, h296.ev 34 rfl]; rfl) (R := fun v w' => v = .tuple #[.int .i64 (x : Int), .bool true] ∧ aw = w') (hget.mono fun e w' q => ⟨_, q.1, rfl, q.2⟩) fun a299 vg wg rg h298 => ?_
          obtain ⟨rfl, rfl⟩ := rg; clear hget
          refine wmk h298 rfl rfl rfl rfl 35 rfl (fun _ => rfl) fun a301 h300 => ?_
          refine wv h300 rfl rfl rfl rfl (.int .i64 (x : Int)) (by unfold execOp; simp only [h300.ev 32 rfl]; exact rfl) fun a303 h302 => ?_
          refine wv h302 rfl rfl rfl rfl (.bool true) (by unfold execOp; simp only [h302.ev 32 rfl]; exact rfl) fun a305 h304 => ?_
          refine wmk h304 rfl rfl rfl rfl 36 rfl (fun _ => rfl) fun a307 h306 => ?_
          refine wmk h306 rfl rfl rfl rfl 37 rfl (fun _ => rfl) fun a309 h308 => ?_
          have h310 := h308.subs (l' := [(11, _), (10, _), (7, _), (8, _), (9, _), (6, _), (5, _), (0, _)]) rfl
          clear h308
          iterate 5 go_step
          refine wmk h310 rfl rfl rfl rfl 0 rfl (fun _ => rfl) fun a312 h311 => ?_
          refine wmk h311 rfl rfl rfl rfl 7 rfl (fun _ => rfl) fun a314 h313 => ?_
          refine wv h313 rfl rfl rfl rfl (.int .i64 ((q + 4 : Nat) : Int)) (by unfold execOp; simp only [h313.ev 40 rfl]; exact run_v (addNP _ _ _ _ _ (by omega) (by omega) (by omega) _)) fun a316 h315 => ?_
          have hget : Calls Tryz.prog 85 #[.slice a xs.length c, .int .i64 ((q + 4 : Nat) : Int), .int .i64 2] aw fun e w' => e = .returned (.tuple #[.int .i64 (k : Int), .bool true]) ∧ aw = w' := (by have z := getRef_any a c xs ((q + 4 : Nat) : Int) 2 aw HRa.out (by omega) (by omega); rw [g2] at z; exact z)
          refine wpk_call h315 (wanted_none rfl) rfl (by decide) (fr rfl) (fun args => callP_42 args _) rfl #[.slice a xs.length c, .int .i64 ((q + 4 : Nat) : Int), .int .i64 2] (by simp only [List.map_toArray, List.map_cons, List.map_nil, h315.ev 39 rfl, h315.ev 41 rfl]; rfl) (R := fun v w' => v = .tuple #[.int .i64 (k : Int), .bool true] ∧ aw = w') (hget.mono fun e w' q => ⟨_, q.1, rfl, q.2⟩) fun a318 vg wg rg h317 => ?_
          obtain ⟨rfl, rfl⟩ := rg; clear hget
          refine wmk h317 rfl rfl rfl rfl 42 rfl (fun _ => rfl) fun a320 h319 => ?_
          refine wv h319 rfl rfl rfl rfl (.int .i64 (k : Int)) (by unfold execOp; simp only [h319.ev 38 rfl]; exact rfl) fun a322 h321 => ?_
          refine wv h321 rfl rfl rfl rfl (.bool true) (by unfold execOp; simp only [h321.ev 38 rfl]; exact rfl) fun a324 h323 => ?_
          refine wmk h323 rfl rfl rfl rfl 43 rfl (fun _ => rfl) fun a326 h325 => ?_
          refine wmk h325 rfl rfl rfl rfl 44 rfl (fun _ => rfl) fun a328 h327 => ?_
          have h329 := h327.subs (l' := [(13, _), (12, _), (11, _), (10, _), (7, _), (8, _), (9, _), (6, _), (5, _), (0, _)]) rfl
          clear h327
          iterate 6 go_step
          refine wmk h329 rfl rfl rfl rfl 11 rfl (fun _ => rfl) fun a331 h330 => ?_
          refine wv h330 rfl rfl rfl rfl (.bool false) (run_not rfl (h330.ev 45 rfl)) fun a333 h332 => ?_
          refine wmk h332 rfl rfl rfl rfl 46 rfl (fun _ => rfl) fun a335 h334 => ?_
          refine wpk_val h334 (by rw [wanted_of (g := 2) (want := false) (b := false) rfl (h334.yields (prev := 47) rfl (by simp))]; rfl) rfl (by decide) (fr rfl) (.bool true) (by unfold execOp; simp only [h334.ev 13 rfl]; rfl) fun a337 h336 => ?_
          refine wpk_val h336 (by rw [wanted_of (g := 2) (want := false) (b := false) rfl (h336.yields (prev := 47) rfl (by simp))]; rfl) rfl (by decide) (fr rfl) (.bool false) (run_not rfl (h336.ev 48 rfl)) fun a339 h338 => ?_
          refine wv h338 rfl rfl rfl rfl (.bool false) (run_pick rfl (h338.ev 47 rfl) (by rw [if_neg (by simp)]; exact h338.ev 49 rfl)) fun a341 h340 => ?_
          have h342 := h340.subs (l' := [(50, _), (13, _), (12, _), (11, _), (10, _), (7, _), (8, _), (9, _), (6, _), (5, _), (0, _)]) rfl
          clear h340
          iterate 3 go_step
          refine wp_cond (t := false) (h342.ev 50 rfl) ?_
          simp only [Bool.false_eq_true, if_false]
          have h343 := h342.subs (l' := [(13, _), (12, _), (11, _), (10, _), (7, _), (8, _), (9, _), (6, _), (5, _), (0, _)]) rfl
          clear h342
          iterate 6 go_step
          refine wmk h343 rfl rfl rfl rfl 12 rfl (fun _ => rfl) fun a345 h344 => ?_
          refine wv h344 rfl rfl rfl rfl (.bool false) (by unfold execOp; simp only [h344.ev 51 rfl]; exact run_v (gtIP _ _ _ _ _ hc3)) fun a347 h346 => ?_
          have h348 := h346.subs (l' := [(52, _), (13, _), (12, _), (11, _), (10, _), (7, _), (8, _), (9, _), (6, _), (5, _), (0, _)]) rfl
          clear h346
          iterate 3 go_step
          refine wp_cond (t := false) (h348.ev 52 rfl) ?_
          simp only [Bool.false_eq_true, if_false]
          have h349 := h348.subs (l' := [(13, _), (12, _), (11, _), (10, _), (7, _), (8, _), (9, _), (6, _), (5, _), (0, _)]) rfl
          clear h348
          iterate 5 go_step
          refine wmk h349 rfl rfl rfl rfl 7 rfl (fun _ => rfl) fun a351 h350 => ?_
          refine wv h350 rfl rfl rfl rfl (.int .i64 ((q + 6 : Nat) : Int)) (by unfold execOp; simp only [h350.ev 53 rfl]; exact run_v (addNP _ _ _ _ _ (by omega) (by omega) (by omega) _)) fun a353 h352 => ?_
          have h354 := h352.subs (l' := [(54, _), (53, _), (13, _), (12, _), (11, _), (10, _), (8, _), (9, _), (6, _), (5, _), (0, _)]) rfl
          clear h352
          refine wmk h354 rfl rfl rfl rfl 54 rfl (fun _ => rfl) fun a356 h355 => ?_
          have h357 := h355.subs (l' := [(7, _), (13, _), (12, _), (11, _), (10, _), (8, _), (9, _), (6, _), (5, _), (0, _)]) rfl
          clear h355
          iterate 6 go_step
          refine wmk h357 rfl rfl rfl rfl 0 rfl (fun _ => rfl) fun a359 h358 => ?_
          refine wv h358 rfl rfl rfl rfl (.int .i64 (xs.length : Int)) (run_lenBP rfl (h358.ev 55 rfl) _) fun a361 h360 => ?_
          refine wmk h360 rfl rfl rfl rfl 7 rfl (fun _ => rfl) fun a363 h362 => ?_
          refine wv h362 rfl rfl rfl rfl (.int .i64 ((xs.length - (q + 6) : Nat) : Int)) (by unfold execOp; simp only [h362.ev 56 rfl, h362.ev 57 rfl]; exact run_v (subIP _ _ _ _ _ (by omega) (by omega) (by omega) _)) fun a365 h364 => ?_
          refine wmk h364 rfl rfl rfl rfl 12 rfl (fun _ => rfl) fun a367 h366 => ?_
          refine wv h366 rfl rfl rfl rfl (.bool true) (by unfold execOp; simp only [h366.ev 58 rfl, h366.ev 59 rfl]; exact run_v (ltIP _ _ _ _ _ hc4)) fun a369 h368 => ?_
          have h370 := h368.subs (l' := [(60, _), (7, _), (13, _), (12, _), (11, _), (10, _), (8, _), (9, _), (6, _), (5, _), (0, _)]) rfl
          clear h368
          iterate 3 go_step
          refine wp_cond (t := true) (h370.ev 60 rfl) ?_
          simp only [if_true]
          have h371 := h370.subs (l' := [(7, _), (13, _), (12, _), (11, _), (10, _), (8, _), (9, _), (6, _), (5, _), (0, _)]) rfl
          clear h370
          iterate 2 go_step
          refine wv h371 rfl rfl rfl rfl (.slice none 0 0) rfl fun a373 h372 => ?_
          refine wv h372 rfl rfl rfl rfl (.int .i64 0) rfl fun a375 h374 => ?_
          refine wv h374 rfl rfl rfl rfl (.int .i64 3) rfl fun a377 h376 => ?_
          iterate 4 go_step
          simp only [Exit.then, Exit.inBlock]
          exact retDr h376.defs (h376.known (2, .slice none 0 0) (by simp)) (h376.known (3, .int .i64 0) (by simp)) (h376.known (4, .int .i64 3) (by simp)) (decR_inl g0 h64 (HG.out.trans (getsR_4 g1 g2 h3 h4))) (Own.nil _ _ _ _) (HB.out)
        have hc4 : decide (((xs.length - (q + 6) : Nat) : Int) < (k : Int)) = false := decide_eq_false (by omega)
        iterate 4 go_step
        refine wmk hK rfl rfl rfl rfl 9 rfl (fun _ => rfl) fun a379 h378 => ?_
        refine wmk h378 rfl rfl rfl rfl 5 rfl (fun _ => rfl) fun a381 h380 => ?_
        refine wv h380 rfl rfl rfl rfl (.bool true) (by unfold execOp; simp only [h380.ev 27 rfl, h380.ev 28 rfl]; exact run_v (ltIP _ _ _ _ _ hd0)) fun a383 h382 => ?_
        have h384 := h382.subs (l' := [(29, _), (7, _), (8, _), (9, _), (6, _), (5, _), (0, _)]) rfl
        clear h382
        iterate 3 go_step
        refine wp_cond (t := true) (h384.ev 29 rfl) ?_
        simp only [if_true]
        have h385 := h384.subs (l' := [(7, _), (8, _), (9, _), (6, _), (5, _), (0, _)]) rfl
        clear h384
        iterate 7 go_step
        refine wmk h385 rfl rfl rfl rfl 0 rfl (fun _ => rfl) fun a387 h386 => ?_
        refine wmk h386 rfl rfl rfl rfl 7 rfl (fun _ => rfl) fun a389 h388 => ?_
        have hget : Calls Tryz.prog 85 #[.slice a xs.length c, .int .i64 ((q : Nat) : Int), .int .i64 4] aw fun e w' => e = .returned (.tuple #[.int .i64 (x : Int), .bool true]) ∧ aw = w' := (by have z := getRef_any a c xs (q : Int) 4 aw HRa.out (by omega) (by omega); rw [g1] at z; exact z)
        refine wpk_call h388 (wanted_none rfl) rfl (by decide) (fr rfl) (fun args => callP_42 args _) rfl #[.slice a xs.length c, .int .i64 ((q : Nat) : Int), .int .i64 4] (by simp only [List.map_toArray, List.map_cons, List.map_nil, h388.ev 33 rfl, h388.ev 34 rfl]; rfl) (R := fun v w' => v = .tuple #[.int .i64 (x : Int), .bool true] ∧ aw = w') (hget.mono fun e w' q => ⟨_, q.1, rfl, q.2⟩) fun a391 vg wg rg h390 => ?_
        obtain ⟨rfl, rfl⟩ := rg; clear hget
        refine wmk h390 rfl rfl rfl rfl 35 rfl (fun _ => rfl) fun a393 h392 => ?_
        refine wv h392 rfl rfl rfl rfl (.int .i64 (x : Int)) (by unfold execOp; simp only [h392.ev 32 rfl]; exact rfl) fun a395 h394 => ?_
        refine wv h394 rfl rfl rfl rfl (.bool true) (by unfold execOp; simp only [h394.ev 32 rfl]; exact rfl) fun a397 h396 => ?_
        refine wmk h396 rfl rfl rfl rfl 36 rfl (fun _ => rfl) fun a399 h398 => ?_
        refine wmk h398 rfl rfl rfl rfl 37 rfl (fun _ => rfl) fun a401 h400 => ?_
        have h402 := h400.subs (l' := [(11, _), (10, _), (7, _), (8, _), (9, _), (6, _), (5, _), (0, _)]) rfl
        clear h400
        iterate 5 go_step
        refine wmk h402 rfl rfl rfl rfl 0 rfl (fun _ => rfl) fun a404 h403 => ?_
        refine wmk h403 rfl rfl rfl rfl 7 rfl (fun _ => rfl) fun a406 h405 => ?_
        refine wv h405 rfl rfl rfl rfl (.int .i64 ((q + 4 : Nat) : Int)) (by unfold execOp; simp only [h405.ev 40 rfl]; exact run_v (addNP _ _ _ _ _ (by omega) (by omega) (by omega) _)) fun a408 h407 => ?_
        have hget : Calls Tryz.prog 85 #[.slice a xs.length c, .int .i64 ((q + 4 : Nat) : Int), .int .i64 2] aw fun e w' => e = .returned (.tuple #[.int .i64 (k : Int), .bool true]) ∧ aw = w' := (by have z := getRef_any a c xs ((q + 4 : Nat) : Int) 2 aw HRa.out (by omega) (by omega); rw [g2] at z; exact z)
        refine wpk_call h407 (wanted_none rfl) rfl (by decide) (fr rfl) (fun args => callP_42 args _) rfl #[.slice a xs.length c, .int .i64 ((q + 4 : Nat) : Int), .int .i64 2] (by simp only [List.map_toArray, List.map_cons, List.map_nil, h407.ev 39 rfl, h407.ev 41 rfl]; rfl) (R := fun v w' => v = .tuple #[.int .i64 (k : Int), .bool true] ∧ aw = w') (hget.mono fun e w' q => ⟨_, q.1, rfl, q.2⟩) fun a410 vg wg rg h409 => ?_
        obtain ⟨rfl, rfl⟩ := rg; clear hget
        refine wmk h409 rfl rfl rfl rfl 42 rfl (fun _ => rfl) fun a412 h411 => ?_
        refine wv h411 rfl rfl rfl rfl (.int .i64 (k : Int)) (by unfold execOp; simp only [h411.ev 38 rfl]; exact rfl) fun a414 h413 => ?_
        refine wv h413 rfl rfl rfl rfl (.bool true) (by unfold execOp; simp only [h413.ev 38 rfl]; exact rfl) fun a416 h415 => ?_
        refine wmk h415 rfl rfl rfl rfl 43 rfl (fun _ => rfl) fun a418 h417 => ?_
        refine wmk h417 rfl rfl rfl rfl 44 rfl (fun _ => rfl) fun a420 h419 => ?_
        have h421 := h419.subs (l' := [(13, _), (12, _), (11, _), (10, _), (7, _), (8, _), (9, _), (6, _), (5, _), (0, _)]) rfl
        clear h419
        iterate 6 go_step
        refine wmk h421 rfl rfl rfl rfl 11 rfl (fun _ => rfl) fun a423 h422 => ?_
        refine wv h422 rfl rfl rfl rfl (.bool false) (run_not rfl (h422.ev 45 rfl)) fun a425 h424 => ?_
        refine wmk h424 rfl rfl rfl rfl 46 rfl (fun _ => rfl) fun a427 h426 => ?_
        refine wpk_val h426 (by rw [wanted_of (g := 2) (want := false) (b := false) rfl (h426.yields (prev := 47) rfl (by simp))]; rfl) rfl (by decide) (fr rfl) (.bool true) (by unfold execOp; simp only [h426.ev 13 rfl]; rfl) fun a429 h428 => ?_
        refine wpk_val h428 (by rw [wanted_of (g := 2) (want := false) (b := false) rfl (h428.yields (prev := 47) rfl (by simp))]; rfl) rfl (by decide) (fr rfl) (.bool false) (run_not rfl (h428.ev 48 rfl)) fun a431 h430 => ?_
        refine wv h430 rfl rfl rfl rfl (.bool false) (run_pick rfl (h430.ev 47 rfl) (by rw [if_neg (by simp)]; exact h430.ev 49 rfl)) fun a433 h432 => ?_
        have h434 := h432.subs (l' := [(50, _), (13, _), (12, _), (11, _), (10, _), (7, _), (8, _), (9, _), (6, _), (5, _), (0, _)]) rfl
        clear h432
        iterate 3 go_step
        refine wp_cond (t := false) (h434.ev 50 rfl) ?_
        simp only [Bool.false_eq_true, if_false]
        have h435 := h434.subs (l' := [(13, _), (12, _), (11, _), (10, _), (7, _), (8, _), (9, _), (6, _), (5, _), (0, _)]) rfl
        clear h434
        iterate 6 go_step
        refine wmk h435 rfl rfl rfl rfl 12 rfl (fun _ => rfl) fun a437 h436 => ?_
        refine wv h436 rfl rfl rfl rfl (.bool false) (by unfold execOp; simp only [h436.ev 51 rfl]; exact run_v (gtIP _ _ _ _ _ hc3)) fun a439 h438 => ?_
        have h440 := h438.subs (l' := [(52, _), (13, _), (12, _), (11, _), (10, _), (7, _), (8, _), (9, _), (6, _), (5, _), (0, _)]) rfl
        clear h438
        iterate 3 go_step
        refine wp_cond (t := false) (h440.ev 52 rfl) ?_
        simp only [Bool.false_eq_true, if_false]
        have h441 := h440.subs (l' := [(13, _), (12, _), (11, _), (10, _), (7, _), (8, _), (9, _), (6, _), (5, _), (0, _)]) rfl
        clear h440
        iterate 5 go_step
        refine wmk h441 rfl rfl rfl rfl 7 rfl (fun _ => rfl) fun a443 h442 => ?_
        refine wv h442 rfl rfl rfl rfl (.int .i64 ((q + 6 : Nat) : Int)) (by unfold execOp; simp only [h442.ev 53 rfl]; exact run_v (addNP _ _ _ _ _ (by omega) (by omega) (by omega) _)) fun a445 h444 => ?_
        have h446 := h444.subs (l' := [(54, _), (53, _), (13, _), (12, _), (11, _), (10, _), (8, _), (9, _), (6, _), (5, _), (0, _)]) rfl
        clear h444
        refine wmk h446 rfl rfl rfl rfl 54 rfl (fun _ => rfl) fun a448 h447 => ?_
        have h449 := h447.subs (l' := [(7, _), (13, _), (12, _), (11, _), (10, _), (8, _), (9, _), (6, _), (5, _), (0, _)]) rfl
        clear h447
        iterate 6 go_step
        refine wmk h449 rfl rfl rfl rfl 0 rfl (fun _ => rfl) fun a451 h450 => ?_
        refine wv h450 rfl rfl rfl rfl (.int .i64 (xs.length : Int)) (run_lenBP rfl (h450.ev 55 rfl) _) fun a453 h452 => ?_
        refine wmk h452 rfl rfl rfl rfl 7 rfl (fun _ => rfl) fun a455 h454 => ?_
        refine wv h454 rfl rfl rfl rfl (.int .i64 ((xs.length - (q + 6) : Nat) : Int)) (by unfold execOp; simp only [h454.ev 56 rfl, h454.ev 57 rfl]; exact run_v (subIP _ _ _ _ _ (by omega) (by omega) (by omega) _)) fun a457 h456 => ?_
        refine wmk h456 rfl rfl rfl rfl 12 rfl (fun _ => rfl) fun a459 h458 => ?_
        refine wv h458 rfl rfl rfl rfl (.bool false) (by unfold execOp; simp only [h458.ev 58 rfl, h458.ev 59 rfl]; exact run_v (ltIP _ _ _ _ _ hc4)) fun a461 h460 => ?_
        have h462 := h460.subs (l' := [(60, _), (7, _), (13, _), (12, _), (11, _), (10, _), (8, _), (9, _), (6, _), (5, _), (0, _)]) rfl
        clear h460
        iterate 3 go_step
        refine wp_cond (t := false) (h462.ev 60 rfl) ?_
        simp only [Bool.false_eq_true, if_false]
        have h463 := h462.subs (l' := [(7, _), (13, _), (12, _), (11, _), (10, _), (8, _), (9, _), (6, _), (5, _), (0, _)]) rfl
        clear h462
        iterate 5 go_step
        refine wmk h463 rfl rfl rfl rfl 8 rfl (fun _ => rfl) fun a465 h464 => ?_
        refine wmk h464 rfl rfl rfl rfl 10 rfl (fun _ => rfl) fun a467 h466 => ?_
        refine wmk h466 rfl rfl rfl rfl 0 rfl (fun _ => rfl) fun a469 h468 => ?_
        refine wmk h468 rfl rfl rfl rfl 7 rfl (fun _ => rfl) fun a471 h470 => ?_
        refine wmk h470 rfl rfl rfl rfl 7 rfl (fun _ => rfl) fun a473 h472 => ?_
        refine wmk h472 rfl rfl rfl rfl 12 rfl (fun _ => rfl) fun a475 h474 => ?_
        refine wv h474 rfl rfl rfl rfl (.int .i64 ((q + 6 + k : Nat) : Int)) (by unfold execOp; simp only [h474.ev 65 rfl, h474.ev 66 rfl]; exact run_v (addNP _ _ _ _ _ (by omega) (by omega) (by omega) _)) fun a477 h476 => ?_
        obtain ⟨dp, hsl, hrow⟩ := sliceLH (HRa.out) (q + 6) (q + 6 + k) (by omega) (by omega)
        rw [show q + 6 + k - (q + 6) = k by omega] at hsl hrow
        have hyl : ((xs.drop (q + 6)).take k).length = k := by simp; omega
        refine wv h476 rfl rfl rfl rfl (.slice dp k (c - (q + 6))) (by unfold execOp; simp only [Option.map_some, Option.map_none, h476.ev 63 rfl, h476.ev 64 rfl, h476.ev 67 rfl]; exact run_v (hsl _)) fun a479 h478 => ?_
        refine wv h478 rfl rfl rfl rfl (strB ((xs.drop (q + 6)).take k)) (by unfold execOp; simp only [h478.ev 68 rfl]; exact run_v (by have z := run_str hrow; rw [hyl] at z; exact z)) fun a481 h480 => ?_
        refine wv h480 rfl rfl rfl rfl (ptV ⟨(x : Int), (xs.drop (q + 6)).take k⟩) (by unfold execOp; simp only [List.map_toArray, List.map_cons, List.map_nil, h480.ev 62 rfl, h480.ev 69 rfl]; exact run_v (buildPt _ _ _)) fun a483 h482 => ?_
        obtain ⟨P, hP⟩ : ∃ P, P = (⟨(x : Int), (xs.drop (q + 6)).take k⟩ : PtM) := ⟨_, rfl⟩
        rw [← hP] at h482
        obtain ⟨wz, hwz⟩ : ∃ x, x = aw.alloc (.cells (ptC P).toArray 47) := ⟨_, rfl⟩
        have rz : RowPt wz (some ⟨aw.heap.size, 0, none⟩) 1 [P] := by rw [hwz]; exact rowPt1 _ _
        have oz : OwnPt wz w.heap.size la lc L := by rw [hwz]; exact Own.alloc HO.out _
        have bz : Below w.heap.size w wz := by rw [hwz]; exact kept_alloc HB.out _
        refine wv h482 rfl rfl rfl rfl (.slice (some ⟨aw.heap.size, 0, none⟩) ([P] : List PtM).length 1) (by unfold execOp; simp only [List.map_toArray, List.map_cons, List.map_nil, h482.ev 70 rfl]; exact run_v (buildPts _ _)) fun a485 h484 => ?_
        rw [← hwz]
        refine wpl_append rfl (.tmp 61) (.tmp 71) rfl EPt w.heap.size (h484.ev 61 rfl) (h484.ev 71 rfl) oz rz (pts_one _) (by show (L.length + 1) * 24 ≤ _; omega) (by show L.length + 1 ≤ _; omega) bz.size ?_
        intro la3 lc3 w3 o3 g3 b3
        refine wpk_enter (h484.put (d := 72) (by decide) (fr rfl) (.slice la3 (L.length + ([P] : List PtM).length) lc3)) fun a487 h486 => ?_
        have HO3 : Hid (OwnPt w3 w.heap.size la3 lc3 (L ++ [P])) := hid (by unfold OwnPt; rw [List.length_append, List.flatMap_append]; exact o3)
        have HB3 := hid (bz.trans b3); clear o3 g3 b3 oz rz bz hwz
        have h488 := h486.subs (l' := [(72, _), (71, _), (70, _), (69, _), (68, _), (67, _), (66, _), (65, _), (64, _), (63, _), (62, _), (61, _), (7, _), (13, _), (12, _), (11, _), (10, _), (9, _), (6, _), (5, _), (0, _)]) rfl
        clear h486
        refine wmk h488 rfl rfl rfl rfl 72 rfl (fun _ => rfl) fun a490 h489 => ?_
        have h491 := h489.subs (l' := [(8, _), (7, _), (13, _), (12, _), (11, _), (10, _), (9, _), (6, _), (5, _), (0, _)]) rfl
        clear h489
        iterate 4 go_step
        refine wmk h491 rfl rfl rfl rfl 7 rfl (fun _ => rfl) fun a493 h492 => ?_
        refine wmk h492 rfl rfl rfl rfl 12 rfl (fun _ => rfl) fun a495 h494 => ?_
        refine wv h494 rfl rfl rfl rfl (.int .i64 ((q + 6 + k : Nat) : Int)) (by unfold execOp; simp only [h494.ev 73 rfl, h494.ev 74 rfl]; exact run_v (addNP _ _ _ _ _ (by omega) (by omega) (by omega) _)) fun a497 h496 => ?_
        have h498 := h496.subs (l' := [(75, _), (74, _), (73, _), (8, _), (13, _), (12, _), (11, _), (10, _), (9, _), (6, _), (5, _), (0, _)]) rfl
        clear h496
        refine wmk h498 rfl rfl rfl rfl 75 rfl (fun _ => rfl) fun a500 h499 => ?_
        have h501 := h499.subs (l' := [(7, _), (8, _), (13, _), (12, _), (11, _), (10, _), (9, _), (6, _), (5, _), (0, _)]) rfl
        clear h499
        iterate 4 go_step
        refine wmk h501 rfl rfl rfl rfl 9 rfl (fun _ => rfl) fun a503 h502 => ?_
        refine wv h502 rfl rfl rfl rfl (.int .i64 ((i + 1 : Nat) : Int)) (by unfold execOp; simp only [h502.ev 30 rfl]; exact run_v (addNP _ _ _ _ _ (by omega) (by omega) (by omega) _)) fun a505 h504 => ?_
        have h506 := h504.subs (l' := [(31, _), (30, _), (7, _), (8, _), (13, _), (12, _), (11, _), (10, _), (6, _), (5, _), (0, _)]) rfl
        clear h504
        refine wmk h506 rfl rfl rfl rfl 31 rfl (fun _ => rfl) fun a508 h507 => ?_
        have h509 := h507.subs (l' := [(9, _), (7, _), (8, _), (13, _), (12, _), (11, _), (10, _), (6, _), (5, _), (0, _)]) rfl
        clear h507
        iterate 2 go_step
        refine ⟨⟨i + 1, q + 6 + k, L ++ [P], la3, lc3, by omega, by omega, ?_, ?_, ?_, HO3.out, HB3.out⟩, ?_⟩
        · rw [List.length_append, hL]; rfl
        · rw [List.length_append]; exact h509.subs rfl
        · rw [HG.out, getsR_5 g1 g2 h3 h4, hP, show n - (i + 1) = m by omega]
        · rw [h509.ev 9 rfl, hK.ev 9 rfl]; simp [intOf]; omega
      · have hd0 : decide ((i : Int) < (n : Int)) = false := decide_eq_false (by omega)
        have hG2 : getsR xs n 2 [] = .inr (L, q) := by rw [HG.out, show n - i = 0 by omega]; rfl
        have hdc := decR_inr g0 h64 hG2
        iterate 4 go_step
        refine wmk hK rfl rfl rfl rfl 9 rfl (fun _ => rfl) fun a511 h510 => ?_
        refine wmk h510 rfl rfl rfl rfl 5 rfl (fun _ => rfl) fun a513 h512 => ?_
        refine wv h512 rfl rfl rfl rfl (.bool false) (by unfold execOp; simp only [h512.ev 27 rfl, h512.ev 28 rfl]; exact run_v (ltIP _ _ _ _ _ hd0)) fun a515 h514 => ?_
        have h516 := h514.subs (l' := [(29, _), (7, _), (8, _), (9, _), (6, _), (5, _), (0, _)]) rfl
        clear h514
        iterate 3 go_step
        refine wp_cond (t := false) (h516.ev 29 rfl) ?_
        simp only [Bool.false_eq_true, if_false]
        have h517 := h516.subs (l' := [(7, _), (8, _), (9, _), (6, _), (5, _), (0, _)]) rfl
        clear h516
        iterate 6 go_step
        by_cases h5 : q + 4 ≤ xs.length
        case neg =>
          have g3 := getF_outP (xs := xs) (a := q) (k := 4) (by omega)
          change getF xs (q : Int) 4 = _ at g3
          go_step
          refine wmk h517 rfl rfl rfl rfl 0 rfl (fun _ => rfl) fun a519 h518 => ?_
          refine wmk h518 rfl rfl rfl rfl 7 rfl (fun _ => rfl) fun a521 h520 => ?_
          have hget : Calls Tryz.prog 85 #[.slice a xs.length c, .int .i64 ((q : Nat) : Int), .int .i64 4] aw fun e w' => e = .returned (.tuple #[.int .i64 0, .bool false]) ∧ aw = w' := (by have z := getRef_any a c xs (q : Int) 4 aw HRa.out (by omega) (by omega); rw [g3] at z; exact z)
          refine wpk_call h520 (wanted_none rfl) rfl (by decide) (fr rfl) (fun args => callP_42 args _) rfl #[.slice a xs.length c, .int .i64 ((q : Nat) : Int), .int .i64 4] (by simp only [List.map_toArray, List.map_cons, List.map_nil, h520.ev 77 rfl, h520.ev 78 rfl]; rfl) (R := fun v w' => v = .tuple #[.int .i64 0, .bool false] ∧ aw = w') (hget.mono fun e w' q => ⟨_, q.1, rfl, q.2⟩) fun a523 vg wg rg h522 => ?_
          obtain ⟨rfl, rfl⟩ := rg; clear hget
          refine wmk h522 rfl rfl rfl rfl 79 rfl (fun _ => rfl) fun a525 h524 => ?_
          refine wv h524 rfl rfl rfl rfl (.int .i64 0) (by unfold execOp; simp only [h524.ev 76 rfl]; exact rfl) fun a527 h526 => ?_
          refine wv h526 rfl rfl rfl rfl (.bool false) (by unfold execOp; simp only [h526.ev 76 rfl]; exact rfl) fun a529 h528 => ?_
          refine wmk h528 rfl rfl rfl rfl 80 rfl (fun _ => rfl) fun a531 h530 => ?_
          refine wmk h530 rfl rfl rfl rfl 81 rfl (fun _ => rfl) fun a533 h532 => ?_
          have h534 := h532.subs (l' := [(15, _), (14, _), (7, _), (8, _), (9, _), (6, _), (5, _), (0, _)]) rfl
          clear h532
          iterate 6 go_step
          refine wmk h534 rfl rfl rfl rfl 15 rfl (fun _ => rfl) fun a536 h535 => ?_
          refine wv h535 rfl rfl rfl rfl (.bool true) (run_not rfl (h535.ev 82 rfl)) fun a538 h537 => ?_
          have h539 := h537.subs (l' := [(83, _), (15, _), (14, _), (7, _), (8, _), (9, _), (6, _), (5, _), (0, _)]) rfl
          clear h537
          iterate 3 go_step
          refine wp_cond (t := true) (h539.ev 83 rfl) ?_
          simp only [if_true]
          have h540 := h539.subs (l' := [(15, _), (14, _), (7, _), (8, _), (9, _), (6, _), (5, _), (0, _)]) rfl
          clear h539
          iterate 2 go_step
          refine wv h540 rfl rfl rfl rfl (.slice none 0 0) rfl fun a542 h541 => ?_
          refine wv h541 rfl rfl rfl rfl (.int .i64 0) rfl fun a544 h543 => ?_
          refine wv h543 rfl rfl rfl rfl (.int .i64 3) rfl fun a546 h545 => ?_
          iterate 4 go_step
          simp only [Exit.then, Exit.inBlock]
          exact retDr h545.defs (h545.known (2, .slice none 0 0) (by simp)) (h545.known (3, .int .i64 0) (by simp)) (h545.known (4, .int .i64 3) (by simp)) (hdc.trans (endR_1 g3)) (Own.nil _ _ _ _) (HB.out)
        have g3 := getF_inP h5 (.inr rfl)
        change getF xs (q : Int) 4 = _ at g3
        obtain ⟨s, hs⟩ : ∃ s, s = ofLE ((xs.drop q).take 4) := ⟨_, rfl⟩
        rw [← hs] at g3; clear hs
        go_step
        refine wmk h517 rfl rfl rfl rfl 0 rfl (fun _ => rfl) fun a548 h547 => ?_
        refine wmk h547 rfl rfl rfl rfl 7 rfl (fun _ => rfl) fun a550 h549 => ?_
        have hget : Calls Tryz.prog 85 #[.slice a xs.length c, .int .i64 ((q : Nat) : Int), .int .i64 4] aw fun e w' => e = .returned (.tuple #[.int .i64 (s : Int), .bool true]) ∧ aw = w' := (by have z := getRef_any a c xs (q : Int) 4 aw HRa.out (by omega) (by omega); rw [g3] at z; exact z)
        refine wpk_call h549 (wanted_none rfl) rfl (by decide) (fr rfl) (fun args => callP_42 args _) rfl #[.slice a xs.length c, .int .i64 ((q : Nat) : Int), .int .i64 4] (by simp only [List.map_toArray, List.map_cons, List.map_nil, h549.ev 77 rfl, h549.ev 78 rfl]; rfl) (R := fun v w' => v = .tuple #[.int .i64 (s : Int), .bool true] ∧ aw = w') (hget.mono fun e w' q => ⟨_, q.1, rfl, q.2⟩) fun a552 vg wg rg h551 => ?_
        obtain ⟨rfl, rfl⟩ := rg; clear hget
        refine wmk h551 rfl rfl rfl rfl 79 rfl (fun _ => rfl) fun a554 h553 => ?_
        refine wv h553 rfl rfl rfl rfl (.int .i64 (s : Int)) (by unfold execOp; simp only [h553.ev 76 rfl]; exact rfl) fun a556 h555 => ?_
        refine wv h555 rfl rfl rfl rfl (.bool true) (by unfold execOp; simp only [h555.ev 76 rfl]; exact rfl) fun a558 h557 => ?_
        refine wmk h557 rfl rfl rfl rfl 80 rfl (fun _ => rfl) fun a560 h559 => ?_
        refine wmk h559 rfl rfl rfl rfl 81 rfl (fun _ => rfl) fun a562 h561 => ?_
        have h563 := h561.subs (l' := [(15, _), (14, _), (7, _), (8, _), (9, _), (6, _), (5, _), (0, _)]) rfl
        clear h561
        iterate 6 go_step
        refine wmk h563 rfl rfl rfl rfl 15 rfl (fun _ => rfl) fun a565 h564 => ?_
        refine wv h564 rfl rfl rfl rfl (.bool false) (run_not rfl (h564.ev 82 rfl)) fun a567 h566 => ?_
        have h568 := h566.subs (l' := [(83, _), (15, _), (14, _), (7, _), (8, _), (9, _), (6, _), (5, _), (0, _)]) rfl
        clear h566
        iterate 3 go_step
        refine wp_cond (t := false) (h568.ev 83 rfl) ?_
        simp only [Bool.false_eq_true, if_false]
        have h569 := h568.subs (l' := [(15, _), (14, _), (7, _), (8, _), (9, _), (6, _), (5, _), (0, _)]) rfl
        clear h568
        iterate 4 go_step
        by_cases h6 : s ≠ crcF (xs.take q)
        · have hbad : ((s : Int) != (crcF (xs.take q) : Int)) = true := by simp only [bne_iff_ne, ne_eq]; omega
          iterate 2 go_step
          refine wmk h569 rfl rfl rfl rfl 14 rfl (fun _ => rfl) fun a571 h570 => ?_
          refine wmk h570 rfl rfl rfl rfl 0 rfl (fun _ => rfl) fun a573 h572 => ?_
          refine wmk h572 rfl rfl rfl rfl 7 rfl (fun _ => rfl) fun a575 h574 => ?_
          obtain ⟨hsl, hrow⟩ := sliceH (HRa.out) q (by omega)
          have hyl : (xs.take q).length = q := by simp; omega
          refine wv h574 rfl rfl rfl rfl (.slice a q c) (by unfold execOp; simp only [Option.map_some, Option.map_none, h574.ev 85 rfl, h574.ev 86 rfl]; exact run_v (hsl _)) fun a577 h576 => ?_
          have hsum := sumRef_any a c (xs.take q) aw hrow; rw [hyl] at hsum
          refine wpk_call h576 (wanted_none rfl) rfl (by decide) (fr rfl) (fun args => callP_37 args _) rfl #[.slice a q c] (by simp only [List.map_toArray, List.map_cons, List.map_nil, h576.ev 87 rfl]) (R := fun v w' => v = .int .i64 (crcF (xs.take q) : Int) ∧ aw = w') (hsum.mono fun e w' q => ⟨_, q.1, rfl, q.2⟩) fun a579 vs ws rs h578 => ?_
          obtain ⟨rfl, rfl⟩ := rs
          refine wv h578 rfl rfl rfl rfl (.bool true) (by unfold execOp; simp only [h578.ev 84 rfl, h578.ev 88 rfl]; exact run_v (neqIP _ _ _ _ _ hbad)) fun a581 h580 => ?_
          have h582 := h580.subs (l' := [(89, _), (15, _), (14, _), (7, _), (8, _), (9, _), (6, _), (5, _), (0, _)]) rfl
          clear h580
          iterate 3 go_step
          refine wp_cond (t := true) (h582.ev 89 rfl) ?_
          simp only [if_true]
          have h583 := h582.subs (l' := [(15, _), (14, _), (7, _), (8, _), (9, _), (6, _), (5, _), (0, _)]) rfl
          clear h582
          iterate 2 go_step
          refine wv h583 rfl rfl rfl rfl (.slice none 0 0) rfl fun a585 h584 => ?_
          refine wv h584 rfl rfl rfl rfl (.int .i64 0) rfl fun a587 h586 => ?_
          refine wv h586 rfl rfl rfl rfl (.int .i64 4) rfl fun a589 h588 => ?_
          iterate 4 go_step
          simp only [Exit.then, Exit.inBlock]
          exact retDr h588.defs (h588.known (2, .slice none 0 0) (by simp)) (h588.known (3, .int .i64 0) (by simp)) (h588.known (4, .int .i64 4) (by simp)) (hdc.trans (endR_2 g3 h6)) (Own.nil _ _ _ _) (HB.out)
        · have hbad : ((s : Int) != (crcF (xs.take q) : Int)) = false := by simp only [bne_eq_false_iff_eq]; omega
          iterate 2 go_step
          refine wmk h569 rfl rfl rfl rfl 14 rfl (fun _ => rfl) fun a591 h590 => ?_
          refine wmk h590 rfl rfl rfl rfl 0 rfl (fun _ => rfl) fun a593 h592 => ?_
          refine wmk h592 rfl rfl rfl rfl 7 rfl (fun _ => rfl) fun a595 h594 => ?_
          obtain ⟨hsl, hrow⟩ := sliceH (HRa.out) q (by omega)
          have hyl : (xs.take q).length = q := by simp; omega
          refine wv h594 rfl rfl rfl rfl (.slice a q c) (by unfold execOp; simp only [Option.map_some, Option.map_none, h594.ev 85 rfl, h594.ev 86 rfl]; exact run_v (hsl _)) fun a597 h596 => ?_
          have hsum := sumRef_any a c (xs.take q) aw hrow; rw [hyl] at hsum
          refine wpk_call h596 (wanted_none rfl) rfl (by decide) (fr rfl) (fun args => callP_37 args _) rfl #[.slice a q c] (by simp only [List.map_toArray, List.map_cons, List.map_nil, h596.ev 87 rfl]) (R := fun v w' => v = .int .i64 (crcF (xs.take q) : Int) ∧ aw = w') (hsum.mono fun e w' q => ⟨_, q.1, rfl, q.2⟩) fun a599 vs ws rs h598 => ?_
          obtain ⟨rfl, rfl⟩ := rs
          refine wv h598 rfl rfl rfl rfl (.bool false) (by unfold execOp; simp only [h598.ev 84 rfl, h598.ev 88 rfl]; exact run_v (neqIP _ _ _ _ _ hbad)) fun a601 h600 => ?_
          have h602 := h600.subs (l' := [(89, _), (15, _), (14, _), (7, _), (8, _), (9, _), (6, _), (5, _), (0, _)]) rfl
          clear h600
          iterate 3 go_step
          refine wp_cond (t := false) (h602.ev 89 rfl) ?_
          simp only [Bool.false_eq_true, if_false]
          have h603 := h602.subs (l' := [(15, _), (14, _), (7, _), (8, _), (9, _), (6, _), (5, _), (0, _)]) rfl
          clear h602
          iterate 2 go_step
          obtain ⟨p, hp⟩ : ∃ p, p = q + 4 := ⟨_, rfl⟩
          iterate 3 go_step
          refine wmk h603 rfl rfl rfl rfl 7 rfl (fun _ => rfl) fun a605 h604 => ?_
          refine wv h604 rfl rfl rfl rfl (.int .i64 ((q + 4 : Nat) : Int)) (by unfold execOp; simp only [h604.ev 90 rfl]; exact run_v (addNP _ _ _ _ _ (by omega) (by omega) (by omega) _)) fun a607 h606 => ?_
          have h608 := h606.subs (l' := [(91, _), (90, _), (15, _), (14, _), (8, _), (9, _), (6, _), (5, _), (0, _)]) rfl
          clear h606
          refine wmk h608 rfl rfl rfl rfl 91 rfl (fun _ => rfl) fun a610 h609 => ?_
          have h611 := h609.subs (l' := [(7, _), (15, _), (14, _), (8, _), (9, _), (6, _), (5, _), (0, _)]) rfl
          clear h609
          iterate 2 go_step
          rw [← hp] at h611
          iterate 3 go_step
          refine wmk h611 rfl rfl rfl rfl 7 rfl (fun _ => rfl) fun a613 h612 => ?_
          refine wmk h612 rfl rfl rfl rfl 92 rfl (fun _ => rfl) fun a615 h614 => ?_
          have h616 := h614.subs (l' := [(16, _), (7, _), (15, _), (14, _), (8, _), (9, _), (6, _), (5, _), (0, _)]) rfl
          clear h614
          iterate 5 go_step
          refine wp_loop (I := fun a' w' => ∃ f : Nat, p ≤ f ∧ f ≤ p + pad8 p ∧ Kn 115 [(16, .int .i64 ((f : Nat) : Int)), (7, .int .i64 ((p : Nat) : Int)), (15, .bool true), (14, .int .i64 (s : Int)), (8, .slice la L.length lc), (9, .int .i64 ((i : Nat) : Int)), (6, .bool true), (5, .int .i64 (n : Int)), (0, .slice a xs.length c)] a' ∧ aw = w') (μ := fun a' _ => pad8 (intOf (a'.eval (.tmp 16))).toNat) ⟨p, Nat.le_refl _, by omega, h616, rfl⟩ ?_
          clear h616
          rintro aL2 aw2 ⟨f, hf1, hf2, hK2, rfl⟩
          have hp8 : pad8 p ≤ 7 := by unfold pad8; omega
          by_cases hm : 0 < f % 8
          · have hne : (((f % 8 : Nat) : Int) != 0) = true := by simp only [bne_iff_ne, ne_eq]; omega
            iterate 4 go_step
            refine wmk hK2 rfl rfl rfl rfl 16 rfl (fun _ => rfl) fun a618 h617 => ?_
            refine wv h617 rfl rfl rfl rfl (.int .i64 ((f % 8 : Nat) : Int)) (by unfold execOp; simp only [h617.ev 93 rfl]; exact run_v (remIP _ _ f _)) fun a620 h619 => ?_
            refine wv h619 rfl rfl rfl rfl (.bool true) (by unfold execOp; simp only [h619.ev 94 rfl]; exact run_v (neqIP _ _ _ _ _ hne)) fun a622 h621 => ?_
            have h623 := h621.subs (l' := [(95, _), (16, _), (7, _), (15, _), (14, _), (8, _), (9, _), (6, _), (5, _), (0, _)]) rfl
            clear h621
            iterate 3 go_step
            refine wp_cond (t := true) (h623.ev 95 rfl) ?_
            simp only [if_true]
            have h624 := h623.subs (l' := [(16, _), (7, _), (15, _), (14, _), (8, _), (9, _), (6, _), (5, _), (0, _)]) rfl
            clear h623
            iterate 5 go_step
            refine wmk h624 rfl rfl rfl rfl 16 rfl (fun _ => rfl) fun a626 h625 => ?_
            refine wv h625 rfl rfl rfl rfl (.int .i64 ((f + 1 : Nat) : Int)) (by unfold execOp; simp only [h625.ev 96 rfl]; exact run_v (addNP _ _ _ _ _ (by omega) (by omega) (by omega) _)) fun a628 h627 => ?_
            have h629 := h627.subs (l' := [(97, _), (96, _), (7, _), (15, _), (14, _), (8, _), (9, _), (6, _), (5, _), (0, _)]) rfl
            clear h627
            refine wmk h629 rfl rfl rfl rfl 97 rfl (fun _ => rfl) fun a631 h630 => ?_
            have h632 := h630.subs (l' := [(16, _), (7, _), (15, _), (14, _), (8, _), (9, _), (6, _), (5, _), (0, _)]) rfl
            clear h630
            iterate 2 go_step
            refine ⟨⟨f + 1, by omega, by unfold pad8 at *; omega, h632.subs rfl, rfl⟩, ?_⟩
            rw [h632.ev 16 rfl, hK2.ev 16 rfl]; show pad8 (((f + 1 : Nat) : Int)).toNat < pad8 ((f : Nat) : Int).toNat; rw [Int.toNat_natCast, Int.toNat_natCast]; unfold pad8; omega
          · have hne : (((f % 8 : Nat) : Int) != 0) = false := by rw [show f % 8 = 0 by omega]; rfl
            have hfp : f = p + pad8 p := by unfold pad8 at *; omega
            iterate 4 go_step
            refine wmk hK2 rfl rfl rfl rfl 16 rfl (fun _ => rfl) fun a634 h633 => ?_
            refine wv h633 rfl rfl rfl rfl (.int .i64 ((f % 8 : Nat) : Int)) (by unfold execOp; simp only [h633.ev 93 rfl]; exact run_v (remIP _ _ f _)) fun a636 h635 => ?_
            refine wv h635 rfl rfl rfl rfl (.bool false) (by unfold execOp; simp only [h635.ev 94 rfl]; exact run_v (neqIP _ _ _ _ _ hne)) fun a638 h637 => ?_
            have h639 := h637.subs (l' := [(95, _), (16, _), (7, _), (15, _), (14, _), (8, _), (9, _), (6, _), (5, _), (0, _)]) rfl
            clear h637
            iterate 3 go_step
            refine wp_cond (t := false) (h639.ev 95 rfl) ?_
            simp only [Bool.false_eq_true, if_false]
            have h640 := h639.subs (l' := [(16, _), (7, _), (15, _), (14, _), (8, _), (9, _), (6, _), (5, _), (0, _)]) rfl
            clear h639
            iterate 4 go_step
            obtain ⟨F, hF⟩ : ∃ F, F = f := ⟨_, rfl⟩
            rw [← hF] at hfp hf1 h640; clear hF hf2
            iterate 2 go_step
            by_cases h7 : xs.length < F
            · have hc5 : decide ((xs.length : Int) < ((F : Nat) : Int)) = true := decide_eq_true (by omega)
              iterate 2 go_step
              refine wmk h640 rfl rfl rfl rfl 0 rfl (fun _ => rfl) fun a642 h641 => ?_
              refine wv h641 rfl rfl rfl rfl (.int .i64 (xs.length : Int)) (run_lenBP rfl (h641.ev 98 rfl) _) fun a644 h643 => ?_
              refine wmk h643 rfl rfl rfl rfl 16 rfl (fun _ => rfl) fun a646 h645 => ?_
              refine wv h645 rfl rfl rfl rfl (.bool true) (by unfold execOp; simp only [h645.ev 99 rfl, h645.ev 100 rfl]; exact run_v (ltIP _ _ _ _ _ hc5)) fun a648 h647 => ?_
              have h649 := h647.subs (l' := [(101, _), (16, _), (7, _), (15, _), (14, _), (8, _), (9, _), (6, _), (5, _), (0, _)]) rfl
              clear h647
              iterate 3 go_step
              refine wp_cond (t := true) (h649.ev 101 rfl) ?_
              simp only [if_true]
              have h650 := h649.subs (l' := [(16, _), (7, _), (15, _), (14, _), (8, _), (9, _), (6, _), (5, _), (0, _)]) rfl
              clear h649
              iterate 2 go_step
              refine wv h650 rfl rfl rfl rfl (.slice none 0 0) rfl fun a652 h651 => ?_
              refine wv h651 rfl rfl rfl rfl (.int .i64 0) rfl fun a654 h653 => ?_
              refine wv h653 rfl rfl rfl rfl (.int .i64 3) rfl fun a656 h655 => ?_
              iterate 4 go_step
              simp only [Exit.then, Exit.inBlock]
              exact retDr h655.defs (h655.known (2, .slice none 0 0) (by simp)) (h655.known (3, .int .i64 0) (by simp)) (h655.known (4, .int .i64 3) (by simp)) (hdc.trans (endR_3 g3 h6 (by rw [← hp, ← hfp]; exact h7))) (Own.nil _ _ _ _) (HB.out)
            · have hc5 : decide ((xs.length : Int) < ((F : Nat) : Int)) = false := decide_eq_false (by omega)
              iterate 2 go_step
              refine wmk h640 rfl rfl rfl rfl 0 rfl (fun _ => rfl) fun a658 h657 => ?_
              refine wv h657 rfl rfl rfl rfl (.int .i64 (xs.length : Int)) (run_lenBP rfl (h657.ev 98 rfl) _) fun a660 h659 => ?_
              refine wmk h659 rfl rfl rfl rfl 16 rfl (fun _ => rfl) fun a662 h661 => ?_
              refine wv h661 rfl rfl rfl rfl (.bool false) (by unfold execOp; simp only [h661.ev 99 rfl, h661.ev 100 rfl]; exact run_v (ltIP _ _ _ _ _ hc5)) fun a664 h663 => ?_
              have h665 := h663.subs (l' := [(101, _), (16, _), (7, _), (15, _), (14, _), (8, _), (9, _), (6, _), (5, _), (0, _)]) rfl
              clear h663
              iterate 3 go_step
              refine wp_cond (t := false) (h665.ev 101 rfl) ?_
              simp only [Bool.false_eq_true, if_false]
              have h666 := h665.subs (l' := [(16, _), (7, _), (15, _), (14, _), (8, _), (9, _), (6, _), (5, _), (0, _)]) rfl
              clear h665
              iterate 6 go_step
              refine wmk h666 rfl rfl rfl rfl 7 rfl (fun _ => rfl) fun a668 h667 => ?_
              refine wmk h667 rfl rfl rfl rfl 102 rfl (fun _ => rfl) fun a670 h669 => ?_
              have h671 := h669.subs (l' := [(17, _), (16, _), (7, _), (15, _), (14, _), (8, _), (9, _), (6, _), (5, _), (0, _)]) rfl
              clear h669
              iterate 4 go_step
              refine wp_loop (I := fun a' w' => ∃ f : Nat, p ≤ f ∧ f ≤ F ∧ (∀ x ∈ (xs.drop p).take (f - p), x = 0) ∧ Kn 115 [(17, .int .i64 ((f : Nat) : Int)), (16, .int .i64 ((F : Nat) : Int)), (7, .int .i64 ((p : Nat) : Int)), (15, .bool true), (14, .int .i64 (s : Int)), (8, .slice la L.length lc), (9, .int .i64 ((i : Nat) : Int)), (6, .bool true), (5, .int .i64 (n : Int)), (0, .slice a xs.length c)] a' ∧ aw = w') (μ := fun a' _ => F - (intOf (a'.eval (.tmp 17))).toNat) ⟨p, Nat.le_refl _, hf1, (fun x hx => by rw [Nat.sub_self, List.take_zero] at hx; cases hx), h671, rfl⟩ ?_
              clear h671
              rintro aL3 aw3 ⟨f, hf3, hf4, hz, hK3, rfl⟩
              by_cases hlt : f < F
              · have hd0 : decide (((f : Nat) : Int) < ((F : Nat) : Int)) = true := decide_eq_true (by omega)
                have hfl : f < xs.length := by omega
                obtain ⟨pb, poff, ha0, hcell⟩ := rowB_cell HRa.out hfl
                by_cases hx0 : xs[f] = 0
                case neg =>
                  have hnz : (!decide (xs[f] = 0)) = true := by simp [hx0]
                  iterate 4 go_step
                  refine wmk hK3 rfl rfl rfl rfl 17 rfl (fun _ => rfl) fun a673 h672 => ?_
                  refine wmk h672 rfl rfl rfl rfl 16 rfl (fun _ => rfl) fun a675 h674 => ?_
                  refine wv h674 rfl rfl rfl rfl (.bool true) (by unfold execOp; simp only [h674.ev 103 rfl, h674.ev 104 rfl]; exact run_v (ltIP _ _ _ _ _ hd0)) fun a677 h676 => ?_
                  have h678 := h676.subs (l' := [(105, _), (17, _), (16, _), (7, _), (15, _), (14, _), (8, _), (9, _), (6, _), (5, _), (0, _)]) rfl
                  clear h676
                  iterate 3 go_step
                  refine wp_cond (t := true) (h678.ev 105 rfl) ?_
                  simp only [if_true]
                  have h679 := h678.subs (l' := [(17, _), (16, _), (7, _), (15, _), (14, _), (8, _), (9, _), (6, _), (5, _), (0, _)]) rfl
                  clear h678
                  iterate 7 go_step
                  refine wmk h679 rfl rfl rfl rfl 0 rfl (fun _ => rfl) fun a681 h680 => ?_
                  refine wmk h680 rfl rfl rfl rfl 17 rfl (fun _ => rfl) fun a683 h682 => ?_
                  refine wv h682 rfl rfl rfl rfl (.pointer (some ⟨pb, poff + f, none⟩)) (by unfold execOp; simp only [h682.ev 108 rfl, h682.ev 109 rfl]; exact run_v (by rw [ha0]; exact ixB pb poff _ c f hfl _)) fun a685 h684 => ?_
                  refine wv h684 rfl rfl rfl rfl (byteV xs[f]) (by unfold execOp; simp only [h684.ev 110 rfl]; exact run_v (loadUP hcell)) fun a687 h686 => ?_
                  refine wv h686 rfl rfl rfl rfl (.bool true) (by unfold execOp; simp only [h686.ev 111 rfl]; exact run_v (neU8z _ _ _ _ hnz)) fun a689 h688 => ?_
                  have h690 := h688.subs (l' := [(112, _), (17, _), (16, _), (7, _), (15, _), (14, _), (8, _), (9, _), (6, _), (5, _), (0, _)]) rfl
                  clear h688
                  iterate 3 go_step
                  refine wp_cond (t := true) (h690.ev 112 rfl) ?_
                  simp only [if_true]
                  have h691 := h690.subs (l' := [(17, _), (16, _), (7, _), (15, _), (14, _), (8, _), (9, _), (6, _), (5, _), (0, _)]) rfl
                  clear h690
                  iterate 2 go_step
                  refine wv h691 rfl rfl rfl rfl (.slice none 0 0) rfl fun a693 h692 => ?_
                  refine wv h692 rfl rfl rfl rfl (.int .i64 0) rfl fun a695 h694 => ?_
                  refine wv h694 rfl rfl rfl rfl (.int .i64 2) rfl fun a697 h696 => ?_
                  iterate 4 go_step
                  simp only [Exit.then, Exit.inBlock]
                  exact retDr h696.defs (h696.known (2, .slice none 0 0) (by simp)) (h696.known (3, .int .i64 0) (by simp)) (h696.known (4, .int .i64 2) (by simp)) (hdc.trans (endR_4 g3 h6 (by rw [← hp, ← hfp]; exact h7) (fun q4 => hx0 (q4 _ (by rw [← hp, show pad8 p = F - p by omega]; exact mem_sl hf3 hlt hfl))))) (Own.nil _ _ _ _) (HB.out)
                have hnz : (!decide (xs[f] = 0)) = false := by simp [hx0]
                iterate 4 go_step
                refine wmk hK3 rfl rfl rfl rfl 17 rfl (fun _ => rfl) fun a699 h698 => ?_
                refine wmk h698 rfl rfl rfl rfl 16 rfl (fun _ => rfl) fun a701 h700 => ?_
                refine wv h700 rfl rfl rfl rfl (.bool true) (by unfold execOp; simp only [h700.ev 103 rfl, h700.ev 104 rfl]; exact run_v (ltIP _ _ _ _ _ hd0)) fun a703 h702 => ?_
                have h704 := h702.subs (l' := [(105, _), (17, _), (16, _), (7, _), (15, _), (14, _), (8, _), (9, _), (6, _), (5, _), (0, _)]) rfl
                clear h702
                iterate 3 go_step
                refine wp_cond (t := true) (h704.ev 105 rfl) ?_
                simp only [if_true]
                have h705 := h704.subs (l' := [(17, _), (16, _), (7, _), (15, _), (14, _), (8, _), (9, _), (6, _), (5, _), (0, _)]) rfl
                clear h704
                iterate 7 go_step
                refine wmk h705 rfl rfl rfl rfl 0 rfl (fun _ => rfl) fun a707 h706 => ?_
                refine wmk h706 rfl rfl rfl rfl 17 rfl (fun _ => rfl) fun a709 h708 => ?_
                refine wv h708 rfl rfl rfl rfl (.pointer (some ⟨pb, poff + f, none⟩)) (by unfold execOp; simp only [h708.ev 108 rfl, h708.ev 109 rfl]; exact run_v (by rw [ha0]; exact ixB pb poff _ c f hfl _)) fun a711 h710 => ?_
                refine wv h710 rfl rfl rfl rfl (byteV xs[f]) (by unfold execOp; simp only [h710.ev 110 rfl]; exact run_v (loadUP hcell)) fun a713 h712 => ?_
                refine wv h712 rfl rfl rfl rfl (.bool false) (by unfold execOp; simp only [h712.ev 111 rfl]; exact run_v (neU8z _ _ _ _ hnz)) fun a715 h714 => ?_
                have h716 := h714.subs (l' := [(112, _), (17, _), (16, _), (7, _), (15, _), (14, _), (8, _), (9, _), (6, _), (5, _), (0, _)]) rfl
                clear h714
                iterate 3 go_step
                refine wp_cond (t := false) (h716.ev 112 rfl) ?_
                simp only [Bool.false_eq_true, if_false]
                have h717 := h716.subs (l' := [(17, _), (16, _), (7, _), (15, _), (14, _), (8, _), (9, _), (6, _), (5, _), (0, _)]) rfl
                clear h716
                iterate 4 go_step
                refine wmk h717 rfl rfl rfl rfl 17 rfl (fun _ => rfl) fun a719 h718 => ?_
                refine wv h718 rfl rfl rfl rfl (.int .i64 ((f + 1 : Nat) : Int)) (by unfold execOp; simp only [h718.ev 106 rfl]; exact run_v (addNP _ _ _ _ _ (by omega) (by omega) (by omega) _)) fun a721 h720 => ?_
                have h722 := h720.subs (l' := [(107, _), (106, _), (16, _), (7, _), (15, _), (14, _), (8, _), (9, _), (6, _), (5, _), (0, _)]) rfl
                clear h720
                refine wmk h722 rfl rfl rfl rfl 107 rfl (fun _ => rfl) fun a724 h723 => ?_
                have h725 := h723.subs (l' := [(17, _), (16, _), (7, _), (15, _), (14, _), (8, _), (9, _), (6, _), (5, _), (0, _)]) rfl
                clear h723
                iterate 2 go_step
                refine ⟨⟨f + 1, by omega, by omega, ?_, h725.subs rfl, rfl⟩, ?_⟩
                · exact sl_snoc hf3 hfl hz hx0
                · rw [h725.ev 17 rfl, hK3.ev 17 rfl]; simp [intOf]; omega
              · have hd0 : decide (((f : Nat) : Int) < ((F : Nat) : Int)) = false := decide_eq_false (by omega)
                obtain rfl : f = F := by omega
                have hd0 : decide (((f : Nat) : Int) < ((f : Nat) : Int)) = false := decide_eq_false (by omega)
                iterate 4 go_step
                refine wmk hK3 rfl rfl rfl rfl 17 rfl (fun _ => rfl) fun a727 h726 => ?_
                refine wmk h726 rfl rfl rfl rfl 16 rfl (fun _ => rfl) fun a729 h728 => ?_
                refine wv h728 rfl rfl rfl rfl (.bool false) (by unfold execOp; simp only [h728.ev 103 rfl, h728.ev 104 rfl]; exact run_v (ltIP _ _ _ _ _ hd0)) fun a731 h730 => ?_
                have h732 := h730.subs (l' := [(105, _), (17, _), (16, _), (7, _), (15, _), (14, _), (8, _), (9, _), (6, _), (5, _), (0, _)]) rfl
                clear h730
                iterate 3 go_step
                refine wp_cond (t := false) (h732.ev 105 rfl) ?_
                simp only [Bool.false_eq_true, if_false]
                have h733 := h732.subs (l' := [(17, _), (16, _), (7, _), (15, _), (14, _), (8, _), (9, _), (6, _), (5, _), (0, _)]) rfl
                clear h732
                iterate 7 go_step
                refine wmk h733 rfl rfl rfl rfl 8 rfl (fun _ => rfl) fun a735 h734 => ?_
                refine wmk h734 rfl rfl rfl rfl 16 rfl (fun _ => rfl) fun a737 h736 => ?_
                refine wmk h736 rfl rfl rfl rfl 113 rfl (fun _ => rfl) fun a739 h738 => ?_
                refine wmk h738 rfl rfl rfl rfl 114 rfl (fun _ => rfl) fun a741 h740 => ?_
                refine wv h740 rfl rfl rfl rfl (.int .i64 0) rfl fun a743 h742 => ?_
                have h744 := h742.subs (l' := [(4, _), (3, _), (2, _), (17, _), (16, _), (7, _), (15, _), (14, _), (8, _), (9, _), (6, _), (5, _), (0, _)]) rfl
                clear h742
                iterate 4 go_step
                exact retDr h744.defs (h744.known (2, .slice la L.length lc) (by simp)) (h744.known (3, .int .i64 ((f : Nat) : Int)) (by simp)) (h744.known (4, .int .i64 0) (by simp)) (by have z := hdc.trans (endR_5 g3 h6 (by rw [← hp, ← hfp]; exact h7) (by rw [← hp, show pad8 p = f - p by omega]; exact hz)); rw [← hp, ← hfp] at z; exact z) HO.out HB.out
end Go.Proofs.YtcackliabemecaaGreatDoor
/- Patches compared. (genPlgSp.py) -/
namespace Go.Proofs.YtcackliabemecaaGreatDoor
open Go.RowKit
set_option linter.unusedSimpArgs false
set_option linter.unusedVariables false
set_option maxRecDepth 100000

theorem eqPtN (x y : Operand) (p : PtM) (w : World) : (do eqGuard .neq 47 x y (ptV p) (ptV p); binOp .neq 47 (ptV p) (ptV p) : Sem Value).run Tryz.prog w = .ok (.bool false) w := by
  have u1 := Tryz.underlying47
  have a1 := Tryz.isAgg47
  have u2 := Tryz.underlying3
  have u3 := Tryz.underlying9
  have z1 := Tryz.sizeOf47
  have z2 := Tryz.sizeOf3
  have z3 := Tryz.sizeOf9
  unfold ptV ptC strB
  generalize bsB p.d = s
  generalize p.at_ = n
  go_simp
theorem rowPt_rg {w : World} {a : Option Addr} {c : Nat} {L : List PtM} (r : RowPt w a c L) {j : Nat} (hj : j < L.length) {pb poff : Nat} (ha : a = some ⟨pb, poff, none⟩) : w.rangeAt pb (poff + j * 2) (ptC L[j]) := by
  obtain ⟨b, off, e, h⟩ := rowPt_at r (by omega)
  rw [ha] at e
  cases e
  exact h j hj
set_option maxHeartbeats 4000000 in
theorem samePts_eq {w : World} {a b : Option Addr} {c d : Nat} {L : List PtM} (hA : RowPt w a c L) (hBR : RowPt w b d L) (hl : L.length ≤ 1000000) :
    Calls Tryz.prog 29 #[.slice a L.length c, .slice b L.length d] w fun e w' => e = .returned (.bool true) ∧ Below w.heap.size w w' := by
  have HA := hid hA; have HBR := hid hBR
  clear hA hBR
  go_enter Tryz.func29, Tryz.ntmps29
  iterate 3 go_step
  refine wpk_enter (N := 26) (l := [(0, .slice a L.length c), (1, .slice b L.length d)]) ⟨rfl, (by intro x hx; simp only [List.mem_cons, List.not_mem_nil, or_false] at hx; rcases hx with rfl | rfl <;> rfl), rfl⟩ fun a2 h1 => ?_
  refine wv h1 rfl rfl rfl rfl (.bool false) rfl fun a4 h3 => ?_
  iterate 4 go_step
  have hne : ((L.length : Int) != (L.length : Int)) = false := by simp
  iterate 2 go_step
  refine wmk h3 rfl rfl rfl rfl 0 rfl (fun _ => rfl) fun a6 h5 => ?_
  refine wv h5 rfl rfl rfl rfl (.int .i64 (L.length : Int)) (run_lenP rfl (h5.ev 6 rfl) _) fun a8 h7 => ?_
  refine wmk h7 rfl rfl rfl rfl 1 rfl (fun _ => rfl) fun a10 h9 => ?_
  refine wv h9 rfl rfl rfl rfl (.int .i64 (L.length : Int)) (run_lenP rfl (h9.ev 8 rfl) _) fun a12 h11 => ?_
  refine wv h11 rfl rfl rfl rfl (.bool false) (by unfold execOp; simp only [h11.ev 7 rfl, h11.ev 9 rfl]; exact run_v (neqIP _ _ _ _ _ hne)) fun a14 h13 => ?_
  have h15 := h13.subs (l' := [(10, _), (4, _), (0, _), (1, _)]) rfl
  clear h13
  iterate 3 go_step
  refine wp_cond (t := false) (h15.ev 10 rfl) ?_
  simp only [Bool.false_eq_true, if_false]
  have h16 := h15.subs (l' := [(4, _), (0, _), (1, _)]) rfl
  clear h15
  iterate 6 go_step
  refine wv h16 rfl rfl rfl rfl (.int .i64 0) rfl fun a18 h17 => ?_
  iterate 4 go_step
  have h19 := h17.subs (l' := [(5, _), (0, _), (1, _)]) rfl
  clear h17
  refine wp_loop (I := fun a' w' => ∃ j : Nat, j ≤ L.length ∧ Kn 26 [(5, .int .i64 (j : Int)), (0, .slice a L.length c), (1, .slice b L.length d)] a' ∧ Below w.heap.size w w') (μ := fun a' _ => L.length - (intOf (a'.eval (.tmp 5))).toNat) ⟨0, by omega, h19, Below.refl _ _⟩ ?_
  clear h19
  rintro aL aw ⟨j, hj, hK, hb⟩
  have HB := hid hb; clear hb
  by_cases hlt : j < L.length
  · have hd0 : decide ((j : Int) < (L.length : Int)) = true := decide_eq_true (by omega)
    obtain ⟨pa, oa, ha0, _⟩ := rowPt_at HA.out (by omega)
    obtain ⟨pb, ob, hb0, _⟩ := rowPt_at HBR.out (by omega)
    obtain ⟨p, hp⟩ : ∃ p, p = L[j] := ⟨_, rfl⟩
    have HPJ := hid hp; clear hp
    iterate 4 go_step
    refine wmk hK rfl rfl rfl rfl 5 rfl (fun _ => rfl) fun a21 h20 => ?_
    refine wmk h20 rfl rfl rfl rfl 0 rfl (fun _ => rfl) fun a23 h22 => ?_
    refine wv h22 rfl rfl rfl rfl (.int .i64 (L.length : Int)) (run_lenP rfl (h22.ev 12 rfl) _) fun a25 h24 => ?_
    refine wv h24 rfl rfl rfl rfl (.bool true) (by unfold execOp; simp only [h24.ev 11 rfl, h24.ev 13 rfl]; exact run_v (ltIP _ _ _ _ _ hd0)) fun a27 h26 => ?_
    have h28 := h26.subs (l' := [(14, _), (5, _), (0, _), (1, _)]) rfl
    clear h26
    iterate 3 go_step
    refine wp_cond (t := true) (h28.ev 14 rfl) ?_
    simp only [if_true]
    have h29 := h28.subs (l' := [(5, _), (0, _), (1, _)]) rfl
    clear h28
    iterate 6 go_step
    refine wp_region_held_drew (S := fun w' => w' = aw.drew) (by kernel_rfl) rfl (fun hS30 => ?_)
    have hra := (rowPt_rg (HA.out.mono (HB.out.drew)) hlt ha0); have hrb := (rowPt_rg (HBR.out.mono (HB.out.drew)) hlt hb0)
    rw [← HPJ.out] at hra hrb
    refine wpk_take hS30 h29 0 rfl rfl (by decide) (fr rfl) (by kernel_rfl) (by kernel_rfl) (by kernel_rfl) (fun _ _ _ _ h => h) (.slice a L.length c) (Or.inl ⟨Eq.refl true, fun w1 hSw => (by cases hSw; exact (by show (execOp _ (⟨_, .move (.tmp 0), _, _, _, _⟩ : Oper)).run _ _ = _; exact (by unfold execOp; simp only [h29.ev 0 rfl]; rfl)))⟩) fun a32 h31 => ?_
    refine wpk_take hS30 h31 1 rfl rfl (by decide) (fr rfl) (by kernel_rfl) (by kernel_rfl) (by kernel_rfl) (fun _ _ _ _ h => h) (.int .i64 (j : Int)) (Or.inl ⟨Eq.refl true, fun w1 hSw => (by cases hSw; exact (by show (execOp _ (⟨_, .move (.tmp 5), _, _, _, _⟩ : Oper)).run _ _ = _; exact (by unfold execOp; simp only [h31.ev 5 rfl]; rfl)))⟩) fun a34 h33 => ?_
    refine wpk_take hS30 h33 2 rfl rfl (by decide) (fr rfl) (by kernel_rfl) (by kernel_rfl) (by kernel_rfl) (fun _ _ _ _ h => h) (.pointer (some ⟨pa, oa + j * 2, none⟩)) (Or.inl ⟨Eq.refl true, fun w1 hSw => (by cases hSw; exact (by show (execOp _ (⟨_, .indexAddr 44 (.tmp 17) (.tmp 18), _, _, _, _⟩ : Oper)).run _ _ = _; exact (by unfold execOp; simp only [h33.ev 17 rfl, h33.ev 18 rfl]; exact run_v (by rw [ha0]; exact ixP _ _ _ _ j hlt _))))⟩) fun a36 h35 => ?_
    refine wpk_take hS30 h35 3 rfl rfl (by decide) (fr rfl) (by kernel_rfl) (by kernel_rfl) (by kernel_rfl) (fun _ _ _ _ h => h) (ptV p) (Or.inl ⟨Eq.refl true, fun w1 hSw => (by cases hSw; exact (by show (execOp _ (⟨_, .load 47 (.tmp 19), _, _, _, _⟩ : Oper)).run _ _ = _; exact (by unfold execOp; simp only [h35.ev 19 rfl]; exact run_v (run_loadAt_mid _ _ _ _ (ptC p) _ hra Tryz.underlying47 rfl (by rw [infoPt]; rfl)))))⟩) fun a38 h37 => ?_
    refine wpk_take hS30 h37 4 rfl rfl (by decide) (fr rfl) (by kernel_rfl) (by kernel_rfl) (by kernel_rfl) (fun _ _ _ _ h => h) (.slice b L.length d) (Or.inl ⟨Eq.refl true, fun w1 hSw => (by cases hSw; exact (by show (execOp _ (⟨_, .move (.tmp 1), _, _, _, _⟩ : Oper)).run _ _ = _; exact (by unfold execOp; simp only [h37.ev 1 rfl]; rfl)))⟩) fun a40 h39 => ?_
    refine wpk_take hS30 h39 5 rfl rfl (by decide) (fr rfl) (by kernel_rfl) (by kernel_rfl) (by kernel_rfl) (fun _ _ _ _ h => h) (.int .i64 (j : Int)) (Or.inl ⟨Eq.refl true, fun w1 hSw => (by cases hSw; exact (by show (execOp _ (⟨_, .move (.tmp 5), _, _, _, _⟩ : Oper)).run _ _ = _; exact (by unfold execOp; simp only [h39.ev 5 rfl]; rfl)))⟩) fun a42 h41 => ?_
    refine wpk_take hS30 h41 6 rfl rfl (by decide) (fr rfl) (by kernel_rfl) (by kernel_rfl) (by kernel_rfl) (fun _ _ _ _ h => h) (.pointer (some ⟨pb, ob + j * 2, none⟩)) (Or.inl ⟨Eq.refl true, fun w1 hSw => (by cases hSw; exact (by show (execOp _ (⟨_, .indexAddr 44 (.tmp 21) (.tmp 22), _, _, _, _⟩ : Oper)).run _ _ = _; exact (by unfold execOp; simp only [h41.ev 21 rfl, h41.ev 22 rfl]; exact run_v (by rw [hb0]; exact ixP _ _ _ _ j hlt _))))⟩) fun a44 h43 => ?_
    refine wpk_take hS30 h43 7 rfl rfl (by decide) (fr rfl) (by kernel_rfl) (by kernel_rfl) (by kernel_rfl) (fun _ _ _ _ h => h) (ptV p) (Or.inl ⟨Eq.refl true, fun w1 hSw => (by cases hSw; exact (by show (execOp _ (⟨_, .load 47 (.tmp 23), _, _, _, _⟩ : Oper)).run _ _ = _; exact (by unfold execOp; simp only [h43.ev 23 rfl]; exact run_v (run_loadAt_mid _ _ _ _ (ptC p) _ hrb Tryz.underlying47 rfl (by rw [infoPt]; rfl)))))⟩) fun a46 h45 => ?_
    refine wpk_take hS30 h45 8 rfl rfl (by decide) (fr rfl) (by kernel_rfl) (by kernel_rfl) (by kernel_rfl) (fun _ _ _ _ h => h) (.bool false) (Or.inl ⟨Eq.refl true, fun w1 hSw => (by cases hSw; exact (by show (execOp _ (⟨_, .binOp .neq 47 (.tmp 20) (.tmp 24) 47, _, _, _, _⟩ : Oper)).run _ _ = _; exact (by unfold execOp; simp only [h45.ev 20 rfl, h45.ev 24 rfl]; exact run_v (eqPtN _ _ _ _))))⟩) fun a48 h47 => ?_
    refine wpAnyH_done (by kernel_rfl) ?_ _
    have h49 := h47.subs (l' := [(25, _), (5, _), (0, _), (1, _)]) rfl
    clear h47
    iterate 2 go_step
    refine wp_cond (t := false) (h49.ev 25 rfl) ?_
    simp only [Bool.false_eq_true, if_false]
    have h50 := h49.subs (l' := [(5, _), (0, _), (1, _)]) rfl
    clear h49
    iterate 4 go_step
    refine wmk h50 rfl rfl rfl rfl 5 rfl (fun _ => rfl) fun a52 h51 => ?_
    refine wv h51 rfl rfl rfl rfl (.int .i64 ((j + 1 : Nat) : Int)) (by unfold execOp; simp only [h51.ev 15 rfl]; exact run_v (addIP _ _ j (by omega) _)) fun a54 h53 => ?_
    have h55 := h53.subs (l' := [(16, _), (15, _), (0, _), (1, _)]) rfl
    clear h53
    refine wmk h55 rfl rfl rfl rfl 16 rfl (fun _ => rfl) fun a57 h56 => ?_
    have h58 := h56.subs (l' := [(5, _), (0, _), (1, _)]) rfl
    clear h56
    iterate 2 go_step
    refine ⟨⟨j + 1, by omega, h58.subs rfl, HB.out.drew⟩, ?_⟩
    rw [h58.ev 5 rfl, hK.ev 5 rfl]; simp [intOf]; omega
  · have hd0 : decide ((j : Int) < (L.length : Int)) = false := decide_eq_false (by omega)
    iterate 4 go_step
    refine wmk hK rfl rfl rfl rfl 5 rfl (fun _ => rfl) fun a60 h59 => ?_
    refine wmk h59 rfl rfl rfl rfl 0 rfl (fun _ => rfl) fun a62 h61 => ?_
    refine wv h61 rfl rfl rfl rfl (.int .i64 (L.length : Int)) (run_lenP rfl (h61.ev 12 rfl) _) fun a64 h63 => ?_
    refine wv h63 rfl rfl rfl rfl (.bool false) (by unfold execOp; simp only [h63.ev 11 rfl, h63.ev 13 rfl]; exact run_v (ltIP _ _ _ _ _ hd0)) fun a66 h65 => ?_
    have h67 := h65.subs (l' := [(14, _), (5, _), (0, _), (1, _)]) rfl
    clear h65
    iterate 3 go_step
    refine wp_cond (t := false) (h67.ev 14 rfl) ?_
    simp only [Bool.false_eq_true, if_false]
    have h68 := h67.subs (l' := [(5, _), (0, _), (1, _)]) rfl
    clear h67
    iterate 7 go_step
    refine wv h68 rfl rfl rfl rfl (.bool true) rfl fun a70 h69 => ?_
    iterate 4 go_step
    exact bodyPost_ret (results_tmp1 rfl (h69.known (4, .bool true) (by simp))) h69.defs ⟨rfl, HB.out⟩
end Go.Proofs.YtcackliabemecaaGreatDoor
