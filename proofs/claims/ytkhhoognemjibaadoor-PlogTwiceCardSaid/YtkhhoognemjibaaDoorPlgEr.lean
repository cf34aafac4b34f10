/- The document's Encode. (genPlgEr.py) -/
import Derived.Test.YtkhhoognemjibaaDoorPlgMa
import Derived.Test.YtkhhoognemjibaaDoorPlgMb
namespace Go.Proofs.YtkhhoognemjibaaDoor
open Go.RowKit
set_option linter.unusedSimpArgs false
set_option linter.unusedVariables false
set_option maxRecDepth 100000

def lenOfS : Value → Nat
  | .slice _ n _ => n
  | _ => 0
theorem fa46g_0 (g off : Nat) (w : World) : (Instr.fieldAt 46 (.pointer (some ⟨g, off, none⟩)) 0).run Tryd.prog w = .ok (.pointer (some ⟨g, off, none⟩)) w := rfl
theorem fa46g_1 (g off : Nat) (w : World) : (Instr.fieldAt 46 (.pointer (some ⟨g, off, none⟩)) 1).run Tryd.prog w = .ok (.pointer (some ⟨g, off + 1, none⟩)) w := rfl
theorem remIP (x y : Operand) (n : Nat) (w : World) : (do eqGuard .rem 3 x y (.int .i64 (n : Int)) (.int .i64 8); binOp .rem 3 (.int .i64 (n : Int)) (.int .i64 8) : Sem Value).run Tryd.prog w = .ok (.int .i64 ((n % 8 : Nat) : Int)) w := by
  have u3 := Tryd.underlying3
  have a3 := Tryd.isAgg3
  have z3 := Tryd.sizeOf3
  have e0 : (n : Int).tmod 8 = ((n % 8 : Nat) : Int) := rfl
  have e1 : IntKind.i64.wrap ((n % 8 : Nat) : Int) = ((n % 8 : Nat) : Int) := IntWalk.i64_in _ (by omega)
  go_simp
theorem buildB1 (w : World) : (Instr.buildSlice 24 1 #[(0, .int .u8 0)]).run Tryd.prog w = .ok (.slice (some ⟨w.heap.size, 0, none⟩) 1 1) (w.alloc (.cells #[.int .u8 0] 5)) := by
  have u3 := Tryd.underlying24
  have u9 := Tryd.underlying5
  have z3 := Tryd.sizeOf5
  go_simp
theorem rowPt_cells {w : World} {a : Option Addr} {c : Nat} {L : List PtM} (r : RowPt w a c L) {j : Nat} (hj : j < L.length) {pb poff : Nat} (ha : a = some ⟨pb, poff, none⟩) :
    w.cell? ⟨pb, poff + j * 2, none⟩ = some (.int .i64 L[j].at_) ∧ w.cell? ⟨pb, poff + j * 2 + 1, none⟩ = some (strB L[j].d) := by
  obtain ⟨b, off, e, h⟩ := rowPt_at r (by omega)
  rw [ha] at e
  cases e
  exact ⟨h j hj 0 _ rfl, h j hj 1 _ rfl⟩
theorem callP_35 (args : Array Value) (w : World) : (callFunc 35 args).run Tryd.prog w = .ok (.enter 35 args) w := by
  have h := Tryd.func35
  go_simp
theorem callP_36 (args : Array Value) (w : World) : (callFunc 36 args).run Tryd.prog w = .ok (.enter 36 args) w := by
  have h := Tryd.func36
  go_simp
theorem callP_37 (args : Array Value) (w : World) : (callFunc 37 args).run Tryd.prog w = .ok (.enter 37 args) w := by
  have h := Tryd.func37
  go_simp
theorem retEr {w W : World} {L : List PtM} {a : Act} (hb : Below w.heap.size w W) (hbad : encOk L = false) (hd : a.defers = []) (h2 : a.tmps[2]? = some (.slice none 0 0)) (h3 : a.tmps[3]? = some (.int .i64 1)) :
    bodyPost Tryd.prog Tryd.f11 (fun e w' => ∃ ba bc, e = .returned (.tuple #[.slice ba (encL L).length bc, .int .i64 (encE L)]) ∧ OwnB w' w.heap.size ba bc (encL L) ∧ Below w.heap.size w w') .ret a W := by
  refine bodyPost_ret (results_tmp2 rfl h2 h3) hd ?_
  have e1 : encL L = [] := by unfold encL; rw [if_neg (by rw [hbad]; decide)]
  have e2 : encE L = 1 := by unfold encE; rw [if_neg (by rw [hbad]; decide)]
  rw [e1, e2]
  exact ⟨none, 0, rfl, Own.nil _ _ _ _, hb⟩
set_option maxHeartbeats 4000000 in
theorem encodeR_any {w : World} {a : Option Addr} {c : Nat} {L : List PtM} (hL : RowPt w a c L) (okP : okPts L) (hl9 : L.length ≤ 9223372036854775807) :
    Calls Tryd.prog 11 #[.slice a L.length c] w fun e w' => ∃ ba bc, e = .returned (.tuple #[.slice ba (encL L).length bc, .int .i64 (encE L)]) ∧ OwnB w' w.heap.size ba bc (encL L) ∧ Below w.heap.size w w' := by
  have HL := hid hL
  clear hL
  go_enter Tryd.func11, Tryd.ntmps11
  iterate 3 go_step
  refine wpk_enter (N := 70) (l := [(0, .slice a L.length c)]) ⟨rfl, (by intro x hx; simp only [List.mem_cons, List.not_mem_nil, or_false] at hx; rcases hx with rfl <;> rfl), rfl⟩ fun a2 h1 => ?_
  refine wv h1 rfl rfl rfl rfl (.slice none 0 0) rfl fun a4 h3 => ?_
  refine wv h3 rfl rfl rfl rfl (.int .i64 0) rfl fun a6 h5 => ?_
  iterate 4 go_step
  by_cases hn : 64 < L.length
  · have hbig : decide ((64 : Int) < (L.length : Int)) = true := decide_eq_true (by omega)
    iterate 2 go_step
    refine wmk h5 rfl rfl rfl rfl 0 rfl (fun _ => rfl) fun a8 h7 => ?_
    refine wv h7 rfl rfl rfl rfl (.int .i64 (L.length : Int)) (run_lenP rfl (h7.ev 7 rfl) _) fun a10 h9 => ?_
    refine wv h9 rfl rfl rfl rfl (.bool true) (by unfold execOp; simp only [h9.ev 8 rfl]; exact run_v (gtIP _ _ _ _ _ hbig)) fun a12 h11 => ?_
    have h13 := h11.subs (l' := [(9, _), (3, _), (2, _), (0, _)]) rfl
    clear h11
    iterate 3 go_step
    refine wp_cond (t := true) (h13.ev 9 rfl) ?_
    simp only [if_true]
    have h14 := h13.subs (l' := [(3, _), (2, _), (0, _)]) rfl
    clear h13
    iterate 2 go_step
    have h15 := h14.subs (l' := [(3, _), (0, _)]) rfl
    clear h14
    refine wv h15 rfl rfl rfl rfl (.slice none 0 0) rfl fun a17 h16 => ?_
    have h18 := h16.subs (l' := [(2, _), (0, _)]) rfl
    clear h16
    refine wv h18 rfl rfl rfl rfl (.int .i64 1) rfl fun a20 h19 => ?_
    iterate 4 go_step
    simp only [Exit.then, Exit.inBlock]
    exact retEr (Below.refl _ _) (by unfold encOk; rw [Bool.and_eq_false_iff]; left; exact decide_eq_false (by omega)) h19.defs (h19.known (2, .slice none 0 0) (by simp)) (h19.known (3, .int .i64 1) (by simp))
  · have hbig : decide ((64 : Int) < (L.length : Int)) = false := decide_eq_false (by omega)
    have H0 := hid (Below.refl w.heap.size w)
    iterate 2 go_step
    refine wmk h5 rfl rfl rfl rfl 0 rfl (fun _ => rfl) fun a22 h21 => ?_
    refine wv h21 rfl rfl rfl rfl (.int .i64 (L.length : Int)) (run_lenP rfl (h21.ev 7 rfl) _) fun a24 h23 => ?_
    refine wv h23 rfl rfl rfl rfl (.bool false) (by unfold execOp; simp only [h23.ev 8 rfl]; exact run_v (gtIP _ _ _ _ _ hbig)) fun a26 h25 => ?_
    have h27 := h25.subs (l' := [(9, _), (3, _), (2, _), (0, _)]) rfl
    clear h25
    iterate 3 go_step
    refine wp_cond (t := false) (h27.ev 9 rfl) ?_
    simp only [Bool.false_eq_true, if_false]
    have h28 := h27.subs (l' := [(3, _), (2, _), (0, _)]) rfl
    clear h27
    iterate 5 go_step
    refine wmk h28 rfl rfl rfl rfl 0 rfl (fun _ => rfl) fun a30 h29 => ?_
    refine wv h29 rfl rfl rfl rfl (.int .i64 (L.length : Int)) (run_lenP rfl (h29.ev 10 rfl) _) fun a32 h31 => ?_
    refine wpk_call h31 (wanted_none rfl) rfl (by decide) (fr rfl) (fun args => callP_35 args _) rfl #[.slice none 0 0, .int .i64 (L.length : Int), .int .i64 2] (by simp only [List.map_toArray, List.map_cons, List.map_nil, h31.ev 11 rfl]; rfl) (R := fun v w' => ∃ a2 c2, v = .slice a2 (putF [] (L.length : Int) 2).length c2 ∧ OwnB w' w.heap.size a2 c2 (putF [] (L.length : Int) 2) ∧ Below w.heap.size w w') ((putRef_any none 0 [] (L.length : Int) 2 w (Row.nil _ _) (by simp) (by omega)).mono fun e w' q => by obtain ⟨a2, c2, q1, q2, q3⟩ := q; exact ⟨_, q1, a2, c2, rfl, q2, q3⟩) fun a34 v0 w0 r0 h33 => ?_
    obtain ⟨ba0, bc0, rfl, o0, b0⟩ := r0
    obtain ⟨e0, he0⟩ : ∃ x, x = putF [] (L.length : Int) 2 := ⟨_, rfl⟩
    have le0 : e0.length ≤ ([] : List UInt8).length + 2 := by rw [he0]; exact putF_lenA _ _ 2
    rw [← he0] at o0 h33
    have HO0 := hid (o0.low H0.out.size); have HB0 := hid (kept_trans H0.out b0); have HE0 := hid he0; clear o0 b0 he0
    refine wmk h33 rfl rfl rfl rfl 12 rfl (fun _ => rfl) fun a36 h35 => ?_
    have h37 := h35.subs (l' := [(4, _), (3, _), (2, _), (0, _)]) rfl
    clear h35
    iterate 6 go_step
    refine wv h37 rfl rfl rfl rfl (.int .i64 0) rfl fun a39 h38 => ?_
    iterate 4 go_step
    have h40 := h38.subs (l' := [(4, _), (5, _), (3, _), (2, _), (0, _)]) rfl
    clear h38
    have hl0 : e0.length ≤ 2 + 262 * 0 := by simpa using le0
    refine wp_loop (I := fun a' w' => ∃ (j : Nat) (eb : List UInt8) (ba : Option Addr) (bc : Nat), j ≤ L.length ∧ Kn 70 [(4, .slice ba eb.length bc), (5, .int .i64 (j : Int)), (3, .int .i64 0), (2, .slice none 0 0), (0, .slice a L.length c)] a' ∧ eb = (L.take j).foldl encP1 (putF [] L.length 2) ∧ (L.take j).all okPt = true ∧ eb.length ≤ 2 + 262 * j ∧ OwnB w' w.heap.size ba bc eb ∧ Below w.heap.size w w') (μ := fun a' _ => L.length - (intOf (a'.eval (.tmp 5))).toNat) ⟨0, e0, ba0, bc0, by omega, h40, (by rw [List.take_zero, List.foldl_nil]; exact HE0.out), (by rw [List.take_zero, List.all_nil]), hl0, HO0.out, HB0.out⟩ ?_
    clear HO0 HB0 HE0 hl0 le0 h40
    rintro aL aw ⟨j, eb, ba, bc, hj, hK, heb, hall, hle, ho, hb⟩
    have HO := hid ho; have HB := hid hb; have HEB := hid heb; have HAL := hid hall; clear ho hb heb hall
    by_cases hlt : j < L.length
    · have hd0 : decide ((j : Int) < (L.length : Int)) = true := decide_eq_true (by omega)
      obtain ⟨pb, poff, ha0, _⟩ := rowPt_at (HL.out.mono HB.out) (by omega)
      have hsp := okP L[j] (List.getElem_mem hlt)
      obtain ⟨p, hp⟩ : ∃ p, p = L[j] := ⟨_, rfl⟩
      rw [← hp] at hsp
      unfold okI at hsp
      have HPJ := hid hp; clear hp
      have hclaw := rowPt_cells (HL.out.mono HB.out) hlt ha0; rw [← HPJ.out] at hclaw
      cases hfit : fitsB p.at_ 4 with
      | false =>
        iterate 4 go_step
        refine wmk hK rfl rfl rfl rfl 5 rfl (fun _ => rfl) fun a42 h41 => ?_
        refine wmk h41 rfl rfl rfl rfl 0 rfl (fun _ => rfl) fun a44 h43 => ?_
        refine wv h43 rfl rfl rfl rfl (.int .i64 (L.length : Int)) (run_lenP rfl (h43.ev 14 rfl) _) fun a46 h45 => ?_
        refine wv h45 rfl rfl rfl rfl (.bool true) (by unfold execOp; simp only [h45.ev 13 rfl, h45.ev 15 rfl]; exact run_v (ltIP _ _ _ _ _ hd0)) fun a48 h47 => ?_
        have h49 := h47.subs (l' := [(16, _), (4, _), (5, _), (3, _), (2, _), (0, _)]) rfl
        clear h47
        iterate 3 go_step
        refine wp_cond (t := true) (h49.ev 16 rfl) ?_
        simp only [if_true]
        have h50 := h49.subs (l' := [(4, _), (5, _), (3, _), (2, _), (0, _)]) rfl
        clear h49
        iterate 7 go_step
        refine wmk h50 rfl rfl rfl rfl 0 rfl (fun _ => rfl) fun a52 h51 => ?_
        refine wmk h51 rfl rfl rfl rfl 5 rfl (fun _ => rfl) fun a54 h53 => ?_
        refine wv h53 rfl rfl rfl rfl (.pointer (some ⟨pb, poff + j * 2, none⟩)) (by unfold execOp; simp only [h53.ev 19 rfl, h53.ev 20 rfl]; exact run_v (by rw [ha0]; exact ixP pb poff _ c j hlt _)) fun a56 h55 => ?_
        refine wv h55 rfl rfl rfl rfl (.pointer (some ⟨pb, poff + j * 2, none⟩)) (by unfold execOp; simp only [h55.ev 21 rfl]; exact run_v (fa46g_0 _ _ _)) fun a58 h57 => ?_
        refine wv h57 rfl rfl rfl rfl (.int .i64 p.at_) (by unfold execOp; simp only [h57.ev 22 rfl]; exact run_v (loadIP hclaw.1)) fun a60 h59 => ?_
        refine wpk_call h59 (wanted_none rfl) rfl (by decide) (fr rfl) (fun args => callP_36 args _) rfl #[.int .i64 p.at_, .int .i64 4] (by simp only [List.map_toArray, List.map_cons, List.map_nil, h59.ev 23 rfl]; rfl) (R := fun v w' => v = .bool (fitsB p.at_ 4) ∧ aw = w') ((fitsRef_any p.at_ 4 aw).mono fun e w' q => ⟨_, q.1, rfl, q.2⟩) fun a62 vf wf rf h61 => ?_
        obtain ⟨rfl, rfl⟩ := rf
        rw [hfit] at h61
        refine wmk h61 rfl rfl rfl rfl 24 rfl (fun _ => rfl) fun a64 h63 => ?_
        have h65 := h63.subs (l' := [(6, _), (4, _), (5, _), (3, _), (2, _), (0, _)]) rfl
        clear h63
        iterate 6 go_step
        refine wmk h65 rfl rfl rfl rfl 6 rfl (fun _ => rfl) fun a67 h66 => ?_
        refine wv h66 rfl rfl rfl rfl (.bool true) (run_not rfl (h66.ev 25 rfl)) fun a69 h68 => ?_
        refine wmk h68 rfl rfl rfl rfl 26 rfl (fun _ => rfl) fun a71 h70 => ?_
        refine wpk_skip h70 (by rw [wanted_of (g := 2) (want := false) (b := true) rfl (h70.yields (prev := 27) rfl (by simp))]; rfl) rfl (by decide) (fr rfl) fun a73 h72 => ?_
        refine wpk_skip h72 (by rw [wanted_of (g := 2) (want := false) (b := true) rfl (h72.yields (prev := 27) rfl (by simp))]; rfl) rfl (by decide) (fr rfl) fun a75 h74 => ?_
        refine wpk_skip h74 (by rw [wanted_of (g := 2) (want := false) (b := true) rfl (h74.yields (prev := 27) rfl (by simp))]; rfl) rfl (by decide) (fr rfl) fun a77 h76 => ?_
        refine wpk_skip h76 (by rw [wanted_of (g := 2) (want := false) (b := true) rfl (h76.yields (prev := 27) rfl (by simp))]; rfl) rfl (by decide) (fr rfl) fun a79 h78 => ?_
        refine wpk_skip h78 (by rw [wanted_of (g := 2) (want := false) (b := true) rfl (h78.yields (prev := 27) rfl (by simp))]; rfl) rfl (by decide) (fr rfl) fun a81 h80 => ?_
        refine wpk_skip h80 (by rw [wanted_of (g := 2) (want := false) (b := true) rfl (h80.yields (prev := 27) rfl (by simp))]; rfl) rfl (by decide) (fr rfl) fun a83 h82 => ?_
        refine wpk_skip h82 (by rw [wanted_of (g := 2) (want := false) (b := true) rfl (h82.yields (prev := 27) rfl (by simp))]; rfl) rfl (by decide) (fr rfl) fun a85 h84 => ?_
        refine wv h84 rfl rfl rfl rfl (.bool true) (run_pick rfl (h84.ev 27 rfl) rfl) fun a87 h86 => ?_
        have h88 := h86.subs (l' := [(35, _), (6, _), (4, _), (5, _), (3, _), (2, _), (0, _)]) rfl
        clear h86
        iterate 3 go_step
        refine wp_cond (t := true) (h88.ev 35 rfl) ?_
        simp only [if_true]
        have h89 := h88.subs (l' := [(6, _), (4, _), (5, _), (3, _), (2, _), (0, _)]) rfl
        clear h88
        iterate 2 go_step
        have h90 := h89.subs (l' := [(6, _), (4, _), (5, _), (3, _), (0, _)]) rfl
        clear h89
        refine wv h90 rfl rfl rfl rfl (.slice none 0 0) rfl fun a92 h91 => ?_
        have h93 := h91.subs (l' := [(2, _), (6, _), (4, _), (5, _), (0, _)]) rfl
        clear h91
        refine wv h93 rfl rfl rfl rfl (.int .i64 1) rfl fun a95 h94 => ?_
        iterate 4 go_step
        simp only [Exit.then, Exit.inBlock]
        have hbad : encOk L = false := by unfold encOk; rw [Bool.and_eq_false_iff]; right; rw [List.all_eq_false]; exact ⟨L[j], List.getElem_mem hlt, by rw [← HPJ.out]; unfold okPt; simp [hfit]⟩
        exact retEr HB.out hbad h94.defs (h94.known (2, .slice none 0 0) (by simp)) (h94.known (3, .int .i64 1) (by simp))
      | true =>
        by_cases hl2 : 256 < p.d.length
        · have hlong : decide ((256 : Int) < (p.d.length : Int)) = true := decide_eq_true (by omega)
          iterate 4 go_step
          refine wmk hK rfl rfl rfl rfl 5 rfl (fun _ => rfl) fun a97 h96 => ?_
          refine wmk h96 rfl rfl rfl rfl 0 rfl (fun _ => rfl) fun a99 h98 => ?_
          refine wv h98 rfl rfl rfl rfl (.int .i64 (L.length : Int)) (run_lenP rfl (h98.ev 14 rfl) _) fun a101 h100 => ?_
          refine wv h100 rfl rfl rfl rfl (.bool true) (by unfold execOp; simp only [h100.ev 13 rfl, h100.ev 15 rfl]; exact run_v (ltIP _ _ _ _ _ hd0)) fun a103 h102 => ?_
          have h104 := h102.subs (l' := [(16, _), (4, _), (5, _), (3, _), (2, _), (0, _)]) rfl
          clear h102
          iterate 3 go_step
          refine wp_cond (t := true) (h104.ev 16 rfl) ?_
          simp only [if_true]
          have h105 := h104.subs (l' := [(4, _), (5, _), (3, _), (2, _), (0, _)]) rfl
          clear h104
          iterate 7 go_step
          refine wmk h105 rfl rfl rfl rfl 0 rfl (fun _ => rfl) fun a107 h106 => ?_
          refine wmk h106 rfl rfl rfl rfl 5 rfl (fun _ => rfl) fun a109 h108 => ?_
          refine wv h108 rfl rfl rfl rfl (.pointer (some ⟨pb, poff + j * 2, none⟩)) (by unfold execOp; simp only [h108.ev 19 rfl, h108.ev 20 rfl]; exact run_v (by rw [ha0]; exact ixP pb poff _ c j hlt _)) fun a111 h110 => ?_
          refine wv h110 rfl rfl rfl rfl (.pointer (some ⟨pb, poff + j * 2, none⟩)) (by unfold execOp; simp only [h110.ev 21 rfl]; exact run_v (fa46g_0 _ _ _)) fun a113 h112 => ?_
          refine wv h112 rfl rfl rfl rfl (.int .i64 p.at_) (by unfold execOp; simp only [h112.ev 22 rfl]; exact run_v (loadIP hclaw.1)) fun a115 h114 => ?_
          refine wpk_call h114 (wanted_none rfl) rfl (by decide) (fr rfl) (fun args => callP_36 args _) rfl #[.int .i64 p.at_, .int .i64 4] (by simp only [List.map_toArray, List.map_cons, List.map_nil, h114.ev 23 rfl]; rfl) (R := fun v w' => v = .bool (fitsB p.at_ 4) ∧ aw = w') ((fitsRef_any p.at_ 4 aw).mono fun e w' q => ⟨_, q.1, rfl, q.2⟩) fun a117 vf wf rf h116 => ?_
          obtain ⟨rfl, rfl⟩ := rf
          rw [hfit] at h116
          refine wmk h116 rfl rfl rfl rfl 24 rfl (fun _ => rfl) fun a119 h118 => ?_
          have h120 := h118.subs (l' := [(6, _), (4, _), (5, _), (3, _), (2, _), (0, _)]) rfl
          clear h118
          iterate 6 go_step
          refine wmk h120 rfl rfl rfl rfl 6 rfl (fun _ => rfl) fun a122 h121 => ?_
          refine wv h121 rfl rfl rfl rfl (.bool false) (run_not rfl (h121.ev 25 rfl)) fun a124 h123 => ?_
          refine wmk h123 rfl rfl rfl rfl 26 rfl (fun _ => rfl) fun a126 h125 => ?_
          refine wpk_val h125 (by rw [wanted_of (g := 2) (want := false) (b := false) rfl (h125.yields (prev := 27) rfl (by simp))]; rfl) rfl (by decide) (fr rfl) (.slice a L.length c) (by unfold execOp; simp only [h125.ev 0 rfl]; rfl) fun a128 h127 => ?_
          refine wpk_val h127 (by rw [wanted_of (g := 2) (want := false) (b := false) rfl (h127.yields (prev := 27) rfl (by simp))]; rfl) rfl (by decide) (fr rfl) (.int .i64 (j : Int)) (by unfold execOp; simp only [h127.ev 5 rfl]; rfl) fun a130 h129 => ?_
          refine wpk_val h129 (by rw [wanted_of (g := 2) (want := false) (b := false) rfl (h129.yields (prev := 27) rfl (by simp))]; rfl) rfl (by decide) (fr rfl) (.pointer (some ⟨pb, poff + j * 2, none⟩)) (by unfold execOp; simp only [h129.ev 28 rfl, h129.ev 29 rfl]; exact run_v (by rw [ha0]; exact ixP pb poff _ c j hlt _)) fun a132 h131 => ?_
          refine wpk_val h131 (by rw [wanted_of (g := 2) (want := false) (b := false) rfl (h131.yields (prev := 27) rfl (by simp))]; rfl) rfl (by decide) (fr rfl) (.pointer (some ⟨pb, poff + j * 2 + 1, none⟩)) (by unfold execOp; simp only [h131.ev 30 rfl]; exact run_v (fa46g_1 _ _ _)) fun a134 h133 => ?_
          refine wpk_val h133 (by rw [wanted_of (g := 2) (want := false) (b := false) rfl (h133.yields (prev := 27) rfl (by simp))]; rfl) rfl (by decide) (fr rfl) (strB p.d) (by unfold execOp; simp only [h133.ev 31 rfl]; exact run_v (loadSP hclaw.2)) fun a136 h135 => ?_
          refine wpk_val h135 (by rw [wanted_of (g := 2) (want := false) (b := false) rfl (h135.yields (prev := 27) rfl (by simp))]; rfl) rfl (by decide) (fr rfl) (.int .i64 (p.d.length : Int)) (run_lenSP rfl (h135.ev 32 rfl) _) fun a138 h137 => ?_
          refine wpk_val h137 (by rw [wanted_of (g := 2) (want := false) (b := false) rfl (h137.yields (prev := 27) rfl (by simp))]; rfl) rfl (by decide) (fr rfl) (.bool true) (by unfold execOp; simp only [h137.ev 33 rfl]; exact run_v (gtIP _ _ _ _ _ hlong)) fun a140 h139 => ?_
          refine wv h139 rfl rfl rfl rfl (.bool true) (run_pick rfl (h139.ev 27 rfl) (by rw [if_neg (by simp)]; exact h139.ev 34 rfl)) fun a142 h141 => ?_
          have h143 := h141.subs (l' := [(35, _), (6, _), (4, _), (5, _), (3, _), (2, _), (0, _)]) rfl
          clear h141
          iterate 3 go_step
          refine wp_cond (t := true) (h143.ev 35 rfl) ?_
          simp only [if_true]
          have h144 := h143.subs (l' := [(6, _), (4, _), (5, _), (3, _), (2, _), (0, _)]) rfl
          clear h143
          iterate 2 go_step
          have h145 := h144.subs (l' := [(6, _), (4, _), (5, _), (3, _), (0, _)]) rfl
          clear h144
          refine wv h145 rfl rfl rfl rfl (.slice none 0 0) rfl fun a147 h146 => ?_
          have h148 := h146.subs (l' := [(2, _), (6, _), (4, _), (5, _), (0, _)]) rfl
          clear h146
          refine wv h148 rfl rfl rfl rfl (.int .i64 1) rfl fun a150 h149 => ?_
          iterate 4 go_step
          simp only [Exit.then, Exit.inBlock]
          have hbad : encOk L = false := by unfold encOk; rw [Bool.and_eq_false_iff]; right; rw [List.all_eq_false]; exact ⟨L[j], List.getElem_mem hlt, by rw [← HPJ.out]; unfold okPt; simp [hl2]⟩
          exact retEr HB.out hbad h149.defs (h149.known (2, .slice none 0 0) (by simp)) (h149.known (3, .int .i64 1) (by simp))
        · have hlong : decide ((256 : Int) < (p.d.length : Int)) = false := decide_eq_false (by omega)
          iterate 4 go_step
          refine wmk hK rfl rfl rfl rfl 5 rfl (fun _ => rfl) fun a152 h151 => ?_
          refine wmk h151 rfl rfl rfl rfl 0 rfl (fun _ => rfl) fun a154 h153 => ?_
          refine wv h153 rfl rfl rfl rfl (.int .i64 (L.length : Int)) (run_lenP rfl (h153.ev 14 rfl) _) fun a156 h155 => ?_
          refine wv h155 rfl rfl rfl rfl (.bool true) (by unfold execOp; simp only [h155.ev 13 rfl, h155.ev 15 rfl]; exact run_v (ltIP _ _ _ _ _ hd0)) fun a158 h157 => ?_
          have h159 := h157.subs (l' := [(16, _), (4, _), (5, _), (3, _), (2, _), (0, _)]) rfl
          clear h157
          iterate 3 go_step
          refine wp_cond (t := true) (h159.ev 16 rfl) ?_
          simp only [if_true]
          have h160 := h159.subs (l' := [(4, _), (5, _), (3, _), (2, _), (0, _)]) rfl
          clear h159
          iterate 7 go_step
          refine wmk h160 rfl rfl rfl rfl 0 rfl (fun _ => rfl) fun a162 h161 => ?_
          refine wmk h161 rfl rfl rfl rfl 5 rfl (fun _ => rfl) fun a164 h163 => ?_
          refine wv h163 rfl rfl rfl rfl (.pointer (some ⟨pb, poff + j * 2, none⟩)) (by unfold execOp; simp only [h163.ev 19 rfl, h163.ev 20 rfl]; exact run_v (by rw [ha0]; exact ixP pb poff _ c j hlt _)) fun a166 h165 => ?_
          refine wv h165 rfl rfl rfl rfl (.pointer (some ⟨pb, poff + j * 2, none⟩)) (by unfold execOp; simp only [h165.ev 21 rfl]; exact run_v (fa46g_0 _ _ _)) fun a168 h167 => ?_
          refine wv h167 rfl rfl rfl rfl (.int .i64 p.at_) (by unfold execOp; simp only [h167.ev 22 rfl]; exact run_v (loadIP hclaw.1)) fun a170 h169 => ?_
          refine wpk_call h169 (wanted_none rfl) rfl (by decide) (fr rfl) (fun args => callP_36 args _) rfl #[.int .i64 p.at_, .int .i64 4] (by simp only [List.map_toArray, List.map_cons, List.map_nil, h169.ev 23 rfl]; rfl) (R := fun v w' => v = .bool (fitsB p.at_ 4) ∧ aw = w') ((fitsRef_any p.at_ 4 aw).mono fun e w' q => ⟨_, q.1, rfl, q.2⟩) fun a172 vf wf rf h171 => ?_
          obtain ⟨rfl, rfl⟩ := rf
          rw [hfit] at h171
          refine wmk h171 rfl rfl rfl rfl 24 rfl (fun _ => rfl) fun a174 h173 => ?_
          have h175 := h173.subs (l' := [(6, _), (4, _), (5, _), (3, _), (2, _), (0, _)]) rfl
          clear h173
          iterate 6 go_step
          refine wmk h175 rfl rfl rfl rfl 6 rfl (fun _ => rfl) fun a177 h176 => ?_
          refine wv h176 rfl rfl rfl rfl (.bool false) (run_not rfl (h176.ev 25 rfl)) fun a179 h178 => ?_
          refine wmk h178 rfl rfl rfl rfl 26 rfl (fun _ => rfl) fun a181 h180 => ?_
          refine wpk_val h180 (by rw [wanted_of (g := 2) (want := false) (b := false) rfl (h180.yields (prev := 27) rfl (by simp))]; rfl) rfl (by decide) (fr rfl) (.slice a L.length c) (by unfold execOp; simp only [h180.ev 0 rfl]; rfl) fun a183 h182 => ?_
          refine wpk_val h182 (by rw [wanted_of (g := 2) (want := false) (b := false) rfl (h182.yields (prev := 27) rfl (by simp))]; rfl) rfl (by decide) (fr rfl) (.int .i64 (j : Int)) (by unfold execOp; simp only [h182.ev 5 rfl]; rfl) fun a185 h184 => ?_
          refine wpk_val h184 (by rw [wanted_of (g := 2) (want := false) (b := false) rfl (h184.yields (prev := 27) rfl (by simp))]; rfl) rfl (by decide) (fr rfl) (.pointer (some ⟨pb, poff + j * 2, none⟩)) (by unfold execOp; simp only [h184.ev 28 rfl, h184.ev 29 rfl]; exact run_v (by rw [ha0]; exact ixP pb poff _ c j hlt _)) fun a187 h186 => ?_
          refine wpk_val h186 (by rw [wanted_of (g := 2) (want := false) (b := false) rfl (h186.yields (prev := 27) rfl (by simp))]; rfl) rfl (by decide) (fr rfl) (.pointer (some ⟨pb, poff + j * 2 + 1, none⟩)) (by unfold execOp; simp only [h186.ev 30 rfl]; exact run_v (fa46g_1 _ _ _)) fun a189 h188 => ?_
          refine wpk_val h188 (by rw [wanted_of (g := 2) (want := false) (b := false) rfl (h188.yields (prev := 27) rfl (by simp))]; rfl) rfl (by decide) (fr rfl) (strB p.d) (by unfold execOp; simp only [h188.ev 31 rfl]; exact run_v (loadSP hclaw.2)) fun a191 h190 => ?_
          refine wpk_val h190 (by rw [wanted_of (g := 2) (want := false) (b := false) rfl (h190.yields (prev := 27) rfl (by simp))]; rfl) rfl (by decide) (fr rfl) (.int .i64 (p.d.length : Int)) (run_lenSP rfl (h190.ev 32 rfl) _) fun a193 h192 => ?_
          refine wpk_val h192 (by rw [wanted_of (g := 2) (want := false) (b := false) rfl (h192.yields (prev := 27) rfl (by simp))]; rfl) rfl (by decide) (fr rfl) (.bool false) (by unfold execOp; simp only [h192.ev 33 rfl]; exact run_v (gtIP _ _ _ _ _ hlong)) fun a195 h194 => ?_
          refine wv h194 rfl rfl rfl rfl (.bool false) (run_pick rfl (h194.ev 27 rfl) (by rw [if_neg (by simp)]; exact h194.ev 34 rfl)) fun a197 h196 => ?_
          have h198 := h196.subs (l' := [(35, _), (6, _), (4, _), (5, _), (3, _), (2, _), (0, _)]) rfl
          clear h196
          iterate 3 go_step
          refine wp_cond (t := false) (h198.ev 35 rfl) ?_
          simp only [Bool.false_eq_true, if_false]
          have h199 := h198.subs (l' := [(6, _), (4, _), (5, _), (3, _), (2, _), (0, _)]) rfl
          clear h198
          iterate 5 go_step
          refine wmk h199 rfl rfl rfl rfl 4 rfl (fun _ => rfl) fun a201 h200 => ?_
          refine wmk h200 rfl rfl rfl rfl 0 rfl (fun _ => rfl) fun a203 h202 => ?_
          refine wmk h202 rfl rfl rfl rfl 5 rfl (fun _ => rfl) fun a205 h204 => ?_
          refine wv h204 rfl rfl rfl rfl (.pointer (some ⟨pb, poff + j * 2, none⟩)) (by unfold execOp; simp only [h204.ev 37 rfl, h204.ev 38 rfl]; exact run_v (by rw [ha0]; exact ixP pb poff _ c j hlt _)) fun a207 h206 => ?_
          refine wv h206 rfl rfl rfl rfl (.pointer (some ⟨pb, poff + j * 2, none⟩)) (by unfold execOp; simp only [h206.ev 39 rfl]; exact run_v (fa46g_0 _ _ _)) fun a209 h208 => ?_
          refine wv h208 rfl rfl rfl rfl (.int .i64 p.at_) (by unfold execOp; simp only [h208.ev 40 rfl]; exact run_v (loadIP hclaw.1)) fun a211 h210 => ?_
          refine wpk_call h210 (wanted_none rfl) rfl (by decide) (fr rfl) (fun args => callP_35 args _) rfl #[.slice ba eb.length bc, .int .i64 p.at_, .int .i64 4] (by simp only [List.map_toArray, List.map_cons, List.map_nil, h210.ev 36 rfl, h210.ev 41 rfl]; rfl) (R := fun v w' => ∃ a2 c2, v = .slice a2 (putF eb p.at_ 4).length c2 ∧ OwnB w' aw.heap.size a2 c2 (putF eb p.at_ 4) ∧ Below aw.heap.size aw w') ((putRef_any ba bc eb p.at_ 4 aw HO.out.row (by omega) (by omega)).mono fun e w' q => by obtain ⟨a2, c2, q1, q2, q3⟩ := q; exact ⟨_, q1, a2, c2, rfl, q2, q3⟩) fun a213 v1 w1 r1 h212 => ?_
          obtain ⟨ba1, bc1, rfl, o1, b1⟩ := r1
          obtain ⟨e1, he1⟩ : ∃ x, x = putF eb p.at_ 4 := ⟨_, rfl⟩
          have le1 : e1.length ≤ (eb : List UInt8).length + 4 := by rw [he1]; exact putF_lenA _ _ 4
          rw [← he1] at o1 h212
          have HO1 := hid (o1.low HB.out.size); have HB1 := hid (kept_trans HB.out b1); have HE1 := hid he1; clear o1 b1 he1
          have hclw1 := rowPt_cells (HL.out.mono HB1.out) hlt ha0; rw [← HPJ.out] at hclw1
          have h214 := h212.subs (l' := [(42, _), (41, _), (40, _), (39, _), (38, _), (37, _), (36, _), (6, _), (5, _), (3, _), (2, _), (0, _)]) rfl
          clear h212
          refine wmk h214 rfl rfl rfl rfl 42 rfl (fun _ => rfl) fun a216 h215 => ?_
          have h217 := h215.subs (l' := [(4, _), (6, _), (5, _), (3, _), (2, _), (0, _)]) rfl
          clear h215
          iterate 5 go_step
          refine wmk h217 rfl rfl rfl rfl 4 rfl (fun _ => rfl) fun a219 h218 => ?_
          refine wmk h218 rfl rfl rfl rfl 0 rfl (fun _ => rfl) fun a221 h220 => ?_
          refine wmk h220 rfl rfl rfl rfl 5 rfl (fun _ => rfl) fun a223 h222 => ?_
          refine wv h222 rfl rfl rfl rfl (.pointer (some ⟨pb, poff + j * 2, none⟩)) (by unfold execOp; simp only [h222.ev 44 rfl, h222.ev 45 rfl]; exact run_v (by rw [ha0]; exact ixP pb poff _ c j hlt _)) fun a225 h224 => ?_
          refine wv h224 rfl rfl rfl rfl (.pointer (some ⟨pb, poff + j * 2 + 1, none⟩)) (by unfold execOp; simp only [h224.ev 46 rfl]; exact run_v (fa46g_1 _ _ _)) fun a227 h226 => ?_
          refine wv h226 rfl rfl rfl rfl (strB p.d) (by unfold execOp; simp only [h226.ev 47 rfl]; exact run_v (loadSP hclw1.2)) fun a229 h228 => ?_
          refine wv h228 rfl rfl rfl rfl (.int .i64 (p.d.length : Int)) (run_lenSP rfl (h228.ev 48 rfl) _) fun a231 h230 => ?_
          refine wpk_call h230 (wanted_none rfl) rfl (by decide) (fr rfl) (fun args => callP_35 args _) rfl #[.slice ba1 e1.length bc1, .int .i64 (p.d.length : Int), .int .i64 2] (by simp only [List.map_toArray, List.map_cons, List.map_nil, h230.ev 43 rfl, h230.ev 49 rfl]; rfl) (R := fun v w' => ∃ a2 c2, v = .slice a2 (putF e1 (p.d.length : Int) 2).length c2 ∧ OwnB w' w1.heap.size a2 c2 (putF e1 (p.d.length : Int) 2) ∧ Below w1.heap.size w1 w') ((putRef_any ba1 bc1 e1 (p.d.length : Int) 2 w1 HO1.out.row (by omega) (by omega)).mono fun e w' q => by obtain ⟨a2, c2, q1, q2, q3⟩ := q; exact ⟨_, q1, a2, c2, rfl, q2, q3⟩) fun a233 v2 w2 r2 h232 => ?_
          obtain ⟨ba2, bc2, rfl, o2, b2⟩ := r2
          obtain ⟨e2, he2⟩ : ∃ x, x = putF e1 (p.d.length : Int) 2 := ⟨_, rfl⟩
          have le2 : e2.length ≤ (e1 : List UInt8).length + 2 := by rw [he2]; exact putF_lenA _ _ 2
          rw [← he2] at o2 h232
          have HO2 := hid (o2.low HB1.out.size); have HB2 := hid (kept_trans HB1.out b2); have HE2 := hid he2; clear o2 b2 he2
          have hclw2 := rowPt_cells (HL.out.mono HB2.out) hlt ha0; rw [← HPJ.out] at hclw2
          have h234 := h232.subs (l' := [(50, _), (49, _), (48, _), (47, _), (46, _), (45, _), (44, _), (43, _), (6, _), (5, _), (3, _), (2, _), (0, _)]) rfl
          clear h232
          refine wmk h234 rfl rfl rfl rfl 50 rfl (fun _ => rfl) fun a236 h235 => ?_
          have h237 := h235.subs (l' := [(4, _), (6, _), (5, _), (3, _), (2, _), (0, _)]) rfl
          clear h235
          iterate 4 go_step
          refine wmk h237 rfl rfl rfl rfl 4 rfl (fun _ => rfl) fun a239 h238 => ?_
          refine wmk h238 rfl rfl rfl rfl 0 rfl (fun _ => rfl) fun a241 h240 => ?_
          refine wmk h240 rfl rfl rfl rfl 5 rfl (fun _ => rfl) fun a243 h242 => ?_
          refine wv h242 rfl rfl rfl rfl (.pointer (some ⟨pb, poff + j * 2, none⟩)) (by unfold execOp; simp only [h242.ev 52 rfl, h242.ev 53 rfl]; exact run_v (by rw [ha0]; exact ixP pb poff _ c j hlt _)) fun a245 h244 => ?_
          refine wv h244 rfl rfl rfl rfl (.pointer (some ⟨pb, poff + j * 2 + 1, none⟩)) (by unfold execOp; simp only [h244.ev 54 rfl]; exact run_v (fa46g_1 _ _ _)) fun a247 h246 => ?_
          refine wv h246 rfl rfl rfl rfl (strB p.d) (by unfold execOp; simp only [h246.ev 55 rfl]; exact run_v (loadSP hclw2.2)) fun a249 h248 => ?_
          refine wpl_append_str rfl (.tmp 51) (.tmp 56) rfl Tryd.underlying24 Tryd.underlying9 (by kernel_rfl) w.heap.size (h248.ev 51 rfl) (h248.ev 56 rfl) HO2.out (by rw [bsB_size]; omega) HB2.out.size ?_
          intro ba3 bc3 w3 o3 g3 b3
          rw [bsB_size, bsB_list] at o3
          rw [bsB_size]
          refine wpk_enter (h248.put (d := 57) (by decide) (fr rfl) (.slice ba3 (e2.length + p.d.length) bc3)) fun a251 h250 => ?_
          have HO3 : Hid (OwnB w3 w.heap.size ba3 bc3 (e2 ++ p.d)) := hid (by unfold OwnB; rw [List.length_append, List.map_append]; exact o3)
          have HB3 := hid (HB2.out.trans b3); clear o3 g3 b3
          have h252 := h250.subs (l' := [(57, _), (56, _), (55, _), (54, _), (53, _), (52, _), (51, _), (6, _), (5, _), (3, _), (2, _), (0, _)]) rfl
          clear h250
          refine wmk h252 rfl rfl rfl rfl 57 rfl (fun _ => rfl) fun a254 h253 => ?_
          have h255 := h253.subs (l' := [(4, _), (6, _), (5, _), (3, _), (2, _), (0, _)]) rfl
          clear h253
          iterate 4 go_step
          refine wmk h255 rfl rfl rfl rfl 5 rfl (fun _ => rfl) fun a257 h256 => ?_
          refine wv h256 rfl rfl rfl rfl (.int .i64 ((j + 1 : Nat) : Int)) (by unfold execOp; simp only [h256.ev 17 rfl]; exact run_v (addIP _ _ j (by omega) _)) fun a259 h258 => ?_
          have h260 := h258.subs (l' := [(18, _), (17, _), (4, _), (6, _), (3, _), (2, _), (0, _)]) rfl
          clear h258
          refine wmk h260 rfl rfl rfl rfl 18 rfl (fun _ => rfl) fun a262 h261 => ?_
          have h263 := h261.subs (l' := [(5, _), (4, _), (6, _), (3, _), (2, _), (0, _)]) rfl
          clear h261
          iterate 2 go_step
          refine ⟨⟨j + 1, e2 ++ p.d, ba3, bc3, by omega, by rw [List.length_append]; exact h263.subs rfl, ?_, ?_, ?_, HO3.out, HB3.out⟩, ?_⟩
          · rw [List.take_add_one, List.getElem?_eq_getElem hlt, Option.toList_some, List.foldl_append, ← HEB.out, ← HPJ.out]; show _ = encP1 eb p; unfold encP1; rw [HE2.out, HE1.out]
          · rw [List.take_add_one, List.getElem?_eq_getElem hlt, Option.toList_some, List.all_append, HAL.out, ← HPJ.out]; simp [okPt, hfit]; omega
          · rw [List.length_append]; omega
          · rw [h263.ev 5 rfl, hK.ev 5 rfl]; simp [intOf]; omega
    · have hd0 : decide ((j : Int) < (L.length : Int)) = false := decide_eq_false (by omega)
      obtain rfl : j = L.length := by omega
      iterate 4 go_step
      refine wmk hK rfl rfl rfl rfl 5 rfl (fun _ => rfl) fun a265 h264 => ?_
      refine wmk h264 rfl rfl rfl rfl 0 rfl (fun _ => rfl) fun a267 h266 => ?_
      refine wv h266 rfl rfl rfl rfl (.int .i64 (L.length : Int)) (run_lenP rfl (h266.ev 14 rfl) _) fun a269 h268 => ?_
      refine wv h268 rfl rfl rfl rfl (.bool false) (by unfold execOp; simp only [h268.ev 13 rfl, h268.ev 15 rfl]; exact run_v (ltIP _ _ _ _ _ hd0)) fun a271 h270 => ?_
      have h272 := h270.subs (l' := [(16, _), (4, _), (5, _), (3, _), (2, _), (0, _)]) rfl
      clear h270
      iterate 3 go_step
      refine wp_cond (t := false) (h272.ev 16 rfl) ?_
      simp only [Bool.false_eq_true, if_false]
      have h273 := h272.subs (l' := [(4, _), (5, _), (3, _), (2, _), (0, _)]) rfl
      clear h272
      iterate 7 go_step
      refine wmk h273 rfl rfl rfl rfl 4 rfl (fun _ => rfl) fun a275 h274 => ?_
      refine wmk h274 rfl rfl rfl rfl 4 rfl (fun _ => rfl) fun a277 h276 => ?_
      refine wpk_call h276 (wanted_none rfl) rfl (by decide) (fr rfl) (fun args => callP_37 args _) rfl #[.slice ba eb.length bc] (by simp only [List.map_toArray, List.map_cons, List.map_nil, h276.ev 59 rfl]) (R := fun v w' => v = .int .i64 (crcF eb : Int) ∧ aw = w') ((sumRef_any ba bc eb aw HO.out.row).mono fun e w' q => ⟨_, q.1, rfl, q.2⟩) fun a279 vs ws rs h278 => ?_
      obtain ⟨rfl, rfl⟩ := rs
      refine wpk_call h278 (wanted_none rfl) rfl (by decide) (fr rfl) (fun args => callP_35 args _) rfl #[.slice ba eb.length bc, .int .i64 (crcF eb : Int), .int .i64 4] (by simp only [List.map_toArray, List.map_cons, List.map_nil, h278.ev 58 rfl, h278.ev 60 rfl]; rfl) (R := fun v w' => ∃ a2 c2, v = .slice a2 (putF eb (crcF eb : Int) 4).length c2 ∧ OwnB w' aw.heap.size a2 c2 (putF eb (crcF eb : Int) 4) ∧ Below aw.heap.size aw w') ((putRef_any ba bc eb (crcF eb : Int) 4 aw HO.out.row (by omega) (by have := crcF_lt eb; omega)).mono fun e w' q => by obtain ⟨a2, c2, q1, q2, q3⟩ := q; exact ⟨_, q1, a2, c2, rfl, q2, q3⟩) fun a281 v5 w5 r5 h280 => ?_
      obtain ⟨ba5, bc5, rfl, o5, b5⟩ := r5
      obtain ⟨e5, he5⟩ : ∃ x, x = putF eb (crcF eb : Int) 4 := ⟨_, rfl⟩
      have le5 : e5.length ≤ (eb : List UInt8).length + 4 := by rw [he5]; exact putF_lenA _ _ 4
      rw [← he5] at o5 h280
      have HO5 := hid (o5.low HB.out.size); have HB5 := hid (kept_trans HB.out b5); have HE5 := hid he5; clear o5 b5 he5
      have h282 := h280.subs (l' := [(61, _), (60, _), (59, _), (58, _), (5, _), (3, _), (2, _), (0, _)]) rfl
      clear h280
      refine wmk h282 rfl rfl rfl rfl 61 rfl (fun _ => rfl) fun a284 h283 => ?_
      have h285 := h283.subs (l' := [(4, _), (5, _), (3, _), (2, _), (0, _)]) rfl
      clear h283
      iterate 5 go_step
      rw [List.take_length] at HEB HAL
      have H5 : Hid (e5 = sealY (encB L)) := hid (by unfold sealY encB; rw [← HEB.out]; exact HE5.out)
      clear HE5 HEB HO HB
      refine wp_loop (I := fun a' w' => ∃ (i : Nat) (eb : List UInt8) (ba : Option Addr) (bc : Nat), i ≤ pad8 e5.length ∧ Kn 70 [(4, .slice ba eb.length bc), (5, .int .i64 (L.length : Int)), (3, .int .i64 0), (2, .slice none 0 0), (0, .slice a L.length c)] a' ∧ eb = e5 ++ List.replicate i 0 ∧ eb.length = e5.length + i ∧ OwnB w' w.heap.size ba bc eb ∧ Below w.heap.size w w') (μ := fun a' _ => pad8 (lenOfS (a'.eval (.tmp 4)))) ⟨0, e5, ba5, bc5, Nat.zero_le _, h285, (by rw [List.replicate_zero, List.append_nil]), rfl, HO5.out, HB5.out⟩ ?_
      clear HO5 HB5 h285
      rintro aL2 aw2 ⟨i, eb2, ba2, bc2, hi, hK2, heb, hle2, ho, hb⟩
      obtain ⟨eb, hebx⟩ : ∃ x, x = eb2 := ⟨_, rfl⟩
      rw [← hebx] at heb hle2 ho hK2; clear hebx eb2
      obtain ⟨ba, hbax⟩ : ∃ x, x = ba2 := ⟨_, rfl⟩
      rw [← hbax] at ho hK2; clear hbax ba2
      obtain ⟨bc, hbcx⟩ : ∃ x, x = bc2 := ⟨_, rfl⟩
      rw [← hbcx] at ho hK2; clear hbcx bc2
      have HO := hid ho; have HB := hid hb; have HEB := hid heb; clear ho hb heb
      have hp8 : pad8 e5.length ≤ 7 := by unfold pad8; omega
      by_cases hm : eb.length % 8 = 0
      · have hne : (((eb.length % 8 : Nat) : Int) != 0) = false := by rw [hm]; rfl
        iterate 4 go_step
        refine wmk hK2 rfl rfl rfl rfl 4 rfl (fun _ => rfl) fun a287 h286 => ?_
        refine wv h286 rfl rfl rfl rfl (.int .i64 (eb.length : Int)) (run_lenBP rfl (h286.ev 62 rfl) _) fun a289 h288 => ?_
        refine wv h288 rfl rfl rfl rfl (.int .i64 ((eb.length % 8 : Nat) : Int)) (by unfold execOp; simp only [h288.ev 63 rfl]; exact run_v (remIP _ _ eb.length _)) fun a291 h290 => ?_
        refine wv h290 rfl rfl rfl rfl (.bool false) (by unfold execOp; simp only [h290.ev 64 rfl]; exact run_v (neqIP _ _ _ _ _ hne)) fun a293 h292 => ?_
        have h294 := h292.subs (l' := [(65, _), (4, _), (5, _), (3, _), (2, _), (0, _)]) rfl
        clear h292
        iterate 3 go_step
        refine wp_cond (t := false) (h294.ev 65 rfl) ?_
        simp only [Bool.false_eq_true, if_false]
        have h295 := h294.subs (l' := [(4, _), (5, _), (3, _), (2, _), (0, _)]) rfl
        clear h294
        iterate 7 go_step
        refine wmk h295 rfl rfl rfl rfl 4 rfl (fun _ => rfl) fun a317 h316 => ?_
        have h318 := h316.subs (l' := [(69, _), (4, _), (5, _), (3, _), (0, _)]) rfl
        clear h316
        refine wmk h318 rfl rfl rfl rfl 69 rfl (fun _ => rfl) fun a320 h319 => ?_
        have h321 := h319.subs (l' := [(2, _), (69, _), (4, _), (5, _), (0, _)]) rfl
        clear h319
        refine wv h321 rfl rfl rfl rfl (.int .i64 0) rfl fun a323 h322 => ?_
        have h324 := h322.subs (l' := [(3, _), (2, _), (4, _), (5, _), (0, _)]) rfl
        clear h322
        iterate 4 go_step
        refine bodyPost_ret (results_tmp2 rfl (h324.known (2, .slice ba eb.length bc) (by simp)) (h324.known (3, .int .i64 0) (by simp))) h324.defs ?_
        have hok : encOk L = true := by unfold encOk; rw [HAL.out, decide_eq_true (by omega)]; rfl
        have hi2 : i = pad8 e5.length := by unfold pad8 at *; omega
        have e1 : encL L = eb := by unfold encL; rw [if_pos hok]; unfold sealP; rw [← H5.out, HEB.out, hi2]
        have e2 : encE L = 0 := by unfold encE; rw [if_pos hok]
        rw [e1, e2]
        exact ⟨ba, bc, rfl, HO.out, HB.out⟩
      · have hne : (((eb.length % 8 : Nat) : Int) != 0) = true := by simp only [bne_iff_ne, ne_eq]; omega
        iterate 4 go_step
        refine wmk hK2 rfl rfl rfl rfl 4 rfl (fun _ => rfl) fun a297 h296 => ?_
        refine wv h296 rfl rfl rfl rfl (.int .i64 (eb.length : Int)) (run_lenBP rfl (h296.ev 62 rfl) _) fun a299 h298 => ?_
        refine wv h298 rfl rfl rfl rfl (.int .i64 ((eb.length % 8 : Nat) : Int)) (by unfold execOp; simp only [h298.ev 63 rfl]; exact run_v (remIP _ _ eb.length _)) fun a301 h300 => ?_
        refine wv h300 rfl rfl rfl rfl (.bool true) (by unfold execOp; simp only [h300.ev 64 rfl]; exact run_v (neqIP _ _ _ _ _ hne)) fun a303 h302 => ?_
        have h304 := h302.subs (l' := [(65, _), (4, _), (5, _), (3, _), (2, _), (0, _)]) rfl
        clear h302
        iterate 3 go_step
        refine wp_cond (t := true) (h304.ev 65 rfl) ?_
        simp only [if_true]
        have h305 := h304.subs (l' := [(4, _), (5, _), (3, _), (2, _), (0, _)]) rfl
        clear h304
        iterate 5 go_step
        refine wmk h305 rfl rfl rfl rfl 4 rfl (fun _ => rfl) fun a307 h306 => ?_
        obtain ⟨wz, hwz⟩ : ∃ x, x = aw2.alloc (.cells #[.int .u8 0] 5) := ⟨_, rfl⟩
        have rz : Row wz 1 (some ⟨aw2.heap.size, 0, none⟩) 1 1 [.int .u8 0] := by rw [hwz]; exact row_new1 _ _ _
        have oz : OwnB wz w.heap.size ba bc eb := by rw [hwz]; exact Own.alloc HO.out _
        have bz : Below w.heap.size w wz := by rw [hwz]; exact kept_alloc HB.out _
        refine wv h306 rfl rfl rfl rfl (.slice (some ⟨aw2.heap.size, 0, none⟩) 1 1) (by unfold execOp; simp only [List.map_toArray, List.map_cons, List.map_nil]; exact run_v (buildB1 _)) fun a309 h308 => ?_
        rw [← hwz]
        refine wpl_append rfl (.tmp 66) (.tmp 67) rfl E8 w.heap.size (h308.ev 66 rfl) (h308.ev 67 rfl) oz rz (by simp [Value.oneCell']) (by omega) (by omega) bz.size ?_
        intro ba3 bc3 w3 o3 g3 b3
        refine wpk_enter (h308.put (d := 68) (by decide) (fr rfl) (.slice ba3 (eb.length + 1) bc3)) fun a311 h310 => ?_
        have HO3 : Hid (OwnB w3 w.heap.size ba3 bc3 (eb ++ [0])) := hid (by unfold OwnB; rw [List.length_append, List.map_append]; exact o3)
        have HB3 := hid (bz.trans b3); clear o3 g3 b3 oz rz bz hwz
        have h312 := h310.subs (l' := [(68, _), (67, _), (66, _), (5, _), (3, _), (2, _), (0, _)]) rfl
        clear h310
        refine wmk h312 rfl rfl rfl rfl 68 rfl (fun _ => rfl) fun a314 h313 => ?_
        have h315 := h313.subs (l' := [(4, _), (5, _), (3, _), (2, _), (0, _)]) rfl
        clear h313
        iterate 2 go_step
        refine ⟨⟨i + 1, eb ++ [0], ba3, bc3, by unfold pad8 at *; omega, by rw [List.length_append]; exact h315.subs rfl, ?_, ?_, HO3.out, HB3.out⟩, ?_⟩
        · rw [HEB.out, List.replicate_succ', List.append_assoc]
        · rw [List.length_append]; show _ + 1 = _; omega
        · rw [h315.ev 4 rfl, hK2.ev 4 rfl]; show pad8 (eb.length + 1) < pad8 eb.length; unfold pad8; omega
end Go.Proofs.YtkhhoognemjibaaDoor
