/- The document's Clear and Redo. (genPlgLz.py) -/
import Derived.Test.YtkhhoognemjibaaGreatDoorPlgPr
import Derived.Test.YtkhhoognemjibaaGreatDoorPlgXr
namespace Go.Proofs.YtkhhoognemjibaaGreatDoor
open Go.RowKit
set_option linter.unusedSimpArgs false
set_option linter.unusedVariables false
set_option maxRecDepth 100000

theorem make8 (w : World) : ∃ w', (Instr.makeSlice 27 (.int .i64 8) (.int .i64 8)).run Tryz.prog w = .ok (.slice (some ⟨w.heap.size, 0, none⟩) 8 8) w' ∧ OwnB w' w.heap.size (some ⟨w.heap.size, 0, none⟩) 8 (List.replicate 8 0) ∧ Below w.heap.size w w' := by
  obtain ⟨i, h0, h1, h2, h3⟩ := info_parts (P := Tryz.prog) (e := 5) (bytes := 1) (z := .int .u8 0) (by kernel_rfl)
  obtain ⟨w', hrun, r1, r2⟩ := run_make_full (P := Tryz.prog) w w.heap.size 27 5 i (.int .u8 0) 1 Tryz.underlying27 h0 h1 h2 .i64 .i64 8 (by rw [h3]; omega) (by unfold maxLen; omega) (Nat.le_refl _)
  have e : (madeCells (Value.int .u8 0).cells (8 * 1)).toList = (List.replicate 8 (0 : UInt8)).map byteV := by kernel_rfl
  rw [e] at r1
  exact ⟨w', hrun, r1, (Below.refl _ w).grown r2 (Nat.le_refl _) (fun k hk => by cases hk)⟩
theorem fenceM_V (M : MemM) : (fenceM M).V = M.V := by unfold fenceM; rfl
theorem cellT {w w' : World} {X : Nat → Prop} (t : Turns X w w') {x : Addr} {v : Value} (h : w.cell? x = some v) (hx : ¬ X x.block) : w'.cell? x = some v := by
  have hb := t.block x.block (World.block_lt_of_cell? w _ h) hx
  unfold World.cell? at *
  rw [hb]
  exact h
theorem rangeT {w w' : World} {X : Nat → Prop} (t : Turns X w w') {b off : Nat} {L : List Value} (h : w.rangeAt b off L) (hx : ¬ X b) : w'.rangeAt b off L := fun j u hu => cellT t (h j u hu) hx
theorem recs_ge {w : World} {B : Nat} {ra : Option Addr} {rc : Nat} {rs : List (Option Addr × Nat × List PtM)} (h : RecsP w B ra rc rs) {j pb po : Nat} (hj : j < rs.length) (ha : ra = some ⟨pb, po, none⟩) {ad : Option Addr} {n c : Nat} (hc : w.cell? ⟨pb, po + j, none⟩ = some (.slice ad n c)) {qb qo : Nat} (hq : ad = some ⟨qb, qo, none⟩) : B ≤ qb := by
  obtain ⟨b, off, e, _, hcell⟩ := h.o.row.2.2.2.2 (by omega)
  rw [ha] at e
  cases e
  have h2 := hcell j (recV rs[j]) (by rw [List.getElem?_map, List.getElem?_eq_getElem hj]; rfl)
  rw [h2] at hc
  unfold recV at hc
  injection hc with hc
  injection hc with e1 e2 e3
  have o := h.i _ (List.getElem_mem hj)
  exact own_ge o (e1.trans hq)
theorem storeR_u {w : World} {g v d a : Nat} {M : MemM} (h : MemR w g v d a M) (at_ : Int) (hat : -9223372036854775808 ≤ at_ ∧ at_ ≤ 9223372036854775807) (ab : Option Addr) (c : Nat) (b : List UInt8) (hr : RowB w ab c b) (hs : 0 < b.length → ∀ k, (∃ off, ab = some ⟨k, off, none⟩) → k ≠ v ∧ k ≠ a) :
    Calls Tryz.prog 31 #[.pointer (some ⟨g, 0, none⟩), .int .i64 at_, .slice ab b.length c] w fun e w' => e = .returned (.int .i64 (errM M at_ b.length)) ∧ MemR w' g v d a (storeU M at_ b) ∧ Turns (fun k => k = v ∨ k = a) w w' := by
  refine (storeR_any h at_ hat ab c b hr hs).mono ?_
  intro e w' z
  unfold StoreR at z
  unfold storeU errM
  by_cases hi : inM M at_ b.length = true
  · rw [if_pos hi] at z; simp only [if_pos hi]; exact z
  · rw [if_neg hi] at z; simp only [if_neg hi]; obtain ⟨rfl, rfl⟩ := z; exact ⟨rfl, h, Turns.refl _ _⟩
theorem flushR_u {w : World} {g v d a : Nat} {M : MemM} (h : MemR w g v d a M) (at_ n : Int) (hat : -9223372036854775808 ≤ at_ ∧ at_ ≤ 9223372036854775807) (hn : -9223372036854775808 ≤ n ∧ n ≤ 9223372036854775807) :
    Calls Tryz.prog 32 #[.pointer (some ⟨g, 0, none⟩), .int .i64 at_, .int .i64 n] w fun e w' => e = .returned (.int .i64 (errM M at_ n)) ∧ MemR w' g v d a (flushU M at_ n) ∧ Turns (fun k => k = a) w w' := by
  refine (flushR_any h at_ n hat hn).mono ?_
  intro e w' z
  unfold FlushR at z
  unfold flushU errM
  by_cases hi : inM M at_ n = true
  · rw [if_pos hi] at z; simp only [if_pos hi]; exact z
  · rw [if_neg hi] at z; simp only [if_neg hi]; obtain ⟨rfl, rfl⟩ := z; exact ⟨rfl, h, Turns.refl _ _⟩
theorem callP_120 (args : Array Value) (w : World) : (callFunc 27 args).run Tryz.prog w = .ok (.enter 27 args) w := by
  have h := Tryz.func27
  go_simp

set_option maxHeartbeats 4000000 in
theorem clearR_any {w : World} {lg g v d a at_ size : Nat} {M : MemM} (hg0 : LogRP w lg g v d a at_ size M) (hok : LogOk at_ size M) :
    Calls Tryz.prog 27 #[.pointer (some ⟨lg, 0, none⟩)] w fun e w' => ∃ x, e = .returned x ∧ LogRP w' lg g v d a at_ size (setM M at_ 0) ∧ Turns (XM v d a) w w' := by
  have HG0 := hid hg0
  obtain ⟨s1, s2, s3, s4⟩ := hok
  clear hg0
  go_enter Tryz.func27, Tryz.ntmps27
  obtain ⟨ac, hac⟩ : ∃ x : Act, x = { tmps := #[.pointer (some ⟨lg, 0, none⟩), undef, undef, undef, undef, undef, undef, undef, undef], defers := [] } := ⟨_, rfl⟩
  have h0 : Kn 9 [(0, .pointer (some ⟨lg, 0, none⟩))] ac := ⟨by rw [hac]; rfl, (by intro x hx; rw [hac]; simp only [List.mem_cons, List.not_mem_nil, or_false] at hx; rcases hx with rfl; rfl), by rw [hac]⟩
  rw [← hac]
  clear hac
  have HG1 := hid (HG0.out.mono (Below.refl _ _).drew)
  refine wp_region_held_drew (S := fun w' => Blk w' lg 60 (logC g at_ size)) (by kernel_rfl) HG1.out.l (fun hS1 => ?_)
  refine wpk_take hS1 h0 0 rfl rfl (by decide) (fr rfl) (by kernel_rfl) (by kernel_rfl) (by kernel_rfl) (fun _ _ _ _ h => h) (.pointer (some ⟨lg, 0, none⟩)) (Or.inl ⟨Eq.refl true, fun w1 hSw => (by show (execOp _ (⟨_, .move (.tmp 0), _, _, _, _⟩ : Oper)).run _ _ = _; exact (by unfold execOp; simp only [h0.ev 0 rfl]; exact rfl))⟩) fun a2 h1 => ?_
  refine wpk_take hS1 h1 1 rfl rfl (by decide) (fr rfl) (by kernel_rfl) (by kernel_rfl) (by kernel_rfl) (fun _ _ _ _ h => h) (.pointer (some ⟨lg, 0, none⟩)) (Or.inl ⟨Eq.refl true, fun w1 hSw => (by show (execOp _ (⟨_, .move (.tmp 0), _, _, _, _⟩ : Oper)).run _ _ = _; exact (by unfold execOp; simp only [h1.ev 0 rfl]; exact rfl))⟩) fun a4 h3 => ?_
  refine wpk_take hS1 h3 2 rfl rfl (by decide) (fr rfl) (by kernel_rfl) (by kernel_rfl) (by kernel_rfl) (fun _ _ _ _ h => h) (.pointer (some ⟨lg, 0, none⟩)) (Or.inl ⟨Eq.refl true, fun w1 hSw => (by show (execOp _ (⟨_, .nilCheck (.tmp 3), _, _, _, _⟩ : Oper)).run _ _ = _; exact (by unfold execOp; simp only [h3.ev 3 rfl]; exact rfl))⟩) fun a6 h5 => ?_
  refine wpk_take hS1 h5 3 rfl rfl (by decide) (fr rfl) (by kernel_rfl) (by kernel_rfl) (by kernel_rfl) (fun _ _ _ _ h => h) (.pointer (some ⟨lg, 1, none⟩)) (Or.inl ⟨Eq.refl true, fun w1 hSw => (by show (execOp _ (⟨_, .fieldAddr 60 (.tmp 4) 1, _, _, _, _⟩ : Oper)).run _ _ = _; exact (by unfold execOp; simp only [h5.ev 4 rfl]; exact run_v (fa_76_0_1 (lg) _)))⟩) fun a8 h7 => ?_
  refine wpk_take hS1 h7 4 rfl rfl (by decide) (fr rfl) (by kernel_rfl) (by kernel_rfl) (by kernel_rfl) (fun _ _ _ _ h => h) (.int .i64 (at_ : Int)) (Or.inl ⟨Eq.refl true, fun w1 hSw => (by show (execOp _ (⟨_, .load 3 (.tmp 5), _, _, _, _⟩ : Oper)).run _ _ = _; exact (by unfold execOp; simp only [h7.ev 5 rfl]; exact run_v (loadIP (hSw.cell (i := 1) (by show 1 < 3; omega)))))⟩) fun a10 h9 => ?_
  obtain ⟨w2, hmk, o2, b2⟩ := make8 w.drew
  refine wpk_only 5 rfl rfl (by kernel_rfl) fun KK hK => op_val (w' := w2) h9 rfl (by decide) (fr rfl) (.slice (some ⟨w.drew.heap.size, 0, none⟩) 8 8) (by show (execOp _ (⟨_, .makeSlice 27 (.const (.int .i64 8)) (.const (.int .i64 8)), _, _, _, _⟩ : Oper)).run _ _ = _; exact (by unfold execOp; exact run_v hmk)) fun a12 h11 => hK _ _ (hS1.mono b2) fun hS2 => ?_
  clear hK KK
  have HG2 := hid (HG1.out.mono b2); have hlt1 := HG1.out.lt
  refine wpk_only 6 rfl rfl (by kernel_rfl) fun KK hK => op_call h11 rfl (by decide) (fr rfl) (fun args => callP_57 args _) rfl #[.pointer (some ⟨lg, 0, none⟩), .int .i64 (at_ : Int), .slice (some ⟨w.drew.heap.size, 0, none⟩) 8 8] (by simp only [List.map_toArray, List.map_cons, List.map_nil, h11.ev 2 rfl, h11.ev 6 rfl, h11.ev 7 rfl]) (R := fun xv w' => LogRP w' lg g v d a at_ size (setM M at_ 0) ∧ Turns (XM v d a) w2 w') ((logKeepR_any HG2.out at_ (some ⟨w.drew.heap.size, 0, none⟩) 8 (List.replicate 8 0) o2.row (fun _ k hk => by obtain ⟨off, e⟩ := hk; cases e; omega) (by show at_ + 8 ≤ _; omega)).mono fun e w' q => by obtain ⟨⟨x, q1⟩, q2⟩ := q; exact ⟨x, q1, q2⟩) fun a14 v3 w3 r3 h13 => hK _ _ (r3.1.l) fun hS3 => ?_
  clear hK KK
  refine wpAnyH_done (by kernel_rfl) ?_ _
  have h15 := h13.subs (l' := [(0, _)]) rfl
  clear h13
  exact bodyPost_normP (results_none rfl _ _ _) h15.defs ⟨_, rfl, r3.1, ((Turns.refl _ _).drew.trans (Turns.of_below b2)).trans r3.2⟩

set_option maxHeartbeats 8000000 in
theorem redoR_any {w : World} {lg g v d a at_ size : Nat} {M : MemM} (hg0 : LogRP w lg g v d a at_ size M) (hok : LogOk at_ size M) :
    Calls Tryz.prog 29 #[.pointer (some ⟨lg, 0, none⟩)] w fun e w' => ∃ x, e = .returned x ∧ x = .int .i64 ((logR M.V at_ size).1.length : Int) ∧ LogRP w' lg g v d a at_ size (redoM M at_ size) ∧ Turns (XM v d a) w w' := by
  have HG0 := hid hg0
  have hok2 := hok
  obtain ⟨s1, s2, s3, s4⟩ := hok2
  clear hg0
  go_enter Tryz.func29, Tryz.ntmps29
  iterate 3 go_step
  refine wpk_enter (N := 65) (l := [(0, .pointer (some ⟨lg, 0, none⟩))]) ⟨rfl, (by intro x hx; simp only [List.mem_cons, List.not_mem_nil, or_false] at hx; rcases hx with rfl <;> rfl), rfl⟩ fun a2 h1 => ?_
  refine wv h1 rfl rfl rfl rfl (.int .i64 0) rfl fun a4 h3 => ?_
  iterate 5 go_step
  refine wmk h3 rfl rfl rfl rfl 0 rfl (fun _ => rfl) fun a6 h5 => ?_
  refine wpk_call h5 (wanted_none rfl) rfl (by decide) (fr rfl) (fun args => callP_56 args _) rfl #[.pointer (some ⟨lg, 0, none⟩)] (by simp only [List.map_toArray, List.map_cons, List.map_nil, h5.ev 9 rfl]) (R := fun xv w' => ∃ ra rc rs, xv = .tuple #[.slice ra rs.length rc, .int .i64 ((logR M.V at_ size).2 : Int)] ∧ rs.map (·.2.2) = (logR M.V at_ size).1 ∧ RecsP w' w.heap.size ra rc rs ∧ Below w.heap.size w w') (readR_any HG0.out hok) fun a8 v1 w1 r1 h7 => ?_
  obtain ⟨ra, rc, rs, rfl, hrs, hrec, b1⟩ := r1
  have HG1 := hid (HG0.out.mono b1); have HREC := hid hrec; have HRS := hid hrs; have HB1 := hid b1; have hlt0 := HG0.out.lt; have hn1 : rs.length ≤ 65536 := by have z := congrArg List.length hrs; rw [List.length_map] at z; have z2 := logR_n M.V at_ size; omega
  have hptk : ∀ r ∈ rs, ptOk r.2.2 := fun r hr => logR_ok (by rw [← hrs]; exact List.mem_map.2 ⟨r, hr, rfl⟩)
  clear hrec hrs b1
  refine wmk h7 rfl rfl rfl rfl 10 rfl (fun _ => rfl) fun a10 h9 => ?_
  refine wv h9 rfl rfl rfl rfl (.slice ra rs.length rc) (by unfold execOp; simp only [h9.ev 8 rfl]; exact rfl) fun a12 h11 => ?_
  refine wv h11 rfl rfl rfl rfl (.int .i64 ((logR M.V at_ size).2 : Int)) (by unfold execOp; simp only [h11.ev 8 rfl]; exact rfl) fun a14 h13 => ?_
  refine wmk h13 rfl rfl rfl rfl 11 rfl (fun _ => rfl) fun a16 h15 => ?_
  refine wmk h15 rfl rfl rfl rfl 12 rfl (fun _ => rfl) fun a18 h17 => ?_
  have h19 := h17.subs (l' := [(3, _), (2, _), (0, _)]) rfl
  clear h17
  iterate 6 go_step
  refine wv h19 rfl rfl rfl rfl (.int .i64 0) rfl fun a21 h20 => ?_
  iterate 4 go_step
  have h22 := h20.subs (l' := [(5, _), (3, _), (0, _)]) rfl
  clear h20
  refine wp_loop (I := fun a' w' => ∃ (i : Nat) (Mo : MemM), i ≤ rs.length ∧ Kn 65 [(5, .int .i64 (i : Int)), (3, .slice ra rs.length rc), (0, .pointer (some ⟨lg, 0, none⟩))] a' ∧ LogRP w' lg g v d a at_ size Mo ∧ Turns (XM v d a) w1 w' ∧ Mo = ((rs.map (·.2.2)).take i).flatten.foldl wStep M) (μ := fun a' _ => rs.length - (intOf (a'.eval (.tmp 5))).toNat) ⟨0, M, by omega, h22, HG1.out, Turns.refl _ _, rfl⟩ ?_
  clear HG1 h22
  rintro aL wm ⟨i, Mo, hi, hK, hgm, htm, hmo⟩
  have HGm := hid hgm; have HTm := hid htm; have HMo := hid hmo; clear hgm htm hmo
  by_cases hlt : i < rs.length
  case pos =>
    have hd0 : decide ((i : Int) < (rs.length : Int)) = true := decide_eq_true (by omega)
    obtain ⟨pb, po, ad, cc, L, ha0, hcell0, hrow0, hLi⟩ := recs_at HREC.out hlt
    have hpo := hptk rs[i] (List.getElem_mem hlt)
    have hLe : rs[i].2.2 = L := by rw [List.getElem?_map, List.getElem?_eq_getElem hlt] at hLi; injection hLi
    rw [hLe] at hpo
    have hL64 := hpo.2.2
    have hpbX : ¬ XM v d a pb := by have z := own_ge HREC.out.o ha0; intro e; rcases e with e | e | e <;> omega
    iterate 4 go_step
    refine wmk hK rfl rfl rfl rfl 5 rfl (fun _ => rfl) fun a24 h23 => ?_
    refine wmk h23 rfl rfl rfl rfl 3 rfl (fun _ => rfl) fun a26 h25 => ?_
    refine wv h25 rfl rfl rfl rfl (.int .i64 (rs.length : Int)) (run_lenRP rfl (h25.ev 14 rfl) _) fun a28 h27 => ?_
    refine wv h27 rfl rfl rfl rfl (.bool true) (by unfold execOp; simp only [h27.ev 13 rfl, h27.ev 15 rfl]; exact run_v (ltIP _ _ _ _ _ hd0)) fun a30 h29 => ?_
    have h31 := h29.subs (l' := [(16, _), (5, _), (3, _), (0, _)]) rfl
    clear h29
    iterate 3 go_step
    refine wp_cond (t := true) (h31.ev 16 rfl) ?_
    simp only [if_true]
    have h32 := h31.subs (l' := [(5, _), (3, _), (0, _)]) rfl
    clear h31
    iterate 7 go_step
    refine wv h32 rfl rfl rfl rfl (.int .i64 0) rfl fun a34 h33 => ?_
    iterate 4 go_step
    refine wp_loop (I := fun a' w' => ∃ (k : Nat) (Mk : MemM), k ≤ L.length ∧ Kn 65 [(6, .int .i64 (k : Int)), (5, .int .i64 (i : Int)), (3, .slice ra rs.length rc), (0, .pointer (some ⟨lg, 0, none⟩))] a' ∧ LogRP w' lg g v d a at_ size Mk ∧ Turns (XM v d a) w1 w' ∧ Mk = (L.take k).foldl wStep Mo) (μ := fun a' _ => L.length - (intOf (a'.eval (.tmp 6))).toNat) ⟨0, Mo, by omega, h33, HGm.out, HTm.out, rfl⟩ ?_
    clear HGm HTm h33
    rintro aL2 wn ⟨k, Mk, hk, hK2, hgn, htn, hmk⟩
    have HGn := hid hgn; have HTn := hid htn; have HMk := hid hmk; clear hgn htn hmk
    by_cases hltk : k < L.length
    case pos =>
      have hdk : decide ((k : Int) < (L.length : Int)) = true := decide_eq_true (by omega)
      obtain ⟨qb, qo, hqa, hrgs⟩ := rowPt_at hrow0 (by omega)
      have hrg0 := hrgs k hltk
      have hqi := hpo.1 L[k] (List.getElem_mem hltk); have hqd := hpo.2.1 L[k] (List.getElem_mem hltk)
      have hqbX : ¬ XM v d a qb := by have z := recs_ge HREC.out hlt ha0 hcell0 hqa; intro e; rcases e with e | e | e <;> omega
      obtain ⟨q, hq⟩ : ∃ q, q = L[k] := ⟨_, rfl⟩
      rw [← hq] at hrg0 hqi hqd; unfold okI at hqi; have HQ := hid hq; clear hq hrgs
      have hstep : (L.take (k + 1)).foldl wStep Mo = wStep Mk q := by rw [List.take_add_one, List.getElem?_eq_getElem hltk, Option.toList_some, List.foldl_append, ← HMk.out, ← HQ.out]; rfl
      by_cases hin : inM Mk q.at_ q.d.length = true
      case pos =>
        have herr : errM Mk q.at_ q.d.length = 0 := if_pos hin
        iterate 4 go_step
        refine wmk hK2 rfl rfl rfl rfl 6 rfl (fun _ => rfl) fun a36 h35 => ?_
        refine wmk h35 rfl rfl rfl rfl 3 rfl (fun _ => rfl) fun a38 h37 => ?_
        refine wmk h37 rfl rfl rfl rfl 5 rfl (fun _ => rfl) fun a40 h39 => ?_
        refine wv h39 rfl rfl rfl rfl (.pointer (some ⟨pb, po + i, none⟩)) (by unfold execOp; simp only [h39.ev 20 rfl, h39.ev 21 rfl]; exact run_v (by rw [ha0]; exact ixRP pb po _ rc i hlt _)) fun a42 h41 => ?_
        refine wv h41 rfl rfl rfl rfl (.slice ad L.length cc) (by unfold execOp; simp only [h41.ev 22 rfl]; exact run_v (loadRP (cellT HTn.out hcell0 hpbX))) fun a44 h43 => ?_
        refine wv h43 rfl rfl rfl rfl (.int .i64 (L.length : Int)) (run_lenP rfl (h43.ev 23 rfl) _) fun a46 h45 => ?_
        refine wv h45 rfl rfl rfl rfl (.bool true) (by unfold execOp; simp only [h45.ev 19 rfl, h45.ev 24 rfl]; exact run_v (ltIP _ _ _ _ _ hdk)) fun a48 h47 => ?_
        have h49 := h47.subs (l' := [(25, _), (6, _), (5, _), (3, _), (0, _)]) rfl
        clear h47
        iterate 3 go_step
        refine wp_cond (t := true) (h49.ev 25 rfl) ?_
        simp only [if_true]
        have h50 := h49.subs (l' := [(6, _), (5, _), (3, _), (0, _)]) rfl
        clear h49
        iterate 7 go_step
        refine wmk h50 rfl rfl rfl rfl 3 rfl (fun _ => rfl) fun a52 h51 => ?_
        refine wmk h51 rfl rfl rfl rfl 5 rfl (fun _ => rfl) fun a54 h53 => ?_
        refine wv h53 rfl rfl rfl rfl (.pointer (some ⟨pb, po + i, none⟩)) (by unfold execOp; simp only [h53.ev 28 rfl, h53.ev 29 rfl]; exact run_v (by rw [ha0]; exact ixRP pb po _ rc i hlt _)) fun a56 h55 => ?_
        refine wv h55 rfl rfl rfl rfl (.slice ad L.length cc) (by unfold execOp; simp only [h55.ev 30 rfl]; exact run_v (loadRP (cellT HTn.out hcell0 hpbX))) fun a58 h57 => ?_
        refine wmk h57 rfl rfl rfl rfl 6 rfl (fun _ => rfl) fun a60 h59 => ?_
        refine wv h59 rfl rfl rfl rfl (.pointer (some ⟨qb, qo + k * 2, none⟩)) (by unfold execOp; simp only [h59.ev 31 rfl, h59.ev 32 rfl]; exact run_v (by rw [hqa]; exact ixP qb qo _ cc k hltk _)) fun a62 h61 => ?_
        refine wv h61 rfl rfl rfl rfl (ptV q) (by unfold execOp; simp only [h61.ev 33 rfl]; exact run_v (run_loadAt_mid _ _ _ _ (ptC q) _ (rangeT HTn.out hrg0 hqbX) Tryz.underlying68 rfl (by rw [infoPt]; rfl))) fun a64 h63 => ?_
        refine wv h63 rfl rfl rfl rfl (.pointer (some ⟨wn.heap.size, 0, none⟩)) (run_allocPt rfl _ wn) fun a66 h65 => ?_
        obtain ⟨wp, hwp⟩ : ∃ x, x = wn.alloc (.cells (ptC ⟨0, []⟩).toArray 68) := ⟨_, rfl⟩
        obtain ⟨gp, hgp⟩ : ∃ x, x = wn.heap.size := ⟨_, rfl⟩
        have hk0 : Blk wp gp 68 (ptC ⟨0, []⟩) := by rw [hwp, hgp]; exact blk_newO rfl _ _
        have bp : Below wn.heap.size wn wp := by rw [hwp]; exact albO _ _
        have hgn : gp = wn.heap.size := hgp
        rw [← hgp] at h65; rw [← hwp]; clear hwp hgp
        refine wpk_storeP h65 rfl rfl rfl gp 0 (h65.ev 7 rfl) (ptC q) (h65.ev 34 rfl) (by rw [infoPt]; rfl) (ptC_one _) hk0 (by show 0 + 2 ≤ 2; omega) fun a68 wq h67 kq gq => ?_
        rw [splice_all (by rfl)] at kq
        have bq : Below wn.heap.size wn wq := below_grownS bp gq (by omega) bp.size
        have HP := hid kq; have HGq := hid (HGn.out.mono bq); have HTq : Hid (Turns (XM v d a) w1 wq) := hid (HTn.out.trans (Turns.of_below bq))
        clear kq gq hk0 bp bq
        have h69 := h67.subs (l' := [(7, _), (6, _), (5, _), (3, _), (0, _)]) rfl
        clear h67
        iterate 4 go_step
        have HGd := hid (HGq.out.mono (Below.refl _ _).drew); have HTd : Hid (Turns (XM v d a) w1 wq.drew) := hid HTq.out.drew; have HPd := hid (HP.out.mono (Below.refl _ _).drew); have hgd : gp < wq.drew.heap.size := HPd.out.lt
        refine wp_region_held_drew (S := fun w' => Blk w' lg 60 (logC g at_ size) ∧ Blk w' gp 68 (ptC q)) (by kernel_rfl) ⟨HGd.out.l, HPd.out⟩ (fun hS1 => ?_)
        refine wpk_take hS1 h69 0 rfl rfl (by decide) (fr rfl) (by kernel_rfl) (by kernel_rfl) (by kernel_rfl) (fun _ _ _ _ h => h) (.pointer (some ⟨lg, 0, none⟩)) (Or.inl ⟨Eq.refl true, fun w1 hSw => (by show (execOp _ (⟨_, .move (.tmp 0), _, _, _, _⟩ : Oper)).run _ _ = _; exact (by unfold execOp; simp only [h69.ev 0 rfl]; exact rfl))⟩) fun a71 h70 => ?_
        refine wpk_take hS1 h70 1 rfl rfl (by decide) (fr rfl) (by kernel_rfl) (by kernel_rfl) (by kernel_rfl) (fun _ _ _ _ h => h) (.pointer (some ⟨lg, 0, none⟩)) (Or.inl ⟨Eq.refl true, fun w1 hSw => (by show (execOp _ (⟨_, .nilCheck (.tmp 35), _, _, _, _⟩ : Oper)).run _ _ = _; exact (by unfold execOp; simp only [h70.ev 35 rfl]; exact rfl))⟩) fun a73 h72 => ?_
        refine wpk_take hS1 h72 2 rfl rfl (by decide) (fr rfl) (by kernel_rfl) (by kernel_rfl) (by kernel_rfl) (fun _ _ _ _ h => h) (.pointer (some ⟨lg, 0, none⟩)) (Or.inl ⟨Eq.refl true, fun w1 hSw => (by show (execOp _ (⟨_, .fieldAddr 60 (.tmp 36) 0, _, _, _, _⟩ : Oper)).run _ _ = _; exact (by unfold execOp; simp only [h72.ev 36 rfl]; exact run_v (fa_76_0_0 (lg) _)))⟩) fun a75 h74 => ?_
        refine wpk_take hS1 h74 3 rfl rfl (by decide) (fr rfl) (by kernel_rfl) (by kernel_rfl) (by kernel_rfl) (fun _ _ _ _ h => h) (.pointer (some ⟨g, 0, none⟩)) (Or.inl ⟨Eq.refl true, fun w1 hSw => (by show (execOp _ (⟨_, .load 36 (.tmp 37), _, _, _, _⟩ : Oper)).run _ _ = _; exact (by unfold execOp; simp only [h74.ev 37 rfl]; exact run_v (loadMR (hSw.1.cell (i := 0) (by show 0 < 3; omega)))))⟩) fun a77 h76 => ?_
        refine wpk_take hS1 h76 4 rfl rfl (by decide) (fr rfl) (by kernel_rfl) (by kernel_rfl) (by kernel_rfl) (fun _ _ _ _ h => h) (.pointer (some ⟨gp, 0, none⟩)) (Or.inl ⟨Eq.refl true, fun w1 hSw => (by show (execOp _ (⟨_, .fieldAddr 68 (.tmp 7) 0, _, _, _, _⟩ : Oper)).run _ _ = _; exact (by unfold execOp; simp only [h76.ev 7 rfl]; exact run_v (fa_46_0_0 (gp) _)))⟩) fun a79 h78 => ?_
        refine wpk_take hS1 h78 5 rfl rfl (by decide) (fr rfl) (by kernel_rfl) (by kernel_rfl) (by kernel_rfl) (fun _ _ _ _ h => h) (.int .i64 q.at_) (Or.inl ⟨Eq.refl true, fun w1 hSw => (by show (execOp _ (⟨_, .load 3 (.tmp 39), _, _, _, _⟩ : Oper)).run _ _ = _; exact (by unfold execOp; simp only [h78.ev 39 rfl]; exact run_v (loadIP (hSw.2.cell (i := 0) (by show 0 < 2; omega)))))⟩) fun a81 h80 => ?_
        refine wpk_take hS1 h80 6 rfl rfl (by decide) (fr rfl) (by kernel_rfl) (by kernel_rfl) (by kernel_rfl) (fun _ _ _ _ h => h) (.pointer (some ⟨gp, 1, none⟩)) (Or.inl ⟨Eq.refl true, fun w1 hSw => (by show (execOp _ (⟨_, .fieldAddr 68 (.tmp 7) 1, _, _, _, _⟩ : Oper)).run _ _ = _; exact (by unfold execOp; simp only [h80.ev 7 rfl]; exact run_v (fa_46_0_1 (gp) _)))⟩) fun a83 h82 => ?_
        refine wpk_take hS1 h82 7 rfl rfl (by decide) (fr rfl) (by kernel_rfl) (by kernel_rfl) (by kernel_rfl) (fun _ _ _ _ h => h) (strB q.d) (Or.inl ⟨Eq.refl true, fun w1 hSw => (by show (execOp _ (⟨_, .load 9 (.tmp 41), _, _, _, _⟩ : Oper)).run _ _ = _; exact (by unfold execOp; simp only [h82.ev 41 rfl]; exact run_v (loadSP (hSw.2.cell (i := 1) (by show 1 < 2; omega)))))⟩) fun a85 h84 => ?_
        obtain ⟨yc, w5, hcv, hry, b5⟩ := bytes_of_str wq.drew q.d hqd
        refine wpk_only 8 rfl rfl (by kernel_rfl) fun KK hK => op_val (w' := w5) h84 rfl (by decide) (fr rfl) (.slice (some ⟨wq.drew.heap.size, 0, none⟩) q.d.length yc) (by show (execOp _ (⟨_, .convert 9 27 (.tmp 42), _, _, _, _⟩ : Oper)).run _ _ = _; exact (by unfold execOp; simp only [h84.ev 42 rfl]; exact run_v hcv)) fun a87 h86 => hK _ _ (⟨hS1.1.mono b5, hS1.2.mono b5⟩) fun hS2 => ?_
        clear hK KK
        have HG5 := hid (HGd.out.mono b5); have HT5 : Hid (Turns (XM v d a) w1 w5) := hid (HTd.out.trans (Turns.of_below b5)); have HP5 := hid (HPd.out.mono b5); have hltd := HGd.out.lt
        refine wpk_only 9 rfl rfl (by kernel_rfl) fun KK hK => op_call h86 rfl (by decide) (fr rfl) (fun args => callP_79 args _) rfl #[.pointer (some ⟨g, 0, none⟩), .int .i64 q.at_, .slice (some ⟨wq.drew.heap.size, 0, none⟩) q.d.length yc] (by simp only [List.map_toArray, List.map_cons, List.map_nil, h86.ev 38 rfl, h86.ev 40 rfl, h86.ev 43 rfl]) (R := fun xv w' => xv = .int .i64 (errM Mk q.at_ q.d.length) ∧ MemR w' g v d a (storeU Mk q.at_ q.d) ∧ Turns (fun k => k = v ∨ k = a) w5 w') ((storeR_u HG5.out.m q.at_ hqi (some ⟨wq.drew.heap.size, 0, none⟩) yc q.d hry (fun _ k hk => by obtain ⟨off, e⟩ := hk; cases e; omega)).mono fun e w' q => ⟨_, q.1, rfl, q.2⟩) fun a89 v6 w6 r6 h88 => hK _ _ (⟨r6.2.2.blk hS2.1 (fun e => HG5.out.nX (by rcases e with e | e; exact .inl e; exact .inr (.inr e))), r6.2.2.blk hS2.2 (fun e => by rcases e with e | e; exact blk_ne hS2.2 HG5.out.m.2.2.2.1 (by decide) e; exact blk_ne hS2.2 HG5.out.m.2.2.2.2.2 (by decide) e)⟩) fun hS3 => ?_
        clear hK KK
        obtain ⟨rfl, m6, t6⟩ := r6
        have HG6 := hid (HG5.out.next m6 t6 (by intro k hk; rcases hk with e | e; exact .inl e; exact .inr (.inr e))); have HT6 : Hid (Turns (XM v d a) w1 w6) := hid (HT5.out.trans (t6.mono (by intro k hk; rcases hk with e | e; exact .inl e; exact .inr (.inr e)))); have HP6 := hid hS3.2; clear m6 t6
        rw [herr] at h88
        refine wpk_take hS3 h88 10 rfl rfl (by decide) (fr rfl) (by kernel_rfl) (by kernel_rfl) (by kernel_rfl) (fun _ _ _ _ h => h) (.bool true) (Or.inl ⟨Eq.refl true, fun w1 hSw => (by show (execOp _ (⟨_, .binOp .eql 33 (.tmp 44) (.const (.int .i64 0)) 33, _, _, _, _⟩ : Oper)).run _ _ = _; exact (by unfold execOp; simp only [h88.ev 44 rfl]; exact run_v (eqEP _ _ _ _ _ (by decide))))⟩) fun a91 h90 => ?_
        refine wpAnyH_done (by kernel_rfl) ?_ _
        have h92 := h90.subs (l' := [(45, _), (7, _), (6, _), (5, _), (3, _), (0, _)]) rfl
        clear h90
        iterate 2 go_step
        refine wp_cond (t := true) (h92.ev 45 rfl) ?_
        simp only [if_true]
        have h93 := h92.subs (l' := [(7, _), (6, _), (5, _), (3, _), (0, _)]) rfl
        clear h92
        have HGe := hid (HG6.out.mono (Below.refl _ _).drew); have HTe : Hid (Turns (XM v d a) w1 w6.drew) := hid HT6.out.drew; have HPe := hid (HP6.out.mono (Below.refl _ _).drew)
        refine wp_region_held_drew (S := fun w' => Blk w' lg 60 (logC g at_ size) ∧ Blk w' gp 68 (ptC q)) (by kernel_rfl) ⟨HGe.out.l, HPe.out⟩ (fun hS1 => ?_)
        refine wpk_take hS1 h93 0 rfl rfl (by decide) (fr rfl) (by kernel_rfl) (by kernel_rfl) (by kernel_rfl) (fun _ _ _ _ h => h) (.pointer (some ⟨lg, 0, none⟩)) (Or.inl ⟨Eq.refl true, fun w1 hSw => (by show (execOp _ (⟨_, .move (.tmp 0), _, _, _, _⟩ : Oper)).run _ _ = _; exact (by unfold execOp; simp only [h93.ev 0 rfl]; exact rfl))⟩) fun a95 h94 => ?_
        refine wpk_take hS1 h94 1 rfl rfl (by decide) (fr rfl) (by kernel_rfl) (by kernel_rfl) (by kernel_rfl) (fun _ _ _ _ h => h) (.pointer (some ⟨lg, 0, none⟩)) (Or.inl ⟨Eq.refl true, fun w1 hSw => (by show (execOp _ (⟨_, .nilCheck (.tmp 46), _, _, _, _⟩ : Oper)).run _ _ = _; exact (by unfold execOp; simp only [h94.ev 46 rfl]; exact rfl))⟩) fun a97 h96 => ?_
        refine wpk_take hS1 h96 2 rfl rfl (by decide) (fr rfl) (by kernel_rfl) (by kernel_rfl) (by kernel_rfl) (fun _ _ _ _ h => h) (.pointer (some ⟨lg, 0, none⟩)) (Or.inl ⟨Eq.refl true, fun w1 hSw => (by show (execOp _ (⟨_, .fieldAddr 60 (.tmp 47) 0, _, _, _, _⟩ : Oper)).run _ _ = _; exact (by unfold execOp; simp only [h96.ev 47 rfl]; exact run_v (fa_76_0_0 (lg) _)))⟩) fun a99 h98 => ?_
        refine wpk_take hS1 h98 3 rfl rfl (by decide) (fr rfl) (by kernel_rfl) (by kernel_rfl) (by kernel_rfl) (fun _ _ _ _ h => h) (.pointer (some ⟨g, 0, none⟩)) (Or.inl ⟨Eq.refl true, fun w1 hSw => (by show (execOp _ (⟨_, .load 36 (.tmp 48), _, _, _, _⟩ : Oper)).run _ _ = _; exact (by unfold execOp; simp only [h98.ev 48 rfl]; exact run_v (loadMR (hSw.1.cell (i := 0) (by show 0 < 3; omega)))))⟩) fun a101 h100 => ?_
        refine wpk_take hS1 h100 4 rfl rfl (by decide) (fr rfl) (by kernel_rfl) (by kernel_rfl) (by kernel_rfl) (fun _ _ _ _ h => h) (.pointer (some ⟨gp, 0, none⟩)) (Or.inl ⟨Eq.refl true, fun w1 hSw => (by show (execOp _ (⟨_, .fieldAddr 68 (.tmp 7) 0, _, _, _, _⟩ : Oper)).run _ _ = _; exact (by unfold execOp; simp only [h100.ev 7 rfl]; exact run_v (fa_46_0_0 (gp) _)))⟩) fun a103 h102 => ?_
        refine wpk_take hS1 h102 5 rfl rfl (by decide) (fr rfl) (by kernel_rfl) (by kernel_rfl) (by kernel_rfl) (fun _ _ _ _ h => h) (.int .i64 q.at_) (Or.inl ⟨Eq.refl true, fun w1 hSw => (by show (execOp _ (⟨_, .load 3 (.tmp 50), _, _, _, _⟩ : Oper)).run _ _ = _; exact (by unfold execOp; simp only [h102.ev 50 rfl]; exact run_v (loadIP (hSw.2.cell (i := 0) (by show 0 < 2; omega)))))⟩) fun a105 h104 => ?_
        refine wpk_take hS1 h104 6 rfl rfl (by decide) (fr rfl) (by kernel_rfl) (by kernel_rfl) (by kernel_rfl) (fun _ _ _ _ h => h) (.pointer (some ⟨gp, 1, none⟩)) (Or.inl ⟨Eq.refl true, fun w1 hSw => (by show (execOp _ (⟨_, .fieldAddr 68 (.tmp 7) 1, _, _, _, _⟩ : Oper)).run _ _ = _; exact (by unfold execOp; simp only [h104.ev 7 rfl]; exact run_v (fa_46_0_1 (gp) _)))⟩) fun a107 h106 => ?_
        refine wpk_take hS1 h106 7 rfl rfl (by decide) (fr rfl) (by kernel_rfl) (by kernel_rfl) (by kernel_rfl) (fun _ _ _ _ h => h) (strB q.d) (Or.inl ⟨Eq.refl true, fun w1 hSw => (by show (execOp _ (⟨_, .load 9 (.tmp 52), _, _, _, _⟩ : Oper)).run _ _ = _; exact (by unfold execOp; simp only [h106.ev 52 rfl]; exact run_v (loadSP (hSw.2.cell (i := 1) (by show 1 < 2; omega)))))⟩) fun a109 h108 => ?_
        refine wpk_take hS1 h108 8 rfl rfl (by decide) (fr rfl) (by kernel_rfl) (by kernel_rfl) (by kernel_rfl) (fun _ _ _ _ h => h) (.int .i64 (q.d.length : Int)) (Or.inl ⟨Eq.refl true, fun w1 hSw => (by show (execOp _ (⟨_, .call { callee := .builtin .len, args := #[(.tmp 53)], argTypes := #[9] }, _, _, _, _⟩ : Oper)).run _ _ = _; exact (run_lenSP rfl (h108.ev 53 rfl) _))⟩) fun a111 h110 => ?_
        refine wpk_only 9 rfl rfl (by kernel_rfl) fun KK hK => op_call h110 rfl (by decide) (fr rfl) (fun args => callP_80 args _) rfl #[.pointer (some ⟨g, 0, none⟩), .int .i64 q.at_, .int .i64 (q.d.length : Int)] (by simp only [List.map_toArray, List.map_cons, List.map_nil, h110.ev 49 rfl, h110.ev 51 rfl, h110.ev 54 rfl]) (R := fun xv w' => MemR w' g v d a (flushU (storeU Mk q.at_ q.d) q.at_ q.d.length) ∧ Turns (fun k => k = a) w6.drew w') ((flushR_u HGe.out.m q.at_ q.d.length hqi (by omega)).mono fun e w' q => ⟨_, q.1, q.2⟩) fun a113 v9 w9 r9 h112 => hK _ _ (⟨r9.2.blk hS1.1 (fun e => HGe.out.nX (.inr (.inr e))), r9.2.blk hS1.2 (fun e => blk_ne hS1.2 HGe.out.m.2.2.2.2.2 (by decide) e)⟩) fun hS9 => ?_
        clear hK KK
        have HG9 := hid (HGe.out.next r9.1 r9.2 (by intro k hk; exact .inr (.inr hk))); have HT9 : Hid (Turns (XM v d a) w1 w9) := hid (HTe.out.trans (r9.2.mono (by intro k hk; exact .inr (.inr hk)))); clear r9
        refine wpAnyH_done (by kernel_rfl) ?_ _
        have h114 := h112.subs (l' := [(7, _), (6, _), (5, _), (3, _), (0, _)]) rfl
        clear h112
        iterate 3 go_step
        refine wmk h114 rfl rfl rfl rfl 6 rfl (fun _ => rfl) fun a116 h115 => ?_
        refine wv h115 rfl rfl rfl rfl (.int .i64 ((k + 1 : Nat) : Int)) (by unfold execOp; simp only [h115.ev 26 rfl]; exact run_v (addIP _ _ k (by omega) _)) fun a118 h117 => ?_
        have h119 := h117.subs (l' := [(27, _), (26, _), (7, _), (5, _), (3, _), (0, _)]) rfl
        clear h117
        refine wmk h119 rfl rfl rfl rfl 27 rfl (fun _ => rfl) fun a121 h120 => ?_
        have h122 := h120.subs (l' := [(6, _), (7, _), (5, _), (3, _), (0, _)]) rfl
        clear h120
        iterate 2 go_step
        refine ⟨⟨k + 1, _, by omega, h122.subs rfl, HG9.out, HT9.out, ?_⟩, ?_⟩
        · rw [hstep]; unfold wStep; rw [if_pos hin]
        · rw [h122.ev 6 rfl, hK2.ev 6 rfl]; simp [intOf]; omega
      have herr : errM Mk q.at_ q.d.length = 1 := if_neg hin
      iterate 4 go_step
      refine wmk hK2 rfl rfl rfl rfl 6 rfl (fun _ => rfl) fun a124 h123 => ?_
      refine wmk h123 rfl rfl rfl rfl 3 rfl (fun _ => rfl) fun a126 h125 => ?_
      refine wmk h125 rfl rfl rfl rfl 5 rfl (fun _ => rfl) fun a128 h127 => ?_
      refine wv h127 rfl rfl rfl rfl (.pointer (some ⟨pb, po + i, none⟩)) (by unfold execOp; simp only [h127.ev 20 rfl, h127.ev 21 rfl]; exact run_v (by rw [ha0]; exact ixRP pb po _ rc i hlt _)) fun a130 h129 => ?_
      refine wv h129 rfl rfl rfl rfl (.slice ad L.length cc) (by unfold execOp; simp only [h129.ev 22 rfl]; exact run_v (loadRP (cellT HTn.out hcell0 hpbX))) fun a132 h131 => ?_
      refine wv h131 rfl rfl rfl rfl (.int .i64 (L.length : Int)) (run_lenP rfl (h131.ev 23 rfl) _) fun a134 h133 => ?_
      refine wv h133 rfl rfl rfl rfl (.bool true) (by unfold execOp; simp only [h133.ev 19 rfl, h133.ev 24 rfl]; exact run_v (ltIP _ _ _ _ _ hdk)) fun a136 h135 => ?_
      have h137 := h135.subs (l' := [(25, _), (6, _), (5, _), (3, _), (0, _)]) rfl
      clear h135
      iterate 3 go_step
      refine wp_cond (t := true) (h137.ev 25 rfl) ?_
      simp only [if_true]
      have h138 := h137.subs (l' := [(6, _), (5, _), (3, _), (0, _)]) rfl
      clear h137
      iterate 7 go_step
      refine wmk h138 rfl rfl rfl rfl 3 rfl (fun _ => rfl) fun a140 h139 => ?_
      refine wmk h139 rfl rfl rfl rfl 5 rfl (fun _ => rfl) fun a142 h141 => ?_
      refine wv h141 rfl rfl rfl rfl (.pointer (some ⟨pb, po + i, none⟩)) (by unfold execOp; simp only [h141.ev 28 rfl, h141.ev 29 rfl]; exact run_v (by rw [ha0]; exact ixRP pb po _ rc i hlt _)) fun a144 h143 => ?_
      refine wv h143 rfl rfl rfl rfl (.slice ad L.length cc) (by unfold execOp; simp only [h143.ev 30 rfl]; exact run_v (loadRP (cellT HTn.out hcell0 hpbX))) fun a146 h145 => ?_
      refine wmk h145 rfl rfl rfl rfl 6 rfl (fun _ => rfl) fun a148 h147 => ?_
      refine wv h147 rfl rfl rfl rfl (.pointer (some ⟨qb, qo + k * 2, none⟩)) (by unfold execOp; simp only [h147.ev 31 rfl, h147.ev 32 rfl]; exact run_v (by rw [hqa]; exact ixP qb qo _ cc k hltk _)) fun a150 h149 => ?_
      refine wv h149 rfl rfl rfl rfl (ptV q) (by unfold execOp; simp only [h149.ev 33 rfl]; exact run_v (run_loadAt_mid _ _ _ _ (ptC q) _ (rangeT HTn.out hrg0 hqbX) Tryz.underlying68 rfl (by rw [infoPt]; rfl))) fun a152 h151 => ?_
      refine wv h151 rfl rfl rfl rfl (.pointer (some ⟨wn.heap.size, 0, none⟩)) (run_allocPt rfl _ wn) fun a154 h153 => ?_
      obtain ⟨wp, hwp⟩ : ∃ x, x = wn.alloc (.cells (ptC ⟨0, []⟩).toArray 68) := ⟨_, rfl⟩
      obtain ⟨gp, hgp⟩ : ∃ x, x = wn.heap.size := ⟨_, rfl⟩
      have hk0 : Blk wp gp 68 (ptC ⟨0, []⟩) := by rw [hwp, hgp]; exact blk_newO rfl _ _
      have bp : Below wn.heap.size wn wp := by rw [hwp]; exact albO _ _
      have hgn : gp = wn.heap.size := hgp
      rw [← hgp] at h153; rw [← hwp]; clear hwp hgp
      refine wpk_storeP h153 rfl rfl rfl gp 0 (h153.ev 7 rfl) (ptC q) (h153.ev 34 rfl) (by rw [infoPt]; rfl) (ptC_one _) hk0 (by show 0 + 2 ≤ 2; omega) fun a156 wq h155 kq gq => ?_
      rw [splice_all (by rfl)] at kq
      have bq : Below wn.heap.size wn wq := below_grownS bp gq (by omega) bp.size
      have HP := hid kq; have HGq := hid (HGn.out.mono bq); have HTq : Hid (Turns (XM v d a) w1 wq) := hid (HTn.out.trans (Turns.of_below bq))
      clear kq gq hk0 bp bq
      have h157 := h155.subs (l' := [(7, _), (6, _), (5, _), (3, _), (0, _)]) rfl
      clear h155
      iterate 4 go_step
      have HGd := hid (HGq.out.mono (Below.refl _ _).drew); have HTd : Hid (Turns (XM v d a) w1 wq.drew) := hid HTq.out.drew; have HPd := hid (HP.out.mono (Below.refl _ _).drew); have hgd : gp < wq.drew.heap.size := HPd.out.lt
      refine wp_region_held_drew (S := fun w' => Blk w' lg 60 (logC g at_ size) ∧ Blk w' gp 68 (ptC q)) (by kernel_rfl) ⟨HGd.out.l, HPd.out⟩ (fun hS1 => ?_)
      refine wpk_take hS1 h157 0 rfl rfl (by decide) (fr rfl) (by kernel_rfl) (by kernel_rfl) (by kernel_rfl) (fun _ _ _ _ h => h) (.pointer (some ⟨lg, 0, none⟩)) (Or.inl ⟨Eq.refl true, fun w1 hSw => (by show (execOp _ (⟨_, .move (.tmp 0), _, _, _, _⟩ : Oper)).run _ _ = _; exact (by unfold execOp; simp only [h157.ev 0 rfl]; exact rfl))⟩) fun a159 h158 => ?_
      refine wpk_take hS1 h158 1 rfl rfl (by decide) (fr rfl) (by kernel_rfl) (by kernel_rfl) (by kernel_rfl) (fun _ _ _ _ h => h) (.pointer (some ⟨lg, 0, none⟩)) (Or.inl ⟨Eq.refl true, fun w1 hSw => (by show (execOp _ (⟨_, .nilCheck (.tmp 35), _, _, _, _⟩ : Oper)).run _ _ = _; exact (by unfold execOp; simp only [h158.ev 35 rfl]; exact rfl))⟩) fun a161 h160 => ?_
      refine wpk_take hS1 h160 2 rfl rfl (by decide) (fr rfl) (by kernel_rfl) (by kernel_rfl) (by kernel_rfl) (fun _ _ _ _ h => h) (.pointer (some ⟨lg, 0, none⟩)) (Or.inl ⟨Eq.refl true, fun w1 hSw => (by show (execOp _ (⟨_, .fieldAddr 60 (.tmp 36) 0, _, _, _, _⟩ : Oper)).run _ _ = _; exact (by unfold execOp; simp only [h160.ev 36 rfl]; exact run_v (fa_76_0_0 (lg) _)))⟩) fun a163 h162 => ?_
      refine wpk_take hS1 h162 3 rfl rfl (by decide) (fr rfl) (by kernel_rfl) (by kernel_rfl) (by kernel_rfl) (fun _ _ _ _ h => h) (.pointer (some ⟨g, 0, none⟩)) (Or.inl ⟨Eq.refl true, fun w1 hSw => (by show (execOp _ (⟨_, .load 36 (.tmp 37), _, _, _, _⟩ : Oper)).run _ _ = _; exact (by unfold execOp; simp only [h162.ev 37 rfl]; exact run_v (loadMR (hSw.1.cell (i := 0) (by show 0 < 3; omega)))))⟩) fun a165 h164 => ?_
      refine wpk_take hS1 h164 4 rfl rfl (by decide) (fr rfl) (by kernel_rfl) (by kernel_rfl) (by kernel_rfl) (fun _ _ _ _ h => h) (.pointer (some ⟨gp, 0, none⟩)) (Or.inl ⟨Eq.refl true, fun w1 hSw => (by show (execOp _ (⟨_, .fieldAddr 68 (.tmp 7) 0, _, _, _, _⟩ : Oper)).run _ _ = _; exact (by unfold execOp; simp only [h164.ev 7 rfl]; exact run_v (fa_46_0_0 (gp) _)))⟩) fun a167 h166 => ?_
      refine wpk_take hS1 h166 5 rfl rfl (by decide) (fr rfl) (by kernel_rfl) (by kernel_rfl) (by kernel_rfl) (fun _ _ _ _ h => h) (.int .i64 q.at_) (Or.inl ⟨Eq.refl true, fun w1 hSw => (by show (execOp _ (⟨_, .load 3 (.tmp 39), _, _, _, _⟩ : Oper)).run _ _ = _; exact (by unfold execOp; simp only [h166.ev 39 rfl]; exact run_v (loadIP (hSw.2.cell (i := 0) (by show 0 < 2; omega)))))⟩) fun a169 h168 => ?_
      refine wpk_take hS1 h168 6 rfl rfl (by decide) (fr rfl) (by kernel_rfl) (by kernel_rfl) (by kernel_rfl) (fun _ _ _ _ h => h) (.pointer (some ⟨gp, 1, none⟩)) (Or.inl ⟨Eq.refl true, fun w1 hSw => (by show (execOp _ (⟨_, .fieldAddr 68 (.tmp 7) 1, _, _, _, _⟩ : Oper)).run _ _ = _; exact (by unfold execOp; simp only [h168.ev 7 rfl]; exact run_v (fa_46_0_1 (gp) _)))⟩) fun a171 h170 => ?_
      refine wpk_take hS1 h170 7 rfl rfl (by decide) (fr rfl) (by kernel_rfl) (by kernel_rfl) (by kernel_rfl) (fun _ _ _ _ h => h) (strB q.d) (Or.inl ⟨Eq.refl true, fun w1 hSw => (by show (execOp _ (⟨_, .load 9 (.tmp 41), _, _, _, _⟩ : Oper)).run _ _ = _; exact (by unfold execOp; simp only [h170.ev 41 rfl]; exact run_v (loadSP (hSw.2.cell (i := 1) (by show 1 < 2; omega)))))⟩) fun a173 h172 => ?_
      obtain ⟨yc, w5, hcv, hry, b5⟩ := bytes_of_str wq.drew q.d hqd
      refine wpk_only 8 rfl rfl (by kernel_rfl) fun KK hK => op_val (w' := w5) h172 rfl (by decide) (fr rfl) (.slice (some ⟨wq.drew.heap.size, 0, none⟩) q.d.length yc) (by show (execOp _ (⟨_, .convert 9 27 (.tmp 42), _, _, _, _⟩ : Oper)).run _ _ = _; exact (by unfold execOp; simp only [h172.ev 42 rfl]; exact run_v hcv)) fun a175 h174 => hK _ _ (⟨hS1.1.mono b5, hS1.2.mono b5⟩) fun hS2 => ?_
      clear hK KK
      have HG5 := hid (HGd.out.mono b5); have HT5 : Hid (Turns (XM v d a) w1 w5) := hid (HTd.out.trans (Turns.of_below b5)); have HP5 := hid (HPd.out.mono b5); have hltd := HGd.out.lt
      refine wpk_only 9 rfl rfl (by kernel_rfl) fun KK hK => op_call h174 rfl (by decide) (fr rfl) (fun args => callP_79 args _) rfl #[.pointer (some ⟨g, 0, none⟩), .int .i64 q.at_, .slice (some ⟨wq.drew.heap.size, 0, none⟩) q.d.length yc] (by simp only [List.map_toArray, List.map_cons, List.map_nil, h174.ev 38 rfl, h174.ev 40 rfl, h174.ev 43 rfl]) (R := fun xv w' => xv = .int .i64 (errM Mk q.at_ q.d.length) ∧ MemR w' g v d a (storeU Mk q.at_ q.d) ∧ Turns (fun k => k = v ∨ k = a) w5 w') ((storeR_u HG5.out.m q.at_ hqi (some ⟨wq.drew.heap.size, 0, none⟩) yc q.d hry (fun _ k hk => by obtain ⟨off, e⟩ := hk; cases e; omega)).mono fun e w' q => ⟨_, q.1, rfl, q.2⟩) fun a177 v6 w6 r6 h176 => hK _ _ (⟨r6.2.2.blk hS2.1 (fun e => HG5.out.nX (by rcases e with e | e; exact .inl e; exact .inr (.inr e))), r6.2.2.blk hS2.2 (fun e => by rcases e with e | e; exact blk_ne hS2.2 HG5.out.m.2.2.2.1 (by decide) e; exact blk_ne hS2.2 HG5.out.m.2.2.2.2.2 (by decide) e)⟩) fun hS3 => ?_
      clear hK KK
      obtain ⟨rfl, m6, t6⟩ := r6
      have HG6 := hid (HG5.out.next m6 t6 (by intro k hk; rcases hk with e | e; exact .inl e; exact .inr (.inr e))); have HT6 : Hid (Turns (XM v d a) w1 w6) := hid (HT5.out.trans (t6.mono (by intro k hk; rcases hk with e | e; exact .inl e; exact .inr (.inr e)))); have HP6 := hid hS3.2; clear m6 t6
      rw [herr] at h176
      refine wpk_take hS3 h176 10 rfl rfl (by decide) (fr rfl) (by kernel_rfl) (by kernel_rfl) (by kernel_rfl) (fun _ _ _ _ h => h) (.bool false) (Or.inl ⟨Eq.refl true, fun w1 hSw => (by show (execOp _ (⟨_, .binOp .eql 33 (.tmp 44) (.const (.int .i64 0)) 33, _, _, _, _⟩ : Oper)).run _ _ = _; exact (by unfold execOp; simp only [h176.ev 44 rfl]; exact run_v (eqEP _ _ _ _ _ (by decide))))⟩) fun a179 h178 => ?_
      refine wpAnyH_done (by kernel_rfl) ?_ _
      have h180 := h178.subs (l' := [(45, _), (7, _), (6, _), (5, _), (3, _), (0, _)]) rfl
      clear h178
      iterate 2 go_step
      refine wp_cond (t := false) (h180.ev 45 rfl) ?_
      simp only [Bool.false_eq_true, if_false]
      have h181 := h180.subs (l' := [(7, _), (6, _), (5, _), (3, _), (0, _)]) rfl
      clear h180
      iterate 4 go_step
      refine wmk h181 rfl rfl rfl rfl 6 rfl (fun _ => rfl) fun a183 h182 => ?_
      refine wv h182 rfl rfl rfl rfl (.int .i64 ((k + 1 : Nat) : Int)) (by unfold execOp; simp only [h182.ev 26 rfl]; exact run_v (addIP _ _ k (by omega) _)) fun a185 h184 => ?_
      have h186 := h184.subs (l' := [(27, _), (26, _), (7, _), (5, _), (3, _), (0, _)]) rfl
      clear h184
      refine wmk h186 rfl rfl rfl rfl 27 rfl (fun _ => rfl) fun a188 h187 => ?_
      have h189 := h187.subs (l' := [(6, _), (7, _), (5, _), (3, _), (0, _)]) rfl
      clear h187
      iterate 2 go_step
      refine ⟨⟨k + 1, _, by omega, h189.subs rfl, HG6.out, HT6.out, ?_⟩, ?_⟩
      · rw [hstep]; unfold wStep; rw [if_neg hin]; unfold storeU; rw [if_neg hin]
      · rw [h189.ev 6 rfl, hK2.ev 6 rfl]; simp [intOf]; omega
    have hdk : decide ((k : Int) < (L.length : Int)) = false := decide_eq_false (by omega)
    iterate 4 go_step
    refine wmk hK2 rfl rfl rfl rfl 6 rfl (fun _ => rfl) fun a191 h190 => ?_
    refine wmk h190 rfl rfl rfl rfl 3 rfl (fun _ => rfl) fun a193 h192 => ?_
    refine wmk h192 rfl rfl rfl rfl 5 rfl (fun _ => rfl) fun a195 h194 => ?_
    refine wv h194 rfl rfl rfl rfl (.pointer (some ⟨pb, po + i, none⟩)) (by unfold execOp; simp only [h194.ev 20 rfl, h194.ev 21 rfl]; exact run_v (by rw [ha0]; exact ixRP pb po _ rc i hlt _)) fun a197 h196 => ?_
    refine wv h196 rfl rfl rfl rfl (.slice ad L.length cc) (by unfold execOp; simp only [h196.ev 22 rfl]; exact run_v (loadRP (cellT HTn.out hcell0 hpbX))) fun a199 h198 => ?_
    refine wv h198 rfl rfl rfl rfl (.int .i64 (L.length : Int)) (run_lenP rfl (h198.ev 23 rfl) _) fun a201 h200 => ?_
    refine wv h200 rfl rfl rfl rfl (.bool false) (by unfold execOp; simp only [h200.ev 19 rfl, h200.ev 24 rfl]; exact run_v (ltIP _ _ _ _ _ hdk)) fun a203 h202 => ?_
    have h204 := h202.subs (l' := [(25, _), (6, _), (5, _), (3, _), (0, _)]) rfl
    clear h202
    iterate 3 go_step
    refine wp_cond (t := false) (h204.ev 25 rfl) ?_
    simp only [Bool.false_eq_true, if_false]
    have h205 := h204.subs (l' := [(6, _), (5, _), (3, _), (0, _)]) rfl
    clear h204
    iterate 6 go_step
    refine wmk h205 rfl rfl rfl rfl 5 rfl (fun _ => rfl) fun a207 h206 => ?_
    refine wv h206 rfl rfl rfl rfl (.int .i64 ((i + 1 : Nat) : Int)) (by unfold execOp; simp only [h206.ev 17 rfl]; exact run_v (addIP _ _ i (by omega) _)) fun a209 h208 => ?_
    have h210 := h208.subs (l' := [(18, _), (17, _), (6, _), (3, _), (0, _)]) rfl
    clear h208
    refine wmk h210 rfl rfl rfl rfl 18 rfl (fun _ => rfl) fun a212 h211 => ?_
    have h213 := h211.subs (l' := [(5, _), (6, _), (3, _), (0, _)]) rfl
    clear h211
    iterate 2 go_step
    refine ⟨⟨i + 1, Mk, by omega, h213.subs rfl, HGn.out, HTn.out, ?_⟩, ?_⟩
    · rw [HMk.out, HMo.out, List.take_add_one, hLi, Option.toList_some, List.flatten_append, List.foldl_append, show k = L.length by omega, List.take_length]; simp
    · rw [h213.ev 5 rfl, hK.ev 5 rfl]; simp [intOf]; omega
  have hd0 : decide ((i : Int) < (rs.length : Int)) = false := decide_eq_false (by omega)
  iterate 4 go_step
  refine wmk hK rfl rfl rfl rfl 5 rfl (fun _ => rfl) fun a215 h214 => ?_
  refine wmk h214 rfl rfl rfl rfl 3 rfl (fun _ => rfl) fun a217 h216 => ?_
  refine wv h216 rfl rfl rfl rfl (.int .i64 (rs.length : Int)) (run_lenRP rfl (h216.ev 14 rfl) _) fun a219 h218 => ?_
  refine wv h218 rfl rfl rfl rfl (.bool false) (by unfold execOp; simp only [h218.ev 13 rfl, h218.ev 15 rfl]; exact run_v (ltIP _ _ _ _ _ hd0)) fun a221 h220 => ?_
  have h222 := h220.subs (l' := [(16, _), (5, _), (3, _), (0, _)]) rfl
  clear h220
  iterate 3 go_step
  refine wp_cond (t := false) (h222.ev 16 rfl) ?_
  simp only [Bool.false_eq_true, if_false]
  have h223 := h222.subs (l' := [(5, _), (3, _), (0, _)]) rfl
  clear h222
  iterate 7 go_step
  refine wmk h223 rfl rfl rfl rfl 0 rfl (fun _ => rfl) fun a225 h224 => ?_
  refine wv h224 rfl rfl rfl rfl (.pointer (some ⟨lg, 0, none⟩)) (by unfold execOp; simp only [h224.ev 56 rfl]; exact rfl) fun a227 h226 => ?_
  refine wv h226 rfl rfl rfl rfl (.pointer (some ⟨lg, 0, none⟩)) (by unfold execOp; simp only [h226.ev 57 rfl]; exact run_v (fa_76_0_0 (lg) _)) fun a229 h228 => ?_
  refine wv h228 rfl rfl rfl rfl (.pointer (some ⟨g, 0, none⟩)) (by unfold execOp; simp only [h228.ev 58 rfl]; exact run_v (loadMR (HGm.out.l.cell (i := 0) (by show 0 < 3; omega)))) fun a231 h230 => ?_
  refine wpk_call h230 (wanted_none rfl) rfl (by decide) (fr rfl) (fun args => callP_81 args _) rfl #[.pointer (some ⟨g, 0, none⟩)] (by simp only [List.map_toArray, List.map_cons, List.map_nil, h230.ev 59 rfl]) (R := fun xv w' => MemR w' g v d a (fenceM Mo) ∧ Turns (fun k => k = d ∨ k = a) wm w') ((fenceR_any HGm.out.m).mono fun e w' q => by obtain ⟨⟨x, q1⟩, q2⟩ := q; exact ⟨x, q1, q2⟩) fun a233 v7 w7 r7 h232 => ?_
  have HG7 := hid (HGm.out.next r7.1 r7.2 (by intro k hk; exact .inr hk)); have HT7 : Hid (Turns (XM v d a) w1 w7) := hid (HTm.out.trans (r7.2.mono (by intro k hk; exact .inr hk)))
  have h234 := h232.subs (l' := [(5, _), (3, _), (0, _)]) rfl
  clear h232
  iterate 5 go_step
  refine wmk h234 rfl rfl rfl rfl 0 rfl (fun _ => rfl) fun a236 h235 => ?_
  refine wpk_call h235 (wanted_none rfl) rfl (by decide) (fr rfl) (fun args => callP_120 args _) rfl #[.pointer (some ⟨lg, 0, none⟩)] (by simp only [List.map_toArray, List.map_cons, List.map_nil, h235.ev 61 rfl]) (R := fun xv w' => LogRP w' lg g v d a at_ size (setM (fenceM Mo) at_ 0) ∧ Turns (XM v d a) w7 w') (clearR_any HG7.out (logOk_congr hok (by show (fenceM Mo).V.length = _; rw [fenceM_V, HMo.out, foldW_V, foldV_len]))) fun a238 v8 w8 r8 h237 => ?_
  have h239 := h237.subs (l' := [(5, _), (3, _), (0, _)]) rfl
  clear h237
  iterate 5 go_step
  refine wmk h239 rfl rfl rfl rfl 3 rfl (fun _ => rfl) fun a241 h240 => ?_
  refine wv h240 rfl rfl rfl rfl (.int .i64 (rs.length : Int)) (run_lenRP rfl (h240.ev 63 rfl) _) fun a243 h242 => ?_
  refine wmk h242 rfl rfl rfl rfl 64 rfl (fun _ => rfl) fun a245 h244 => ?_
  have h246 := h244.subs (l' := [(2, _), (5, _), (3, _), (0, _)]) rfl
  clear h244
  iterate 4 go_step
  have hfin : setM (fenceM Mo) at_ 0 = redoM M at_ size := by unfold redoM writeM; rw [HMo.out, show i = rs.length by omega, ← List.length_map (f := fun r : Option Addr × Nat × List PtM => r.2.2), List.take_length, HRS.out]
  have hlr : rs.length = (logR M.V at_ size).1.length := by have z := congrArg List.length HRS.out; rwa [List.length_map] at z
  rw [hfin] at r8
  exact bodyPost_ret (results_tmp1 rfl (h246.known (2, .int .i64 (rs.length : Int)) (by simp))) h246.defs ⟨_, rfl, by rw [hlr], r8.1, (Turns.of_below HB1.out).trans (HT7.out.trans r8.2)⟩
end Go.Proofs.YtkhhoognemjibaaGreatDoor
