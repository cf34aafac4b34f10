/- TxnOwns. (genTxnY.py) -/
import Derived.Test.YtcackliabemecaaGreatDoorTxnX
namespace Go.Proofs.YtcackliabemecaaGreatDoor
open Go.RowKit
set_option linter.unusedSimpArgs false
set_option linter.unusedVariables false
set_option maxRecDepth 100000
theorem blk_at9 {w : World} {g : Nat} {e : TypeId} {L : List Value} (h : Blk w g e L) {i : Nat} {u : Value} (hu : L[i]? = some u) : w.cell? ⟨g, i, none⟩ = some u := by
  obtain ⟨hi, rfl⟩ := List.getElem?_eq_some_iff.1 hu
  exact h.cell hi
def zD : DeedT := ⟨0, 0, 0, none, 0, [], none, 0, []⟩
theorem run_allocD9 {o : Oper} (ho : o.op = .alloc 29) (ρ : Operand → Value) (w : World) : (execOp ρ o).run Tryz.prog w = .ok (.value (.pointer (some ⟨w.heap.size, 0, none⟩))) (w.alloc (.cells (deedC zD).toArray 29)) := by
  unfold execOp; rw [ho]; rfl
theorem buildPt5 (w : World) : (Instr.build 47 #[(0, .int .i64 5), (1, .string ⟨#[113]⟩)]).run Tryz.prog w = .ok (ptV ⟨5, [113]⟩) w := buildPt 5 [113] w
theorem storeU9 {w : World} {g off : Nat} {u : Value} (h : w.cell? ⟨g, off, none⟩ = some u) (hz : w.frozen? ⟨g, off, none⟩ = false) (n : Int) : (Instr.storeAt 5 (.pointer (some ⟨g, off, none⟩)) (.int .u8 n)).run Tryz.prog w = .ok () (w.setCell ⟨g, off, none⟩ (.int .u8 n)) := by
  have u3 := Tryz.underlying5
  have a3 := Tryz.isAgg5
  have z3 := Tryz.sizeOf5
  go_simp
theorem own_put9 {w : World} {B : Nat} {e : TypeId} {g n c : Nat} {cs : List Value} (h : Own w B e 1 (some ⟨g, 0, none⟩) n c cs) {k : Nat} (hk : k < n) :
    (∃ v, w.cell? ⟨g, k, none⟩ = some v) ∧ w.frozen? ⟨g, k, none⟩ = false ∧ B ≤ g ∧ ∀ v, ∃ cs', Own (w.setCell ⟨g, k, none⟩ v) B e 1 (some ⟨g, 0, none⟩) n c cs' := by
  obtain ⟨L, hb, hl, hB, ht, hn, hc⟩ := Own.blk h
  refine ⟨Blk.someCell hb (by omega), Blk.frozen hb k, hB, fun v => ⟨_, Own.of_blk (Blk.set hb k v) hB hn hc (by simpa using hl)⟩⟩
theorem ne_types {w : World} {B B' g n c m d : Nat} {ta : Option Addr} {cs ds : List Value} (o1 : Own w B 5 1 (some ⟨g, 0, none⟩) n c cs) (o2 : Own w B' 47 2 ta m d ds) : obA ta ≠ some g := fun e => by
  have := own_apartO o1 o2 (by decide)
  rw [obA_slice, obA_slice, e] at this
  rcases this with q | q
  · cases q
  · exact q rfl
theorem SideT.at {w w' : World} {B g : Nat} {K : TK} {ta ra : Option Addr} {tc rc : Nat} {M N : MemM} {P R : List PtM} (h : SideT w B K ta tc ra rc M P N R) (T : Turns (fun k => k = g) w w') (hg : B ≤ g) (h1 : obA ta ≠ some g) (h2 : obA ra ≠ some g) : SideT w' B K ta tc ra rc M P N R :=
  h.past T (fun k hk => by
    subst hk
    refine ⟨fun z => ?_, h1, h2⟩
    have y1 := (TK.has_le h.k k z).2
    have y2 := h.k.pp
    omega)
theorem callZ_6 (args : Array Value) (w : World) : (callFunc 6 args).run Tryz.prog w = .ok (.enter 6 args) w := by
  have h := Tryz.func6
  go_simp
theorem callZ_7 (args : Array Value) (w : World) : (callFunc 7 args).run Tryz.prog w = .ok (.enter 7 args) w := by
  have h := Tryz.func7
  go_simp
theorem callZ_8 (args : Array Value) (w : World) : (callFunc 8 args).run Tryz.prog w = .ok (.enter 8 args) w := by
  have h := Tryz.func8
  go_simp
theorem callZ_9 (args : Array Value) (w : World) : (callFunc 9 args).run Tryz.prog w = .ok (.enter 9 args) w := by
  have h := Tryz.func9
  go_simp

set_option maxHeartbeats 16000000 in
theorem TxnOwns_walk (w : World) (a : Option Addr) (c : Nat) (xs : List DeedT) (hxs : DeedsIn w a c xs) (hw : ∀ x ∈ xs, x.dc ≤ reachBytes) :
    Calls Tryz.prog 5 #[.slice a xs.length c] w fun e w' => e = .returned (.bool true) ∧ Below w.heap.size w w' := by
  have HXS := hid hxs
  have HW := hid hw
  clear hxs hw
  go_enter Tryz.func5, Tryz.ntmps5
  iterate 3 go_step
  refine wpk_enter (N := 90) (l := [(0, .slice a xs.length c)]) ⟨rfl, (by intro x hx; simp only [List.mem_cons, List.not_mem_nil, or_false] at hx; rcases hx with rfl <;> rfl), rfl⟩ fun a2 h1 => ?_
  refine wv h1 rfl rfl rfl rfl (.bool false) rfl fun a4 h3 => ?_
  iterate 5 go_step
  refine wpk_call h3 (wanted_none rfl) rfl (by decide) (fr rfl) (fun args => callZ_6 args _) rfl #[] (by simp) (R := fun v' w' => ∃ K : TK, v' = .pointer (some ⟨K.pp, 0, none⟩) ∧ SideT w' w'.heap.size K none 0 none 0 mem0 [] mem0 [] ∧ K.ord w.heap.size w'.heap.size ∧ Below w.heap.size w w') ((beginS w).mono fun e w' q => by obtain ⟨K, q1, q2⟩ := q; exact ⟨_, q1, K, rfl, q2⟩) fun a6 vb0 wb0 rb0 h5 => ?_
  obtain ⟨K, rfl, hs0, ho0, hb0⟩ := rb0; have HS0 := hid hs0; have HB0 := hid hb0; obtain ⟨B, hB⟩ : ∃ B, B = wb0.heap.size := ⟨_, rfl⟩; rw [← hB] at HS0 ho0; have hA := ho0; clear hs0 hb0 ho0 hB
  refine wmk h5 rfl rfl rfl rfl 15 rfl (fun _ => rfl) fun a8 h7 => ?_
  have h9 := h7.subs (l' := [(3, _), (2, _), (0, _)]) rfl
  clear h7
  iterate 6 go_step
  refine wmk h9 rfl rfl rfl rfl 3 rfl (fun _ => rfl) fun a11 h10 => ?_
  refine wv h10 rfl rfl rfl rfl (.bool false) (by unfold execOp; simp only [h10.ev 16 rfl]; exact run_v (eqPnT _ _ _ _)) fun a13 h12 => ?_
  have h14 := h12.subs (l' := [(17, _), (3, _), (2, _), (0, _)]) rfl
  clear h12
  iterate 3 go_step
  refine wp_cond (t := false) (h14.ev 17 rfl) ?_
  simp only [Bool.false_eq_true, if_false]
  have h15 := h14.subs (l' := [(3, _), (2, _), (0, _)]) rfl
  clear h14
  iterate 6 go_step
  refine wv h15 rfl rfl rfl rfl (.int .i64 0) rfl fun a17 h16 => ?_
  iterate 4 go_step
  have h18 := h16.subs (l' := [(4, _), (3, _), (0, _)]) rfl
  clear h16
  refine wp_loop (I := fun a' w' => ∃ (i : Nat) (M : MemM) (P : List PtM) (ta : Option Addr) (tc : Nat) (ra : Option Addr) (rc : Nat), i ≤ xs.length ∧ i ≤ 12 ∧ Kn 90 [(4, .int .i64 (i : Int)), (3, .pointer (some ⟨K.pp, 0, none⟩)), (0, .slice a xs.length c)] a' ∧ M.V.length = 1024 ∧ TxOk M P ∧ SideT w' B K ta tc ra rc M P M P ∧ Below w.heap.size w w') (μ := fun a' _ => xs.length - (intOf (a'.eval (.tmp 4))).toNat) ⟨0, mem0, [], none, 0, none, 0, by omega, by omega, h18, mem0_len, TxOk.nil _, HS0.out, HB0.out⟩ ?_
  clear HS0 HB0 h18
  rintro aL aw ⟨i, M, P, ta, tc, ra, rc, hi, hiN, hK, hlen, htx, hs, hb⟩; have HSa := hid hs; have HBa := hid hb; clear hs hb
  by_cases hltL : i < xs.length
  case neg =>
    iterate 4 go_step
    refine wmk hK rfl rfl rfl rfl 4 rfl (fun _ => rfl) fun a20 h19 => ?_
    refine wmk h19 rfl rfl rfl rfl 0 rfl (fun _ => rfl) fun a22 h21 => ?_
    refine wv h21 rfl rfl rfl rfl (.int .i64 (xs.length : Int)) (run_lenDP rfl (h21.ev 19 rfl) _) fun a24 h23 => ?_
    refine wv h23 rfl rfl rfl rfl (.bool false) (by unfold execOp; simp only [h23.ev 18 rfl, h23.ev 20 rfl]; exact run_v (ltIP _ _ _ _ _ (decide_eq_false (by omega)))) fun a26 h25 => ?_
    refine wmk h25 rfl rfl rfl rfl 21 rfl (fun _ => rfl) fun a28 h27 => ?_
    refine wpk_skip h27 (by rw [wanted_of (g := 4) (want := true) (b := false) rfl (h27.yields (prev := 22) rfl (by simp))]; rfl) rfl (by decide) (fr rfl) fun a30 h29 => ?_
    refine wpk_skip h29 (by rw [wanted_of (g := 4) (want := true) (b := false) rfl (h29.yields (prev := 22) rfl (by simp))]; rfl) rfl (by decide) (fr rfl) fun a32 h31 => ?_
    refine wv h31 rfl rfl rfl rfl (.bool false) (run_pick rfl (h31.ev 22 rfl) rfl) fun a34 h33 => ?_
    have h35 := h33.subs (l' := [(25, _), (4, _), (3, _), (0, _)]) rfl
    clear h33
    iterate 3 go_step
    refine wp_cond (t := false) (h35.ev 25 rfl) ?_
    simp only [Bool.false_eq_true, if_false]
    have h36 := h35.subs (l' := [(4, _), (3, _), (0, _)]) rfl
    clear h35
    iterate 7 go_step
    refine wmk h36 rfl rfl rfl rfl 3 rfl (fun _ => rfl) fun a38 h37 => ?_
    refine wpk_call h37 (wanted_none rfl) rfl (by decide) (fr rfl) (fun args => callZ_8 args _) rfl #[.pointer (some ⟨K.pp, 0, none⟩)] (by simp only [List.map_toArray, List.map_cons, List.map_nil, h37.ev 84 rfl]) (R := fun v' w' => v' = .bool true ∧ Below aw.heap.size aw w') ((like9_any HSa.out hlen htx).mono fun e w' q => ⟨_, q.1, rfl, q.2⟩) fun a40 vk wk rk h39 => ?_
    obtain ⟨rfl, bk⟩ := rk; have HBk := hid (kept_trans HBa.out bk); clear bk
    refine wmk h39 rfl rfl rfl rfl 85 rfl (fun _ => rfl) fun a42 h41 => ?_
    have h43 := h41.subs (l' := [(14, _), (4, _), (3, _), (0, _)]) rfl
    clear h41
    iterate 5 go_step
    refine wmk h43 rfl rfl rfl rfl 14 rfl (fun _ => rfl) fun a45 h44 => ?_
    refine wmk h44 rfl rfl rfl rfl 86 rfl (fun _ => rfl) fun a47 h46 => ?_
    refine wpk_call h46 (by rw [wanted_of (g := 1) (want := true) (b := true) rfl (h46.yields (prev := 87) rfl (by simp))]; rfl) rfl (by decide) (fr rfl) (fun args => callZ_9 args _) rfl #[] (by simp) (R := fun v' w' => v' = .bool true ∧ Below wk.heap.size wk w') ((lives09_any _).mono fun e w' q => ⟨_, q.1, rfl, q.2⟩) fun a49 vz9 wz9 rz9 h48 => ?_
    obtain ⟨rfl, bz9⟩ := rz9; have HBz9 := hid (kept_trans HBk.out bz9); clear bz9
    refine wv h48 rfl rfl rfl rfl (.bool true) (run_pick rfl (h48.ev 87 rfl) (by rw [if_pos rfl]; exact h48.ev 88 rfl)) fun a51 h50 => ?_
    refine wmk h50 rfl rfl rfl rfl 89 rfl (fun _ => rfl) fun a53 h52 => ?_
    have h54 := h52.subs (l' := [(2, _), (14, _), (4, _), (3, _), (0, _)]) rfl
    clear h52
    iterate 4 go_step
    exact bodyPost_ret (results_tmp1 rfl (h54.known (2, .bool true) (by simp))) h54.defs ⟨rfl, HBz9.out⟩
  by_cases hltN : i < 12
  case neg =>
    iterate 4 go_step
    refine wmk hK rfl rfl rfl rfl 4 rfl (fun _ => rfl) fun a56 h55 => ?_
    refine wmk h55 rfl rfl rfl rfl 0 rfl (fun _ => rfl) fun a58 h57 => ?_
    refine wv h57 rfl rfl rfl rfl (.int .i64 (xs.length : Int)) (run_lenDP rfl (h57.ev 19 rfl) _) fun a60 h59 => ?_
    refine wv h59 rfl rfl rfl rfl (.bool true) (by unfold execOp; simp only [h59.ev 18 rfl, h59.ev 20 rfl]; exact run_v (ltIP _ _ _ _ _ (decide_eq_true (by omega)))) fun a62 h61 => ?_
    refine wmk h61 rfl rfl rfl rfl 21 rfl (fun _ => rfl) fun a64 h63 => ?_
    refine wpk_val h63 (by rw [wanted_of (g := 4) (want := true) (b := true) rfl (h63.yields (prev := 22) rfl (by simp))]; rfl) rfl (by decide) (fr rfl) (.int .i64 (i : Int)) (by unfold execOp; simp only [h63.ev 4 rfl]; rfl) fun a66 h65 => ?_
    refine wpk_val h65 (by rw [wanted_of (g := 4) (want := true) (b := true) rfl (h65.yields (prev := 22) rfl (by simp))]; rfl) rfl (by decide) (fr rfl) (.bool false) (by unfold execOp; simp only [h65.ev 23 rfl]; exact run_v (ltIP _ _ _ _ _ (decide_eq_false (by omega)))) fun a68 h67 => ?_
    refine wv h67 rfl rfl rfl rfl (.bool false) (run_pick rfl (h67.ev 22 rfl) (by rw [if_pos rfl]; exact h67.ev 24 rfl)) fun a70 h69 => ?_
    have h71 := h69.subs (l' := [(25, _), (4, _), (3, _), (0, _)]) rfl
    clear h69
    iterate 3 go_step
    refine wp_cond (t := false) (h71.ev 25 rfl) ?_
    simp only [Bool.false_eq_true, if_false]
    have h72 := h71.subs (l' := [(4, _), (3, _), (0, _)]) rfl
    clear h71
    iterate 7 go_step
    refine wmk h72 rfl rfl rfl rfl 3 rfl (fun _ => rfl) fun a74 h73 => ?_
    refine wpk_call h73 (wanted_none rfl) rfl (by decide) (fr rfl) (fun args => callZ_8 args _) rfl #[.pointer (some ⟨K.pp, 0, none⟩)] (by simp only [List.map_toArray, List.map_cons, List.map_nil, h73.ev 84 rfl]) (R := fun v' w' => v' = .bool true ∧ Below aw.heap.size aw w') ((like9_any HSa.out hlen htx).mono fun e w' q => ⟨_, q.1, rfl, q.2⟩) fun a76 vk wk rk h75 => ?_
    obtain ⟨rfl, bk⟩ := rk; have HBk := hid (kept_trans HBa.out bk); clear bk
    refine wmk h75 rfl rfl rfl rfl 85 rfl (fun _ => rfl) fun a78 h77 => ?_
    have h79 := h77.subs (l' := [(14, _), (4, _), (3, _), (0, _)]) rfl
    clear h77
    iterate 5 go_step
    refine wmk h79 rfl rfl rfl rfl 14 rfl (fun _ => rfl) fun a81 h80 => ?_
    refine wmk h80 rfl rfl rfl rfl 86 rfl (fun _ => rfl) fun a83 h82 => ?_
    refine wpk_call h82 (by rw [wanted_of (g := 1) (want := true) (b := true) rfl (h82.yields (prev := 87) rfl (by simp))]; rfl) rfl (by decide) (fr rfl) (fun args => callZ_9 args _) rfl #[] (by simp) (R := fun v' w' => v' = .bool true ∧ Below wk.heap.size wk w') ((lives09_any _).mono fun e w' q => ⟨_, q.1, rfl, q.2⟩) fun a85 vz9 wz9 rz9 h84 => ?_
    obtain ⟨rfl, bz9⟩ := rz9; have HBz9 := hid (kept_trans HBk.out bz9); clear bz9
    refine wv h84 rfl rfl rfl rfl (.bool true) (run_pick rfl (h84.ev 87 rfl) (by rw [if_pos rfl]; exact h84.ev 88 rfl)) fun a87 h86 => ?_
    refine wmk h86 rfl rfl rfl rfl 89 rfl (fun _ => rfl) fun a89 h88 => ?_
    have h90 := h88.subs (l' := [(2, _), (14, _), (4, _), (3, _), (0, _)]) rfl
    clear h88
    iterate 4 go_step
    exact bodyPost_ret (results_tmp1 rfl (h90.known (2, .bool true) (by simp))) h90.defs ⟨rfl, HBz9.out⟩
  obtain ⟨pb, po, ha0, hpb, hrg⟩ := deedsIn_at HXS.out hltL
  obtain ⟨x, hxi⟩ : ∃ y, y = xs[i] := ⟨_, rfl⟩
  have hxin := HXS.out.i xs[i] (List.getElem_mem hltL)
  rw [← hxi] at hrg hxin
  have HX := hid hxin; have HRG := hid hrg; clear hxin hrg
  have hwx := HW.out xs[i] (List.getElem_mem hltL); rw [← hxi] at hwx; have hdc := HX.out.d.2.1; have hrb := reachBytes_lt; have hDn : x.D.length ≤ 140737488355327 := (by have : x.D.length ≤ x.dc := (by simpa using hdc); omega)
  have hrgW := hid (below_range HBa.out hpb HRG.out)
  iterate 4 go_step
  refine wmk hK rfl rfl rfl rfl 4 rfl (fun _ => rfl) fun a92 h91 => ?_
  refine wmk h91 rfl rfl rfl rfl 0 rfl (fun _ => rfl) fun a94 h93 => ?_
  refine wv h93 rfl rfl rfl rfl (.int .i64 (xs.length : Int)) (run_lenDP rfl (h93.ev 19 rfl) _) fun a96 h95 => ?_
  refine wv h95 rfl rfl rfl rfl (.bool true) (by unfold execOp; simp only [h95.ev 18 rfl, h95.ev 20 rfl]; exact run_v (ltIP _ _ _ _ _ (decide_eq_true (by omega)))) fun a98 h97 => ?_
  refine wmk h97 rfl rfl rfl rfl 21 rfl (fun _ => rfl) fun a100 h99 => ?_
  refine wpk_val h99 (by rw [wanted_of (g := 4) (want := true) (b := true) rfl (h99.yields (prev := 22) rfl (by simp))]; rfl) rfl (by decide) (fr rfl) (.int .i64 (i : Int)) (by unfold execOp; simp only [h99.ev 4 rfl]; rfl) fun a102 h101 => ?_
  refine wpk_val h101 (by rw [wanted_of (g := 4) (want := true) (b := true) rfl (h101.yields (prev := 22) rfl (by simp))]; rfl) rfl (by decide) (fr rfl) (.bool true) (by unfold execOp; simp only [h101.ev 23 rfl]; exact run_v (ltIP _ _ _ _ _ (decide_eq_true (by omega)))) fun a104 h103 => ?_
  refine wv h103 rfl rfl rfl rfl (.bool true) (run_pick rfl (h103.ev 22 rfl) (by rw [if_pos rfl]; exact h103.ev 24 rfl)) fun a106 h105 => ?_
  have h107 := h105.subs (l' := [(25, _), (4, _), (3, _), (0, _)]) rfl
  clear h105
  iterate 3 go_step
  refine wp_cond (t := true) (h107.ev 25 rfl) ?_
  simp only [if_true]
  have h108 := h107.subs (l' := [(4, _), (3, _), (0, _)]) rfl
  clear h107
  iterate 7 go_step
  refine wmk h108 rfl rfl rfl rfl 0 rfl (fun _ => rfl) fun a110 h109 => ?_
  refine wmk h109 rfl rfl rfl rfl 4 rfl (fun _ => rfl) fun a112 h111 => ?_
  refine wv h111 rfl rfl rfl rfl (.pointer (some ⟨pb, po + i * 5, none⟩)) (by unfold execOp; simp only [h111.ev 28 rfl, h111.ev 29 rfl]; exact run_v (by rw [ha0]; exact ixDP pb po _ c i hltL _)) fun a114 h113 => ?_
  refine wv h113 rfl rfl rfl rfl (.agg (deedC x).toArray) (by unfold execOp; simp only [h113.ev 30 rfl]; exact run_v (run_loadAt_mid _ _ _ _ (deedC x) _ (fun i u hu => hrgW.out i u hu) Tryz.underlying29 rfl (by rw [infoDeed]; rfl))) fun a116 h115 => ?_
  refine wv h115 rfl rfl rfl rfl (.pointer (some ⟨aw.heap.size, 0, none⟩)) (run_allocD9 rfl _ aw) fun a118 h117 => ?_
  obtain ⟨wp, hwp⟩ : ∃ y, y = aw.alloc (.cells (deedC zD).toArray 29) := ⟨_, rfl⟩
  obtain ⟨gb, hgb⟩ : ∃ y, y = aw.heap.size := ⟨_, rfl⟩
  have hk0 : Blk wp gb 29 (deedC zD) := by rw [hwp, hgb]; exact blk_newO rfl _ _
  have HSp : Hid (SideT wp B K ta tc ra rc M P M P) := hid (by rw [hwp]; exact HSa.out.mono (albO _ _))
  have HBp : Hid (Below w.heap.size w wp) := hid (by rw [hwp]; exact kept_alloc HBa.out _)
  have hgl : B ≤ gb ∧ w.heap.size ≤ gb := by rw [hgb]; exact ⟨HSa.out.t.b, HBa.out.size⟩
  have hga : ∀ q, XT K ta ra q → q ≠ gb := fun q hq e => by have := HSa.out.lt q hq; omega
  have hgt : obA ta ≠ some gb := fun q => hga gb (.inl (.inr (.inr q.symm))) rfl
  have hgr : obA ra ≠ some gb := fun q => hga gb (.inr (.inr (.inr q.symm))) rfl
  rw [← hgb] at h117; rw [← hwp]; clear hwp
  refine wpk_storeP h117 rfl rfl rfl gb 0 (h117.ev 5 rfl) (deedC x) (h117.ev 31 rfl) (by rw [infoDeed]; rfl) (deedC_one _) hk0 (by show 0 + 5 ≤ 5; omega) fun a120 wq h119 kq gq => ?_
  rw [splice_all (by rfl)] at kq
  have HDq := hid kq; have HSq : Hid (SideT wq B K ta tc ra rc M P M P) := hid (HSp.out.at (Turns.of_grown gq rfl) hgl.1 hgt hgr); have HBq : Hid (Below w.heap.size w wq) := hid (below_grownS HBp.out gq hgl.2 HBp.out.size); clear kq gq hk0 HSp HBp
  have h121 := h119.subs (l' := [(5, _), (4, _), (3, _), (0, _)]) rfl
  clear h119
  iterate 5 go_step
  refine wv h121 rfl rfl rfl rfl (.slice none 0 0) rfl fun a123 h122 => ?_
  iterate 5 go_step
  refine wmk h122 rfl rfl rfl rfl 6 rfl (fun _ => rfl) fun a125 h124 => ?_
  refine wv h124 rfl rfl rfl rfl (.pointer (some ⟨gb, 3, none⟩)) (by unfold execOp; simp only [h124.ev 5 rfl]; exact run_v (faZ_29_0_3 (gb) _)) fun a127 h126 => ?_
  refine wv h126 rfl rfl rfl rfl (.slice x.da x.D.length x.dc) (by unfold execOp; simp only [h126.ev 33 rfl]; exact run_v (loadYP (HDq.out.cell (i := 3) (by show 3 < 5; omega)))) fun a129 h128 => ?_
  have hB1 : (0 + x.D.length) * 1 ≤ 140737488355328 := by omega
  have rX := HX.out.d.below HBq.out
  refine wpl_append rfl (.tmp 32) (.tmp 34) rfl E8 wq.heap.size (h128.ev 32 rfl) (h128.ev 34 rfl) (Own.nil _ _ _ _) rX (byteV_one _) hB1 (by omega) (Nat.le_refl _) ?_
  intro oa oc w3 o3 g3 b3
  refine wpk_enter (h128.put (d := 35) (by decide) (fr rfl) (.slice oa (0 + x.D.length) oc)) fun a131 h130 => ?_
  rw [Nat.zero_add] at h130; rw [Nat.zero_add, List.nil_append] at o3
  obtain ⟨Bo, hBo⟩ : ∃ y, y = wq.heap.size := ⟨_, rfl⟩
  rw [← hBo] at o3
  have hbo : B ≤ Bo ∧ w.heap.size ≤ Bo ∧ gb < Bo := by rw [hBo]; exact ⟨HSq.out.t.b, HBq.out.size, HDq.out.lt⟩
  have HO3 := hid o3; have HS3 := hid (HSq.out.mono b3); have HB3 := hid (kept_trans HBq.out b3); have HD3 := hid (HDq.out.mono b3); clear o3 g3 b3
  have h132 := h130.subs (l' := [(35, _), (34, _), (33, _), (32, _), (5, _), (4, _), (3, _), (0, _)]) rfl
  clear h130
  refine wmk h132 rfl rfl rfl rfl 35 rfl (fun _ => rfl) fun a134 h133 => ?_
  have h135 := h133.subs (l' := [(6, _), (5, _), (4, _), (3, _), (0, _)]) rfl
  clear h133
  iterate 5 go_step
  refine wmk h135 rfl rfl rfl rfl 6 rfl (fun _ => rfl) fun a137 h136 => ?_
  refine wv h136 rfl rfl rfl rfl (.pointer (some ⟨gb, 3, none⟩)) (by unfold execOp; simp only [h136.ev 5 rfl]; exact run_v (faZ_29_0_3 (gb) _)) fun a139 h138 => ?_
  obtain ⟨y, hy⟩ : ∃ y : DeedT, y = { x with da := oa, dc := oc } := ⟨_, rfl⟩
  obtain ⟨w4, hw4⟩ : ∃ z, z = w3.setCell ⟨gb, 3, none⟩ (.slice oa x.D.length oc) := ⟨_, rfl⟩
  refine wpk_skipvP h138 (wanted_none rfl) rfl (w' := w4) (by rw [hw4]; unfold execOp; simp only [h138.ev 37 rfl, h138.ev 36 rfl]; exact run_uP (storeYP (HD3.out.cell (i := 3) (by show 3 < 5; omega)) (HD3.out.frozen 3) _ _ _)) fun a141 h140 => ?_
  have k4 : Blk w4 gb 29 (deedC y) := by rw [hw4, hy]; exact HD3.out.set 3 _
  have g4 : w3.grownBy w4 (some gb) := by rw [hw4]; exact sg_set (sg_refl w3 (some gb)) 3 _
  have HD4 := hid k4; have HS4 : Hid (SideT w4 B K ta tc ra rc M P M P) := hid (HS3.out.at (Turns.of_grown g4 rfl) hgl.1 hgt hgr); have HB4 : Hid (Below w.heap.size w w4) := hid (below_grownS HB3.out g4 hgl.2 HB3.out.size)
  have HO4 : Hid (OwnB w4 Bo oa oc x.D) := hid (own_turns_ne HO3.out (Turns.of_grown (X := fun k => k = gb) g4 rfl) (fun k hk e => by have := own_ob HO3.out k e; omega)); clear k4 g4 hw4 HS3 HB3 HO3 HD3
  have HY : Hid (DeedIn w4 y) := hid (by rw [hy]; exact ⟨HO4.out.row, HX.out.i.below HB4.out, HX.out.ok, HX.out.a, HX.out.n⟩)
  have hyd : ApX K ta ra y.da y.D.length := by rw [hy]; intro hn b hb hk; obtain ⟨off, e⟩ := hb; have z1 := own_ob HO4.out b (by rw [show oa = _ from e]; rfl); have z2 := HSq.out.lt b hk; omega
  have hyi : ApX K ta ra y.ia y.I.length := by rw [hy]; intro hn b hb hk; obtain ⟨off, e⟩ := hb; have z1 := rowLt HX.out.i hn e; have z2 := HSa.out.high hA b hk; omega
  have h142 := h140.subs (l' := [(6, _), (5, _), (4, _), (3, _), (0, _)]) rfl
  clear h140
  iterate 5 go_step
  refine wmk h142 rfl rfl rfl rfl 3 rfl (fun _ => rfl) fun a144 h143 => ?_
  refine wv h143 rfl rfl rfl rfl (.agg (deedC y).toArray) (by unfold execOp; simp only [h143.ev 5 rfl]; exact run_v (run_loadAt_mid _ _ _ _ (deedC y) _ (fun i u hu => by rw [Nat.zero_add]; exact blk_at9 HD4.out hu) Tryz.underlying29 rfl (by rw [infoDeed]; rfl))) fun a146 h145 => ?_
  refine wpk_call h145 (wanted_none rfl) rfl (by decide) (fr rfl) (fun args => callZ_7 args _) rfl #[.pointer (some ⟨K.pp, 0, none⟩), .agg (deedC y).toArray] (by simp only [List.map_toArray, List.map_cons, List.map_nil, h145.ev 38 rfl, h145.ev 39 rfl]) (R := fun v' w' => v' = .bool true ∧ ∃ ta2 tc2 ra2 rc2, SideT w' B K ta2 tc2 ra2 rc2 (doM y M P) (doP y M P) (doM y M P) (doP y M P) ∧ Turns (XT K ta ra) w4 w' ∧ (y.kind = 4 → ta2 = ta ∧ tc2 = tc ∧ ra2 = ra ∧ rc2 = rc)) ((does9_own HS4.out hlen htx y HY.out hyd hyi).mono fun e w' q => ⟨_, q.1, rfl, q.2⟩) fun a148 v5 w5 r5 h147 => ?_
  obtain ⟨rfl, ta2, tc2, ra2, rc2, s5, t5, _⟩ := r5; have HS5 := hid s5; have HB5 := hid (HB4.out.trans (t5.below HB4.out.size (HSa.out.high hA))); have HO5 : Hid (OwnB w5 Bo oa oc x.D) := hid (own_turns_ne HO4.out t5 (fun k hk e => by have z1 := own_ob HO4.out k e; have z2 := HSq.out.lt k hk; omega)); have hlen2 : (doM y M P).V.length = 1024 := (doM_len HSa.out.t.l.m.1).trans hlen; have htx2 := doP_ok (x := y) HSa.out.t.l.m.1 htx; clear s5 t5
  refine wmk h147 rfl rfl rfl rfl 40 rfl (fun _ => rfl) fun a150 h149 => ?_
  have h151 := h149.subs (l' := [(7, _), (6, _), (5, _), (4, _), (3, _), (0, _)]) rfl
  clear h149
  iterate 6 go_step
  refine wmk h151 rfl rfl rfl rfl 7 rfl (fun _ => rfl) fun a153 h152 => ?_
  refine wv h152 rfl rfl rfl rfl (.bool false) (run_not rfl (h152.ev 41 rfl)) fun a155 h154 => ?_
  have h156 := h154.subs (l' := [(42, _), (7, _), (6, _), (5, _), (4, _), (3, _), (0, _)]) rfl
  clear h154
  iterate 3 go_step
  refine wp_cond (t := false) (h156.ev 42 rfl) ?_
  simp only [Bool.false_eq_true, if_false]
  have h157 := h156.subs (l' := [(7, _), (6, _), (5, _), (4, _), (3, _), (0, _)]) rfl
  clear h156
  iterate 6 go_step
  refine wv h157 rfl rfl rfl rfl (.int .i64 0) rfl fun a159 h158 => ?_
  iterate 4 go_step
  have h160 := h158.subs (l' := [(8, _), (6, _), (4, _), (3, _), (0, _)]) rfl
  clear h158
  refine wp_loop (I := fun a' w' => ∃ (kA : Nat) (cs : List Value), kA ≤ x.D.length ∧ Kn 90 [(8, .int .i64 (kA : Int)), (6, .slice oa x.D.length oc), (4, .int .i64 (i : Int)), (3, .pointer (some ⟨K.pp, 0, none⟩)), (0, .slice a xs.length c)] a' ∧ Own w' Bo 5 1 oa x.D.length oc cs ∧ SideT w' B K ta2 tc2 ra2 rc2 (doM y M P) (doP y M P) (doM y M P) (doP y M P) ∧ Below w.heap.size w w') (μ := fun a' _ => x.D.length - (intOf (a'.eval (.tmp 8))).toNat) ⟨0, _, Nat.zero_le _, h160, HO5.out, HS5.out, HB5.out⟩ ?_
  clear h160
  rintro zA vA ⟨kA, csA, hkA, hKA, ho, hs, hb⟩; have HOA := hid ho; have HSA := hid hs; have HBA := hid hb; clear ho hs hb
  by_cases hlA : kA < x.D.length
  case pos =>
    obtain ⟨gA, eA⟩ := own_someO HOA.out (by omega)
    have hgB := own_ob HOA.out gA (by rw [eA]; rfl)
    iterate 4 go_step
    refine wmk hKA rfl rfl rfl rfl 8 rfl (fun _ => rfl) fun a162 h161 => ?_
    refine wmk h161 rfl rfl rfl rfl 6 rfl (fun _ => rfl) fun a164 h163 => ?_
    refine wv h163 rfl rfl rfl rfl (.int .i64 (x.D.length : Int)) (run_lenBP rfl (h163.ev 44 rfl) _) fun a166 h165 => ?_
    refine wv h165 rfl rfl rfl rfl (.bool true) (by unfold execOp; simp only [h165.ev 43 rfl, h165.ev 45 rfl]; exact run_v (ltIP _ _ _ _ _ (decide_eq_true (by omega)))) fun a168 h167 => ?_
    have h169 := h167.subs (l' := [(46, _), (8, _), (6, _), (4, _), (3, _), (0, _)]) rfl
    clear h167
    iterate 3 go_step
    refine wp_cond (t := true) (h169.ev 46 rfl) ?_
    simp only [if_true]
    have h170 := h169.subs (l' := [(8, _), (6, _), (4, _), (3, _), (0, _)]) rfl
    clear h169
    iterate 6 go_step
    refine wmk h170 rfl rfl rfl rfl 6 rfl (fun _ => rfl) fun a172 h171 => ?_
    refine wmk h171 rfl rfl rfl rfl 8 rfl (fun _ => rfl) fun a174 h173 => ?_
    refine wv h173 rfl rfl rfl rfl (.pointer (some ⟨gA, 0 + kA, none⟩)) (by unfold execOp; simp only [h173.ev 49 rfl, h173.ev 50 rfl]; exact run_v (by rw [eA]; exact ixB gA 0 _ _ kA hlA _)) fun a176 h175 => ?_
    obtain ⟨uA, huA⟩ : ∃ z, z = vA.setCell ⟨gA, 0 + kA, none⟩ (.int .u8 77) := ⟨_, rfl⟩
    obtain ⟨⟨q0, q1⟩, q2, q3, q4⟩ := own_put9 (k := 0 + kA) (by have z := HOA.out; rw [eA] at z; exact z) (by omega)
    refine wpk_skipvP h175 (wanted_none rfl) rfl (w' := uA) (by rw [huA]; unfold execOp; simp only [h175.ev 51 rfl]; exact run_uP (storeU9 q1 q2 _)) fun a178 h177 => ?_
    obtain ⟨cs2, q5⟩ := q4 (.int .u8 77)
    rw [← huA] at q5
    have gu : vA.grownBy uA (some gA) := by rw [huA]; exact sg_set (sg_refl vA (some gA)) _ _
    have hne := ne_types (ta := ta2) (by have z := HOA.out; rw [eA] at z; exact z) HSA.out.t.o; have hne2 := ne_types (ta := ra2) (by have z := HOA.out; rw [eA] at z; exact z) HSA.out.o
    have HUS : Hid (SideT uA B K ta2 tc2 ra2 rc2 (doM y M P) (doP y M P) (doM y M P) (doP y M P)) := hid (HSA.out.at (Turns.of_grown gu rfl) (by omega) hne hne2); have HUB : Hid (Below w.heap.size w uA) := hid (below_grownS HBA.out gu (by omega) HBA.out.size)
    have HUO : Hid (Own uA Bo 5 1 oa x.D.length oc cs2) := hid (by rw [eA]; exact q5); clear q0 q1 q2 q4 q5 gu hne hne2 huA
    have h179 := h177.subs (l' := [(8, _), (6, _), (4, _), (3, _), (0, _)]) rfl
    clear h177
    iterate 4 go_step
    refine wmk h179 rfl rfl rfl rfl 8 rfl (fun _ => rfl) fun a181 h180 => ?_
    refine wv h180 rfl rfl rfl rfl (.int .i64 ((kA + 1 : Nat) : Int)) (by unfold execOp; simp only [h180.ev 47 rfl]; exact run_v (addNP _ _ _ _ _ (by omega) (by omega) (by omega) _)) fun a183 h182 => ?_
    have h184 := h182.subs (l' := [(48, _), (47, _), (6, _), (4, _), (3, _), (0, _)]) rfl
    clear h182
    refine wmk h184 rfl rfl rfl rfl 48 rfl (fun _ => rfl) fun a186 h185 => ?_
    have h187 := h185.subs (l' := [(8, _), (6, _), (4, _), (3, _), (0, _)]) rfl
    clear h185
    iterate 2 go_step
    refine ⟨⟨kA + 1, _, by omega, h187.subs rfl, HUO.out, HUS.out, HUB.out⟩, ?_⟩
    rw [h187.ev 8 rfl, hKA.ev 8 rfl]; simp [intOf]; omega
  iterate 4 go_step
  refine wmk hKA rfl rfl rfl rfl 8 rfl (fun _ => rfl) fun a189 h188 => ?_
  refine wmk h188 rfl rfl rfl rfl 6 rfl (fun _ => rfl) fun a191 h190 => ?_
  refine wv h190 rfl rfl rfl rfl (.int .i64 (x.D.length : Int)) (run_lenBP rfl (h190.ev 44 rfl) _) fun a193 h192 => ?_
  refine wv h192 rfl rfl rfl rfl (.bool false) (by unfold execOp; simp only [h192.ev 43 rfl, h192.ev 45 rfl]; exact run_v (ltIP _ _ _ _ _ (decide_eq_false (by omega)))) fun a195 h194 => ?_
  have h196 := h194.subs (l' := [(46, _), (8, _), (6, _), (4, _), (3, _), (0, _)]) rfl
  clear h194
  iterate 3 go_step
  refine wp_cond (t := false) (h196.ev 46 rfl) ?_
  simp only [Bool.false_eq_true, if_false]
  have h197 := h196.subs (l' := [(8, _), (6, _), (4, _), (3, _), (0, _)]) rfl
  clear h196
  iterate 7 go_step
  refine wmk h197 rfl rfl rfl rfl 3 rfl (fun _ => rfl) fun a199 h198 => ?_
  refine wv h198 rfl rfl rfl rfl (.pointer (some ⟨K.pp, 0, none⟩)) (by unfold execOp; simp only [h198.ev 53 rfl]; exact rfl) fun a201 h200 => ?_
  refine wv h200 rfl rfl rfl rfl (.pointer (some ⟨K.pp, 2, none⟩)) (by unfold execOp; simp only [h200.ev 54 rfl]; exact run_v (faZ_40_0_2 (K.pp) _)) fun a203 h202 => ?_
  refine wv h202 rfl rfl rfl rfl (.pointer (some ⟨K.tg, 0, none⟩)) (by unfold execOp; simp only [h202.ev 55 rfl]; exact run_v (loadTP (HSA.out.t.q.cell (i := 2) (by show 2 < 5; omega)))) fun a205 h204 => ?_
  refine wpk_call h204 (wanted_none rfl) rfl (by decide) (fr rfl) (fun args => callZ_14 args _) rfl #[.pointer (some ⟨K.tg, 0, none⟩), .int .i64 0, .int .i64 1024] (by simp only [List.map_toArray, List.map_cons, List.map_nil, h204.ev 56 rfl]; rfl) (R := fun v' w' => (∃ x1 y1 n cs, v' = .tuple #[.slice x1 n y1, .int .i64 (errM (doM y M P) 0 1024)] ∧ n ≤ 1024 ∧ Own w' vA.heap.size 5 1 x1 n y1 cs) ∧ Below vA.heap.size vA w') ((HSA.out.loadL htx2 (by omega) 0 1024 (by unfold i64B; omega) (by unfold i64B; omega)).mono fun e w' q => by obtain ⟨x1, y1, q1, q2, q3⟩ := q; exact ⟨_, q1, ⟨x1, y1, _, _, rfl, loadT_le hlen2, q2⟩, q3⟩) fun a207 v6 w6 r6 h206 => ?_
  obtain ⟨⟨la, lc, ln, lcs, rfl, hln, o6⟩, b6⟩ := r6; obtain ⟨Bl, hBl⟩ : ∃ z, z = vA.heap.size := ⟨_, rfl⟩; have hbl : B ≤ Bl ∧ w.heap.size ≤ Bl := by rw [hBl]; exact ⟨HSA.out.t.b, HBA.out.size⟩
  rw [← hBl] at o6; have HO6 := hid o6; have HS6 := hid (HSA.out.mono b6); have HB6 := hid (kept_trans HBA.out b6); clear o6 b6
  refine wmk h206 rfl rfl rfl rfl 57 rfl (fun _ => rfl) fun a209 h208 => ?_
  refine wv h208 rfl rfl rfl rfl (.slice la ln lc) (by unfold execOp; simp only [h208.ev 52 rfl]; exact rfl) fun a211 h210 => ?_
  refine wv h210 rfl rfl rfl rfl (.int .i64 (errM (doM y M P) 0 1024)) (by unfold execOp; simp only [h210.ev 52 rfl]; exact rfl) fun a213 h212 => ?_
  refine wmk h212 rfl rfl rfl rfl 58 rfl (fun _ => rfl) fun a215 h214 => ?_
  refine wmk h214 rfl rfl rfl rfl 59 rfl (fun _ => rfl) fun a217 h216 => ?_
  have h218 := h216.subs (l' := [(9, _), (8, _), (6, _), (4, _), (3, _), (0, _)]) rfl
  clear h216
  iterate 6 go_step
  refine wv h218 rfl rfl rfl rfl (.int .i64 0) rfl fun a220 h219 => ?_
  iterate 4 go_step
  have h221 := h219.subs (l' := [(11, _), (9, _), (4, _), (3, _), (0, _)]) rfl
  clear h219
  refine wp_loop (I := fun a' w' => ∃ (kC : Nat) (cs : List Value), kC ≤ ln ∧ Kn 90 [(11, .int .i64 (kC : Int)), (9, .slice la ln lc), (4, .int .i64 (i : Int)), (3, .pointer (some ⟨K.pp, 0, none⟩)), (0, .slice a xs.length c)] a' ∧ Own w' Bl 5 1 la ln lc cs ∧ SideT w' B K ta2 tc2 ra2 rc2 (doM y M P) (doP y M P) (doM y M P) (doP y M P) ∧ Below w.heap.size w w') (μ := fun a' _ => ln - (intOf (a'.eval (.tmp 11))).toNat) ⟨0, _, Nat.zero_le _, h221, HO6.out, HS6.out, HB6.out⟩ ?_
  clear h221
  rintro zC vC ⟨kC, csC, hkC, hKC, ho, hs, hb⟩; have HOC := hid ho; have HSC := hid hs; have HBC := hid hb; clear ho hs hb
  by_cases hlC : kC < ln
  case pos =>
    obtain ⟨gC, eC⟩ := own_someO HOC.out (by omega)
    have hgB := own_ob HOC.out gC (by rw [eC]; rfl)
    iterate 4 go_step
    refine wmk hKC rfl rfl rfl rfl 11 rfl (fun _ => rfl) fun a223 h222 => ?_
    refine wmk h222 rfl rfl rfl rfl 9 rfl (fun _ => rfl) fun a225 h224 => ?_
    refine wv h224 rfl rfl rfl rfl (.int .i64 (ln : Int)) (run_lenBP rfl (h224.ev 61 rfl) _) fun a227 h226 => ?_
    refine wv h226 rfl rfl rfl rfl (.bool true) (by unfold execOp; simp only [h226.ev 60 rfl, h226.ev 62 rfl]; exact run_v (ltIP _ _ _ _ _ (decide_eq_true (by omega)))) fun a229 h228 => ?_
    have h230 := h228.subs (l' := [(63, _), (11, _), (9, _), (4, _), (3, _), (0, _)]) rfl
    clear h228
    iterate 3 go_step
    refine wp_cond (t := true) (h230.ev 63 rfl) ?_
    simp only [if_true]
    have h231 := h230.subs (l' := [(11, _), (9, _), (4, _), (3, _), (0, _)]) rfl
    clear h230
    iterate 6 go_step
    refine wmk h231 rfl rfl rfl rfl 9 rfl (fun _ => rfl) fun a233 h232 => ?_
    refine wmk h232 rfl rfl rfl rfl 11 rfl (fun _ => rfl) fun a235 h234 => ?_
    refine wv h234 rfl rfl rfl rfl (.pointer (some ⟨gC, 0 + kC, none⟩)) (by unfold execOp; simp only [h234.ev 66 rfl, h234.ev 67 rfl]; exact run_v (by rw [eC]; exact ixB gC 0 _ _ kC hlC _)) fun a237 h236 => ?_
    obtain ⟨uC, huC⟩ : ∃ z, z = vC.setCell ⟨gC, 0 + kC, none⟩ (.int .u8 9) := ⟨_, rfl⟩
    obtain ⟨⟨q0, q1⟩, q2, q3, q4⟩ := own_put9 (k := 0 + kC) (by have z := HOC.out; rw [eC] at z; exact z) (by omega)
    refine wpk_skipvP h236 (wanted_none rfl) rfl (w' := uC) (by rw [huC]; unfold execOp; simp only [h236.ev 68 rfl]; exact run_uP (storeU9 q1 q2 _)) fun a239 h238 => ?_
    obtain ⟨cs2, q5⟩ := q4 (.int .u8 9)
    rw [← huC] at q5
    have gu : vC.grownBy uC (some gC) := by rw [huC]; exact sg_set (sg_refl vC (some gC)) _ _
    have hne := ne_types (ta := ta2) (by have z := HOC.out; rw [eC] at z; exact z) HSC.out.t.o; have hne2 := ne_types (ta := ra2) (by have z := HOC.out; rw [eC] at z; exact z) HSC.out.o
    have HUS : Hid (SideT uC B K ta2 tc2 ra2 rc2 (doM y M P) (doP y M P) (doM y M P) (doP y M P)) := hid (HSC.out.at (Turns.of_grown gu rfl) (by omega) hne hne2); have HUB : Hid (Below w.heap.size w uC) := hid (below_grownS HBC.out gu (by omega) HBC.out.size)
    have HUO : Hid (Own uC Bl 5 1 la ln lc cs2) := hid (by rw [eC]; exact q5); clear q0 q1 q2 q4 q5 gu hne hne2 huC
    have h240 := h238.subs (l' := [(11, _), (9, _), (4, _), (3, _), (0, _)]) rfl
    clear h238
    iterate 4 go_step
    refine wmk h240 rfl rfl rfl rfl 11 rfl (fun _ => rfl) fun a242 h241 => ?_
    refine wv h241 rfl rfl rfl rfl (.int .i64 ((kC + 1 : Nat) : Int)) (by unfold execOp; simp only [h241.ev 64 rfl]; exact run_v (addNP _ _ _ _ _ (by omega) (by omega) (by omega) _)) fun a244 h243 => ?_
    have h245 := h243.subs (l' := [(65, _), (64, _), (9, _), (4, _), (3, _), (0, _)]) rfl
    clear h243
    refine wmk h245 rfl rfl rfl rfl 65 rfl (fun _ => rfl) fun a247 h246 => ?_
    have h248 := h246.subs (l' := [(11, _), (9, _), (4, _), (3, _), (0, _)]) rfl
    clear h246
    iterate 2 go_step
    refine ⟨⟨kC + 1, _, by omega, h248.subs rfl, HUO.out, HUS.out, HUB.out⟩, ?_⟩
    rw [h248.ev 11 rfl, hKC.ev 11 rfl]; simp [intOf]; omega
  iterate 4 go_step
  refine wmk hKC rfl rfl rfl rfl 11 rfl (fun _ => rfl) fun a250 h249 => ?_
  refine wmk h249 rfl rfl rfl rfl 9 rfl (fun _ => rfl) fun a252 h251 => ?_
  refine wv h251 rfl rfl rfl rfl (.int .i64 (ln : Int)) (run_lenBP rfl (h251.ev 61 rfl) _) fun a254 h253 => ?_
  refine wv h253 rfl rfl rfl rfl (.bool false) (by unfold execOp; simp only [h253.ev 60 rfl, h253.ev 62 rfl]; exact run_v (ltIP _ _ _ _ _ (decide_eq_false (by omega)))) fun a256 h255 => ?_
  have h257 := h255.subs (l' := [(63, _), (11, _), (9, _), (4, _), (3, _), (0, _)]) rfl
  clear h255
  iterate 3 go_step
  refine wp_cond (t := false) (h257.ev 63 rfl) ?_
  simp only [Bool.false_eq_true, if_false]
  have h258 := h257.subs (l' := [(11, _), (9, _), (4, _), (3, _), (0, _)]) rfl
  clear h257
  iterate 7 go_step
  refine wmk h258 rfl rfl rfl rfl 3 rfl (fun _ => rfl) fun a260 h259 => ?_
  refine wv h259 rfl rfl rfl rfl (.pointer (some ⟨K.pp, 0, none⟩)) (by unfold execOp; simp only [h259.ev 69 rfl]; exact rfl) fun a262 h261 => ?_
  refine wv h261 rfl rfl rfl rfl (.pointer (some ⟨K.pp, 2, none⟩)) (by unfold execOp; simp only [h261.ev 70 rfl]; exact run_v (faZ_40_0_2 (K.pp) _)) fun a264 h263 => ?_
  refine wv h263 rfl rfl rfl rfl (.pointer (some ⟨K.tg, 0, none⟩)) (by unfold execOp; simp only [h263.ev 71 rfl]; exact run_v (loadTP (HSC.out.t.q.cell (i := 2) (by show 2 < 5; omega)))) fun a266 h265 => ?_
  refine wpk_call h265 (wanted_none rfl) rfl (by decide) (fr rfl) (fun args => callZ_15 args _) rfl #[.pointer (some ⟨K.tg, 0, none⟩)] (by simp only [List.map_toArray, List.map_cons, List.map_nil, h265.ev 72 rfl]) (R := fun v' w' => (∃ x1 y1 n cs, v' = .slice x1 n y1 ∧ n ≤ 64 ∧ Own w' vC.heap.size 47 2 x1 n y1 cs) ∧ Below vC.heap.size vC w') ((patches_any HSC.out.t.t HSC.out.t.o.row (by have := htx2.n; omega)).mono fun e w' q => by obtain ⟨x1, y1, q1, q2, q3⟩ := q; exact ⟨_, q1, ⟨x1, y1, _, _, rfl, htx2.n, q2⟩, q3⟩) fun a268 v7 w7 r7 h267 => ?_
  obtain ⟨⟨pa, pc, pn, pcs, rfl, hpn, o7⟩, b7⟩ := r7; obtain ⟨Bp, hBp⟩ : ∃ z, z = vC.heap.size := ⟨_, rfl⟩; have hbp : B ≤ Bp ∧ w.heap.size ≤ Bp := by rw [hBp]; exact ⟨HSC.out.t.b, HBC.out.size⟩
  have hta : ∀ k, obA ta2 = some k → k < Bp := fun k hk => (by rw [hBp]; exact own_obl HSC.out.t.o k hk); have hra : ∀ k, obA ra2 = some k → k < Bp := fun k hk => (by rw [hBp]; exact own_obl HSC.out.o k hk)
  rw [← hBp] at o7; have HO7 := hid o7; have HS7 := hid (HSC.out.mono b7); have HB7 := hid (kept_trans HBC.out b7); clear o7 b7
  refine wmk h267 rfl rfl rfl rfl 73 rfl (fun _ => rfl) fun a270 h269 => ?_
  have h271 := h269.subs (l' := [(12, _), (11, _), (9, _), (4, _), (3, _), (0, _)]) rfl
  clear h269
  iterate 5 go_step
  refine wv h271 rfl rfl rfl rfl (.int .i64 0) rfl fun a273 h272 => ?_
  iterate 4 go_step
  have h274 := h272.subs (l' := [(13, _), (12, _), (4, _), (3, _), (0, _)]) rfl
  clear h272
  refine wp_loop (I := fun a' w' => ∃ (kE : Nat) (cs : List Value), kE ≤ pn ∧ Kn 90 [(13, .int .i64 (kE : Int)), (12, .slice pa pn pc), (4, .int .i64 (i : Int)), (3, .pointer (some ⟨K.pp, 0, none⟩)), (0, .slice a xs.length c)] a' ∧ Own w' Bp 47 2 pa pn pc cs ∧ SideT w' B K ta2 tc2 ra2 rc2 (doM y M P) (doP y M P) (doM y M P) (doP y M P) ∧ Below w.heap.size w w') (μ := fun a' _ => pn - (intOf (a'.eval (.tmp 13))).toNat) ⟨0, _, Nat.zero_le _, h274, HO7.out, HS7.out, HB7.out⟩ ?_
  clear h274
  rintro zE vE ⟨kE, csE, hkE, hKE, ho, hs, hb⟩; have HOE := hid ho; have HSE := hid hs; have HBE := hid hb; clear ho hs hb
  by_cases hlE : kE < pn
  case pos =>
    obtain ⟨gE, eE⟩ := own_someO HOE.out (by omega)
    have hgB := own_ob HOE.out gE (by rw [eE]; rfl)
    iterate 4 go_step
    refine wmk hKE rfl rfl rfl rfl 13 rfl (fun _ => rfl) fun a276 h275 => ?_
    refine wmk h275 rfl rfl rfl rfl 12 rfl (fun _ => rfl) fun a278 h277 => ?_
    refine wv h277 rfl rfl rfl rfl (.int .i64 (pn : Int)) (run_lenP rfl (h277.ev 75 rfl) _) fun a280 h279 => ?_
    refine wv h279 rfl rfl rfl rfl (.bool true) (by unfold execOp; simp only [h279.ev 74 rfl, h279.ev 76 rfl]; exact run_v (ltIP _ _ _ _ _ (decide_eq_true (by omega)))) fun a282 h281 => ?_
    have h283 := h281.subs (l' := [(77, _), (13, _), (12, _), (4, _), (3, _), (0, _)]) rfl
    clear h281
    iterate 3 go_step
    refine wp_cond (t := true) (h283.ev 77 rfl) ?_
    simp only [if_true]
    have h284 := h283.subs (l' := [(13, _), (12, _), (4, _), (3, _), (0, _)]) rfl
    clear h283
    iterate 6 go_step
    refine wmk h284 rfl rfl rfl rfl 12 rfl (fun _ => rfl) fun a286 h285 => ?_
    refine wmk h285 rfl rfl rfl rfl 13 rfl (fun _ => rfl) fun a288 h287 => ?_
    refine wv h287 rfl rfl rfl rfl (ptV ⟨5, [113]⟩) (by unfold execOp; simp only [List.map_toArray, List.map_cons, List.map_nil]; exact run_v (buildPt5 _)) fun a290 h289 => ?_
    refine wv h289 rfl rfl rfl rfl (.pointer (some ⟨gE, 0 + kE * 2, none⟩)) (by unfold execOp; simp only [h289.ev 80 rfl, h289.ev 81 rfl]; exact run_v (by rw [eE]; exact ixP gE 0 _ _ kE hlE _)) fun a292 h291 => ?_
    obtain ⟨L9, q1, q2, q3, q4⟩ := own_splice (by have z := HOE.out; rw [eE] at z; exact z)
    refine wpk_storeP h291 rfl rfl rfl gE (0 + kE * 2) (h291.ev 83 rfl) (ptC ⟨5, [113]⟩) (h291.ev 82 rfl) (by rw [infoPt]; rfl) (ptC_one _) q1 (by rw [ptC_len]; omega) fun a294 uE h293 q5 gu => ?_
    have q6 := q4 uE (0 + kE * 2) (ptC ⟨5, [113]⟩) (by rw [ptC_len]; omega) q5
    have hne : obA ta2 ≠ some gE := (fun z => by have := hta _ z; omega); have hne2 : obA ra2 ≠ some gE := (fun z => by have := hra _ z; omega)
    have HUS : Hid (SideT uE B K ta2 tc2 ra2 rc2 (doM y M P) (doP y M P) (doM y M P) (doP y M P)) := hid (HSE.out.at (Turns.of_grown gu rfl) (by omega) hne hne2); have HUB : Hid (Below w.heap.size w uE) := hid (below_grownS HBE.out gu (by omega) HBE.out.size)
    have HUO : Hid (Own uE Bp 47 2 pa pn pc _) := hid (by rw [eE]; exact q6); clear q1 q4 q5 q6 gu hne hne2
    have h295 := h293.subs (l' := [(13, _), (12, _), (4, _), (3, _), (0, _)]) rfl
    clear h293
    iterate 4 go_step
    refine wmk h295 rfl rfl rfl rfl 13 rfl (fun _ => rfl) fun a297 h296 => ?_
    refine wv h296 rfl rfl rfl rfl (.int .i64 ((kE + 1 : Nat) : Int)) (by unfold execOp; simp only [h296.ev 78 rfl]; exact run_v (addNP _ _ _ _ _ (by omega) (by omega) (by omega) _)) fun a299 h298 => ?_
    have h300 := h298.subs (l' := [(79, _), (78, _), (12, _), (4, _), (3, _), (0, _)]) rfl
    clear h298
    refine wmk h300 rfl rfl rfl rfl 79 rfl (fun _ => rfl) fun a302 h301 => ?_
    have h303 := h301.subs (l' := [(13, _), (12, _), (4, _), (3, _), (0, _)]) rfl
    clear h301
    iterate 2 go_step
    refine ⟨⟨kE + 1, _, by omega, h303.subs rfl, HUO.out, HUS.out, HUB.out⟩, ?_⟩
    rw [h303.ev 13 rfl, hKE.ev 13 rfl]; simp [intOf]; omega
  iterate 4 go_step
  refine wmk hKE rfl rfl rfl rfl 13 rfl (fun _ => rfl) fun a305 h304 => ?_
  refine wmk h304 rfl rfl rfl rfl 12 rfl (fun _ => rfl) fun a307 h306 => ?_
  refine wv h306 rfl rfl rfl rfl (.int .i64 (pn : Int)) (run_lenP rfl (h306.ev 75 rfl) _) fun a309 h308 => ?_
  refine wv h308 rfl rfl rfl rfl (.bool false) (by unfold execOp; simp only [h308.ev 74 rfl, h308.ev 76 rfl]; exact run_v (ltIP _ _ _ _ _ (decide_eq_false (by omega)))) fun a311 h310 => ?_
  have h312 := h310.subs (l' := [(77, _), (13, _), (12, _), (4, _), (3, _), (0, _)]) rfl
  clear h310
  iterate 3 go_step
  refine wp_cond (t := false) (h312.ev 77 rfl) ?_
  simp only [Bool.false_eq_true, if_false]
  have h313 := h312.subs (l' := [(13, _), (12, _), (4, _), (3, _), (0, _)]) rfl
  clear h312
  iterate 6 go_step
  refine wmk h313 rfl rfl rfl rfl 4 rfl (fun _ => rfl) fun a315 h314 => ?_
  refine wv h314 rfl rfl rfl rfl (.int .i64 ((i + 1 : Nat) : Int)) (by unfold execOp; simp only [h314.ev 26 rfl]; exact run_v (addNP _ _ _ _ _ (by omega) (by omega) (by omega) _)) fun a317 h316 => ?_
  have h318 := h316.subs (l' := [(27, _), (26, _), (13, _), (12, _), (3, _), (0, _)]) rfl
  clear h316
  refine wmk h318 rfl rfl rfl rfl 27 rfl (fun _ => rfl) fun a320 h319 => ?_
  have h321 := h319.subs (l' := [(4, _), (13, _), (12, _), (3, _), (0, _)]) rfl
  clear h319
  iterate 2 go_step
  refine ⟨⟨i + 1, doM y M P, doP y M P, ta2, tc2, ra2, rc2, by omega, by omega, h321.subs rfl, hlen2, htx2, HSE.out, HBE.out⟩, ?_⟩
  rw [h321.ev 4 rfl, hK.ev 4 rfl]; simp [intOf]; omega
end Go.Proofs.YtcackliabemecaaGreatDoor
