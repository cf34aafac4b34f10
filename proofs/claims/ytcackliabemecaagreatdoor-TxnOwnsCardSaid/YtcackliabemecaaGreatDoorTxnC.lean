/- txn.Store. (genTxnS.py) -/
import Derived.Test.YtcackliabemecaaGreatDoorTxnMa
namespace Go.Proofs.YtcackliabemecaaGreatDoor
open Go.RowKit
set_option linter.unusedSimpArgs false
set_option linter.unusedVariables false
set_option maxRecDepth 100000

theorem storeTP {w : World} {g off : Nat} {u : Value} (h : w.cell? ⟨g, off, none⟩ = some u) (hz : w.frozen? ⟨g, off, none⟩ = false) (a : Option Addr) (n c : Nat) : (Instr.storeAt 44 (.pointer (some ⟨g, off, none⟩)) (.slice a n c)).run Tryz.prog w = .ok () (w.setCell ⟨g, off, none⟩ (.slice a n c)) := by
  have u3 := Tryz.underlying44
  have a3 := Tryz.isAgg44
  have z3 := Tryz.sizeOf44
  go_simp
def obA (a : Option Addr) : Option Nat := a.map (·.block)
theorem obA_slice (a : Option Addr) (n c : Nat) : (Value.slice a n c).ownBlock = obA a := by cases a <;> rfl
/-- where a row that has grown lies: where it lay, or in a new block -/
def WhereA (w : World) (a a' : Option Addr) : Prop := obA a' = obA a ∨ ∃ k, obA a' = some k ∧ w.heap.size ≤ k
theorem where_le {w ws : World} {a a' : Option Addr} (h : WhereA ws a a') (hl : w.heap.size ≤ ws.heap.size) : WhereA w a a' := h.imp id fun ⟨k, h1, h2⟩ => ⟨k, h1, Nat.le_trans hl h2⟩
theorem own_ob {w : World} {B : Nat} {e : TypeId} {sz : Nat} {a : Option Addr} {n c : Nat} {cs : List Value} (h : Own w B e sz a n c cs) : ∀ k, obA a = some k → B ≤ k := fun k hk => (World.ownsRow.lt h k (by rw [obA_slice]; exact hk)).1
theorem append_where {w : World} {B : Nat} {t ty e : TypeId} {i : TypeInfo} {z : Value} {size bytes : Nat} (ht : Tryz.prog.underlying t = some (.slice e)) (hi : Tryz.prog.info? e = some i) (hz : i.zero = some z) (hsize : i.size = size) (hby : i.bytes = bytes) (hsz : 0 < size)
    {a1 : Option Addr} {n c0 : Nat} {xs : List Value} (hown : Own w B e size a1 n c0 xs) {a : Addr} {m c : Nat} {news : List Value} (hl : news.length = m * size) (hnews : ∀ j u, news[j]? = some u → w.cell? (a.add j) = some u) (h1 : ∀ u ∈ news, u.oneCell' = true)
    (h63 : n + m ≤ maxLen) (hbytes : (n + m) * bytes ≤ 140737488355328) (hm : 0 < m) {b : Option Addr} {n' c' : Nat} {w' : World} (hr : (Builtin.append_ #[t, t] ty #[.slice a1 n c0, .slice (some a) m c]).run Tryz.prog w = .ok (.slice b n' c') w') : WhereA w a1 b := by
  subst hsize
  subst hby
  have hsmall : n + m ≤ 9223372036854775807 := by simp only [maxLen] at h63; omega
  rcases hown.2 with ⟨hv, hn⟩ | ⟨g, cap, cur, hv, hbg, hg, hnc, hcm, hcs, htake⟩
  · cases hv
    have q := run_append_nil (P := Tryz.prog) w t ty e i z ht hi hz a m c news hl hnews (by omega) (by omega) (by have hb := hbytes; simp only [Nat.zero_add] at hb; omega)
    rw [q] at hr
    cases hr
    exact .inr ⟨_, rfl, Nat.le_refl _⟩
  · cases hv
    by_cases hroom : n + m ≤ c0
    · have hfit : n * i.size + news.length ≤ cur.size := by rw [hl, hcs, ← Nat.add_mul]; exact Nat.mul_le_mul_right _ hroom
      have q := run_append_room (P := Tryz.prog) w t ty e i ht hi g n c0 cur hg a m c news hl hnews h1 hroom hfit
      rw [q] at hr
      cases hr
      exact .inl rfl
    · have holds : ∀ j u, xs[j]? = some u → w.cell? ((⟨g, 0, none⟩ : Addr).add j) = some u := World.ownsRow.cells hown (g := g) rfl
      have q := run_append_grow (P := Tryz.prog) w t ty e i z ht hi hz ⟨g, 0, none⟩ n c0 xs hown.1 holds a m c news hl hnews (by omega) (by omega) (growslice_fits (by omega) hbytes)
      rw [q] at hr
      cases hr
      exact .inr ⟨_, rfl, Nat.le_refl _⟩
section
variable {ops : Array Oper} {Q : Exit → Act → World → Prop} {oi : Oper} {a : Act} {w : World} {N : Nat} {l : List (Nat × Value)} {K : Act → World → Prop}
theorem op_append2 (h : Kn N l a) {d : Nat} (hd : oi.dst = some d) (hdN : d < N) (hf : ∀ x ∈ l, x.1 ≠ d) (s x : Operand) {t e : TypeId} {sz bytes : Nat}
    (ho : oi.op = .call { callee := .builtin .append, args := #[s, x], argTypes := #[t, t] }) (E : ElemT Tryz.prog t e sz bytes) (B : Nat)
    {a1 : Option Addr} {ad : Addr} {n c m c2 : Nat} {cs ds : List Value} (hs : a.eval s = .slice a1 n c) (hx : a.eval x = .slice (some ad) (m + 1) c2)
    (hown : Own w B e sz a1 n c cs) (hrow : Row w sz (some ad) (m + 1) c2 ds) (h1 : ∀ u ∈ ds, u.oneCell' = true)
    (hbytes : (n + (m + 1)) * bytes ≤ 140737488355328) (h63 : n + (m + 1) ≤ 9223372036854775807) (hbase : B ≤ w.heap.size)
    (k : ∀ a' b' c' w', Own w' B e sz b' (n + (m + 1)) c' (cs ++ ds) → w.grownBy w' (Value.slice a1 n c).ownBlock → Below B w w' → WhereA w a1 b' → Kn N ((d, .slice b' (n + (m + 1)) c') :: l) a' → K a' w') : Oper.wp Tryz.prog oi a w K Q := by
  have hlt : ∀ k, (Value.slice a1 n c).ownBlock = some k → B ≤ k := fun k hk => (World.ownsRow.lt hown k hk).1
  obtain ⟨under, ⟨ti, z, hi', hz, hsize, hby, hzs⟩, hsz⟩ := E
  obtain ⟨g1, g2, g3, g4, g5⟩ := hrow
  have hnews : ∀ j u, ds[j]? = some u → w.cell? (ad.add j) = some u := by
    intro j u hu
    obtain ⟨b, off, e1, _, hc⟩ := g5 (by omega)
    cases e1
    have := hc j u hu
    unfold Addr.add
    split
    · subst j; simpa using this
    · exact this
  have hm63 : n + (m + 1) ≤ maxLen := by unfold maxLen; omega
  obtain ⟨v', w', hr, r1, r2, _⟩ := run_append_own (P := Tryz.prog) w B t oi.type e ti z sz bytes under hi' hz hsize hby hzs hsz (.slice a1 n c) n cs hown ad (m + 1) c2 ds g1 hnews h1 hm63 hbytes hbase
  obtain ⟨b, c', rfl, h5⟩ := ownsRow_own r1
  have hw := append_where under hi' hz hsize hby hsz hown g1 hnews h1 hm63 hbytes (Nat.succ_pos m) hr
  have hrun : (execOp a.eval oi).run Tryz.prog w = .ok (.value (.slice b (n + (m + 1)) c')) w' := by
    unfold execOp
    simp only [ho, resolve, invoke, builtin, Sem.run_bind, Sem.run_pure, Result.andThen_ok, List.map_toArray, List.map_cons, List.map_nil, hs, hx, hr]
  unfold Oper.wp
  rw [hrun, Oper.upon_value, hd]
  exact k _ b c' w' h5 r2 ((Below.refl B w).grown r2 hbase (fun k hk => hlt k hk)) hw (h.put hdN hf _)
end
theorem geTP (x y : Operand) (v u : Int) (w : World) {b : Bool} (h : decide (u ≤ v) = b) : (do eqGuard .geq 3 x y (.int .i64 v) (.int .i64 u); binOp .geq 3 (.int .i64 v) (.int .i64 u) : Sem Value).run Tryz.prog w = .ok (.bool b) w := by
  have u3 := Tryz.underlying3
  have a3 := Tryz.isAgg3
  have z3 := Tryz.sizeOf3
  go_simp
theorem loadLPT {w : World} {g off : Nat} {q : Option Addr} (h : w.cell? ⟨g, off, none⟩ = some (.pointer q)) : (Instr.loadAt 35 (.pointer (some ⟨g, off, none⟩))).run Tryz.prog w = .ok (.pointer q) w := by
  have u3 := Tryz.underlying35
  have a3 := Tryz.isAgg35
  have z3 := Tryz.sizeOf35
  go_simp
theorem callT_24 (args : Array Value) (w : World) : (callFunc 35 args).run Tryz.prog w = .ok (.enter 35 args) w := by
  have h := Tryz.func35
  go_simp
theorem faT_61_0_0 (g : Nat) (w : World) : (Instr.fieldAt 69 (.pointer (some ⟨g, 0, none⟩)) 0).run Tryz.prog w = .ok (.pointer (some ⟨g, 0, none⟩)) w := rfl
theorem faT_61_0_2 (g : Nat) (w : World) : (Instr.fieldAt 69 (.pointer (some ⟨g, 0, none⟩)) 2).run Tryz.prog w = .ok (.pointer (some ⟨g, 2, none⟩)) w := rfl
/-- what Store says and leaves -/
def StoreTP (w : World) (tg g lg B : Nat) (M : MemM) (P : List PtM) (at_ : Int) (xs : List UInt8) (e : Ending) (w' : World) : Prop :=
  e = .returned (.int .i64 (errT M P at_ xs.length)) ∧ ∃ ta tc, Blk w' tg 69 (txC g lg ta (putT M P at_ xs).length tc) ∧ OwnPt w' B ta tc (putT M P at_ xs) ∧ Turns (fun k => k = tg ∨ B ≤ k) w w'
/-- and which blocks -/
def StoreT2 (w : World) (tg g lg B : Nat) (ta0 : Option Addr) (M : MemM) (P : List PtM) (at_ : Int) (xs : List UInt8) (e : Ending) (w' : World) : Prop :=
  e = .returned (.int .i64 (errT M P at_ xs.length)) ∧ ∃ ta tc, Blk w' tg 69 (txC g lg ta (putT M P at_ xs).length tc) ∧ OwnPt w' B ta tc (putT M P at_ xs) ∧ Turns (fun k => k = tg ∨ some k = obA ta0) w w' ∧ WhereA w ta0 ta
theorem storeTP_no {w : World} {tg g lg B tc : Nat} {ta : Option Addr} {M : MemM} {P : List PtM} {at_ : Int} {xs : List UInt8} (h : okT M P at_ xs.length = false) (b : Blk w tg 69 (txC g lg ta P.length tc)) (o : OwnPt w B ta tc P) : StoreT2 w tg g lg B ta M P at_ xs (.returned (.int .i64 1)) w := by
  unfold StoreT2 errT putT
  rw [h]
  exact ⟨rfl, ta, tc, b, o, Turns.refl _ w, .inl rfl⟩
set_option maxHeartbeats 8000000 in
theorem storeT_ok {w : World} {tg g lg v d p tc B : Nat} {ta : Option Addr} {M : MemM} {P : List PtM} (hm : MemP w g v d p M) (hb : Blk w tg 69 (txC g lg ta P.length tc)) (ho : OwnPt w B ta tc P) (hB : B ≤ w.heap.size) (htg : tg < B) (hM : M.V.length ≤ 1048576) {a : Option Addr} {c : Nat} {xs : List UInt8} (h0 : RowB w a c xs) {at_ : Int}
    (hl : xs.length ≤ 256) (hP : P.length < 64) (h3 : 0 ≤ at_) (h4 : at_ + xs.length ≤ M.V.length) :
    Calls Tryz.prog 20 #[.pointer (some ⟨tg, 0, none⟩), .int .i64 at_, .slice a xs.length c] w fun e w' => e = .returned (.int .i64 0) ∧ ∃ ta2 tc2, Blk w' tg 69 (txC g lg ta2 (P ++ [(⟨at_, xs⟩ : PtM)]).length tc2) ∧ OwnPt w' B ta2 tc2 (P ++ [(⟨at_, xs⟩ : PtM)]) ∧ Turns (fun k => k = tg ∨ some k = obA ta) w w' ∧ WhereA w ta ta2 := by
  have HM := hid hm; have HB := hid hb; have HO := hid ho
  have n1 := hid (show decide ((256 : Int) < (xs.length : Int)) = false from decide_eq_false (by omega))
  have n2 := hid (show decide ((64 : Int) ≤ (P.length : Int)) = false from decide_eq_false (by omega))
  have n3 := hid (show decide (at_ < (0 : Int)) = false from decide_eq_false (by omega))
  have n4 := hid (show decide ((M.V.length : Int) - (xs.length : Int) < at_) = false from decide_eq_false (by omega))
  clear hm hb ho
  go_enter Tryz.func20, Tryz.ntmps20
  iterate 3 go_step
  refine wpk_enter (N := 45) (l := [(0, .pointer (some ⟨tg, 0, none⟩)), (1, .int .i64 at_), (2, .slice a xs.length c)]) ⟨rfl, (by intro x hx; simp only [List.mem_cons, List.not_mem_nil, or_false] at hx; rcases hx with rfl | rfl | rfl <;> rfl), rfl⟩ fun a2 h1 => ?_
  refine wv h1 rfl rfl rfl rfl (.int .i64 0) rfl fun a4 h3 => ?_
  iterate 6 go_step
  refine wmk h3 rfl rfl rfl rfl 2 rfl (fun _ => rfl) fun a6 h5 => ?_
  refine wv h5 rfl rfl rfl rfl (.int .i64 (xs.length : Int)) (run_lenBP rfl (h5.ev 7 rfl) _) fun a8 h7 => ?_
  refine wv h7 rfl rfl rfl rfl (.bool false) (by unfold execOp; simp only [h7.ev 8 rfl]; exact run_v (gtIP _ _ _ _ _ n1.out)) fun a10 h9 => ?_
  refine wmk h9 rfl rfl rfl rfl 9 rfl (fun _ => rfl) fun a12 h11 => ?_
  refine wpk_val h11 (by rw [wanted_of (g := 3) (want := false) (b := false) rfl (h11.yields (prev := 10) rfl (by simp))]; rfl) rfl (by decide) (fr rfl) (.pointer (some ⟨tg, 0, none⟩)) (by unfold execOp; simp only [h11.ev 0 rfl]; rfl) fun a14 h13 => ?_
  refine wpk_val h13 (by rw [wanted_of (g := 3) (want := false) (b := false) rfl (h13.yields (prev := 10) rfl (by simp))]; rfl) rfl (by decide) (fr rfl) (.pointer (some ⟨tg, 0, none⟩)) (by unfold execOp; simp only [h13.ev 11 rfl]; exact rfl) fun a16 h15 => ?_
  refine wpk_val h15 (by rw [wanted_of (g := 3) (want := false) (b := false) rfl (h15.yields (prev := 10) rfl (by simp))]; rfl) rfl (by decide) (fr rfl) (.pointer (some ⟨tg, 2, none⟩)) (by unfold execOp; simp only [h15.ev 12 rfl]; exact run_v (faT_61_0_2 (tg) _)) fun a18 h17 => ?_
  refine wpk_val h17 (by rw [wanted_of (g := 3) (want := false) (b := false) rfl (h17.yields (prev := 10) rfl (by simp))]; rfl) rfl (by decide) (fr rfl) (.slice ta P.length tc) (by unfold execOp; simp only [h17.ev 13 rfl]; exact run_v (loadPtsP (HB.out.cell (i := 2) (by show 2 < 3; omega)))) fun a20 h19 => ?_
  refine wpk_val h19 (by rw [wanted_of (g := 3) (want := false) (b := false) rfl (h19.yields (prev := 10) rfl (by simp))]; rfl) rfl (by decide) (fr rfl) (.int .i64 (P.length : Int)) (run_lenP rfl (h19.ev 14 rfl) _) fun a22 h21 => ?_
  refine wpk_val h21 (by rw [wanted_of (g := 3) (want := false) (b := false) rfl (h21.yields (prev := 10) rfl (by simp))]; rfl) rfl (by decide) (fr rfl) (.bool false) (by unfold execOp; simp only [h21.ev 15 rfl]; exact run_v (geTP _ _ _ _ _ n2.out)) fun a24 h23 => ?_
  refine wv h23 rfl rfl rfl rfl (.bool false) (run_pick rfl (h23.ev 10 rfl) (by rw [if_neg (by simp)]; exact h23.ev 16 rfl)) fun a26 h25 => ?_
  have h27 := h25.subs (l' := [(17, _), (6, _), (0, _), (1, _), (2, _)]) rfl
  clear h25
  iterate 3 go_step
  refine wp_cond (t := false) (h27.ev 17 rfl) ?_
  simp only [Bool.false_eq_true, if_false]
  have h28 := h27.subs (l' := [(6, _), (0, _), (1, _), (2, _)]) rfl
  clear h27
  iterate 6 go_step
  refine wmk h28 rfl rfl rfl rfl 1 rfl (fun _ => rfl) fun a30 h29 => ?_
  refine wv h29 rfl rfl rfl rfl (.bool false) (by unfold execOp; simp only [h29.ev 18 rfl]; exact run_v (ltIP _ _ _ _ _ n3.out)) fun a32 h31 => ?_
  refine wmk h31 rfl rfl rfl rfl 19 rfl (fun _ => rfl) fun a34 h33 => ?_
  refine wpk_val h33 (by rw [wanted_of (g := 2) (want := false) (b := false) rfl (h33.yields (prev := 20) rfl (by simp))]; rfl) rfl (by decide) (fr rfl) (.int .i64 at_) (by unfold execOp; simp only [h33.ev 1 rfl]; rfl) fun a36 h35 => ?_
  refine wpk_val h35 (by rw [wanted_of (g := 2) (want := false) (b := false) rfl (h35.yields (prev := 20) rfl (by simp))]; rfl) rfl (by decide) (fr rfl) (.pointer (some ⟨tg, 0, none⟩)) (by unfold execOp; simp only [h35.ev 0 rfl]; rfl) fun a38 h37 => ?_
  refine wpk_val h37 (by rw [wanted_of (g := 2) (want := false) (b := false) rfl (h37.yields (prev := 20) rfl (by simp))]; rfl) rfl (by decide) (fr rfl) (.pointer (some ⟨tg, 0, none⟩)) (by unfold execOp; simp only [h37.ev 22 rfl]; exact rfl) fun a40 h39 => ?_
  refine wpk_val h39 (by rw [wanted_of (g := 2) (want := false) (b := false) rfl (h39.yields (prev := 20) rfl (by simp))]; rfl) rfl (by decide) (fr rfl) (.pointer (some ⟨tg, 0, none⟩)) (by unfold execOp; simp only [h39.ev 23 rfl]; exact run_v (faT_61_0_0 (tg) _)) fun a42 h41 => ?_
  refine wpk_val h41 (by rw [wanted_of (g := 2) (want := false) (b := false) rfl (h41.yields (prev := 20) rfl (by simp))]; rfl) rfl (by decide) (fr rfl) (.pointer (some ⟨g, 0, none⟩)) (by unfold execOp; simp only [h41.ev 24 rfl]; exact run_v (loadMP (HB.out.cell (i := 0) (by show 0 < 3; omega)))) fun a44 h43 => ?_
  refine wpk_call h43 (by rw [wanted_of (g := 2) (want := false) (b := false) rfl (h43.yields (prev := 20) rfl (by simp))]; rfl) rfl (by decide) (fr rfl) (fun args => callT_24 args _) rfl #[.pointer (some ⟨g, 0, none⟩)] (by simp only [List.map_toArray, List.map_cons, List.map_nil, h43.ev 25 rfl]) (R := fun v' w' => v' = .int .i64 (M.V.length : Int) ∧ w = w') ((size_any HM.out).mono fun e w' q => ⟨_, q.1, rfl, q.2⟩) fun a46 v2 w2 r2 h45 => ?_
  obtain ⟨rfl, rfl⟩ := r2
  refine wpk_val h45 (by rw [wanted_of (g := 2) (want := false) (b := false) rfl (h45.yields (prev := 20) rfl (by simp))]; rfl) rfl (by decide) (fr rfl) (.slice a xs.length c) (by unfold execOp; simp only [h45.ev 2 rfl]; rfl) fun a48 h47 => ?_
  refine wpk_val h47 (by rw [wanted_of (g := 2) (want := false) (b := false) rfl (h47.yields (prev := 20) rfl (by simp))]; rfl) rfl (by decide) (fr rfl) (.int .i64 (xs.length : Int)) (run_lenBP rfl (h47.ev 27 rfl) _) fun a50 h49 => ?_
  refine wpk_val h49 (by rw [wanted_of (g := 2) (want := false) (b := false) rfl (h49.yields (prev := 20) rfl (by simp))]; rfl) rfl (by decide) (fr rfl) (.int .i64 ((M.V.length : Int) - (xs.length : Int))) (by unfold execOp; simp only [h49.ev 26 rfl, h49.ev 28 rfl]; exact run_v (subIP _ _ _ _ _ rfl (by omega) (by omega) _)) fun a52 h51 => ?_
  refine wpk_val h51 (by rw [wanted_of (g := 2) (want := false) (b := false) rfl (h51.yields (prev := 20) rfl (by simp))]; rfl) rfl (by decide) (fr rfl) (.bool false) (by unfold execOp; simp only [h51.ev 21 rfl, h51.ev 29 rfl]; exact run_v (gtIP _ _ _ _ _ n4.out)) fun a54 h53 => ?_
  refine wv h53 rfl rfl rfl rfl (.bool false) (run_pick rfl (h53.ev 20 rfl) (by rw [if_neg (by simp)]; exact h53.ev 30 rfl)) fun a56 h55 => ?_
  have h57 := h55.subs (l' := [(31, _), (6, _), (0, _), (1, _), (2, _)]) rfl
  clear h55
  iterate 3 go_step
  refine wp_cond (t := false) (h57.ev 31 rfl) ?_
  simp only [Bool.false_eq_true, if_false]
  have h58 := h57.subs (l' := [(6, _), (0, _), (1, _), (2, _)]) rfl
  clear h57
  iterate 4 go_step
  have HBd := hid (HB.out.mono (Below.refl _ _).drew); have HOd : Hid (OwnPt w.drew B ta tc P) := hid (Own.mono HO.out (Below.refl _ _).drew); have hst := run_str (h0.mono (Below.refl _ _).drew)
  refine wp_region_held_drew (S := fun _ => True) (by kernel_rfl) trivial (fun hS1 => ?_)
  refine tkm hS1 h58 0 0 rfl rfl rfl rfl (by kernel_rfl) (fun _ _ _ _ h => h) rfl (fun _ => rfl) rfl fun a60 h59 => ?_
  refine tkm hS1 h59 1 0 rfl rfl rfl rfl (by kernel_rfl) (fun _ _ _ _ h => h) rfl (fun _ => rfl) rfl fun a62 h61 => ?_
  refine tkn hS1 h61 2 33 rfl rfl rfl rfl (by kernel_rfl) (fun _ _ _ _ h => h) rfl rfl rfl fun a64 h63 => ?_
  refine tkf hS1 h63 3 34 rfl rfl rfl rfl (by kernel_rfl) (fun _ _ _ _ h => h) rfl rfl rfl (fun w => faT_61_0_2 _ w) fun a66 h65 => ?_
  refine tkm hS1 h65 5 1 rfl rfl rfl rfl (by kernel_rfl) (fun _ _ _ _ h => h) rfl (fun _ => rfl) rfl fun a68 h67 => ?_
  refine tkm hS1 h67 6 2 rfl rfl rfl rfl (by kernel_rfl) (fun _ _ _ _ h => h) rfl (fun _ => rfl) rfl fun a70 h69 => ?_
  refine wpk_two 4 7 rfl rfl rfl rfl (by kernel_rfl) (fun KK hK => op_val (w' := w.drew) h69 rfl (by decide) (fr rfl) (.slice ta P.length tc) (by show (execOp _ (⟨_, .load 44 (.tmp 35), _, _, _, _⟩ : Oper)).run _ _ = _; exact (by unfold execOp; simp only [h69.ev 35 rfl]; exact run_v (loadPtsP (HBd.out.cell (i := 2) (by show 2 < 3; omega))))) fun ax hx => hK _ _ trivial fun hS2 => ?_) (fun KK hK => op_val (w' := w.drew) h69 rfl (by decide) (fr rfl) (strB xs) (by show (execOp _ (⟨_, .convert 26 9 (.tmp 38), _, _, _, _⟩ : Oper)).run _ _ = _; exact (by unfold execOp; simp only [h69.ev 38 rfl]; exact run_v hst)) fun ax hx => hK _ _ trivial fun hS2 => ?_)
  · clear hK KK
    refine wpk_only 7 rfl rfl (by kernel_rfl) fun KK hK => op_val (w' := w.drew) hx rfl (by decide) (fr rfl) (strB xs) (by show (execOp _ (⟨_, .convert 26 9 (.tmp 38), _, _, _, _⟩ : Oper)).run _ _ = _; exact (by unfold execOp; simp only [hx.ev 38 rfl]; exact run_v hst)) fun a72 h71 => hK _ _ (trivial) fun hS2b => ?_
    clear hK KK
    refine wpk_take hS1 h71 8 rfl rfl (by decide) (fr rfl) (by kernel_rfl) (by kernel_rfl) (by kernel_rfl) (fun _ _ _ _ h => h) (ptV ⟨at_, xs⟩) (Or.inl ⟨Eq.refl true, fun w1 hSw => (by show (execOp _ (⟨_, .build 47 #[(0, (.tmp 37)), (1, (.tmp 39))], _, _, _, _⟩ : Oper)).run _ _ = _; exact (by unfold execOp; simp only [List.map_toArray, List.map_cons, List.map_nil, h71.ev 37 rfl, h71.ev 39 rfl]; exact run_v (buildPt _ _ _)))⟩) fun a74 h73 => ?_
    obtain ⟨ws, hws⟩ : ∃ x, x = w.drew.alloc (.cells (ptC ⟨at_, xs⟩).toArray 47) := ⟨_, rfl⟩
    have bs : Below w.drew.heap.size w.drew ws := by rw [hws]; exact albO _ _
    have rs : RowPt ws (some ⟨w.drew.heap.size, 0, none⟩) 1 [⟨at_, xs⟩] := by rw [hws]; exact rowPt1 _ _
    refine wpk_only 9 rfl rfl (by kernel_rfl) fun KK hK => op_val (w' := ws) h73 rfl (by decide) (fr rfl) (.slice (some ⟨w.drew.heap.size, 0, none⟩) ([⟨at_, xs⟩] : List PtM).length 1) (by show (execOp _ (⟨_, .buildSlice 44 1 #[(0, (.tmp 40))], _, _, _, _⟩ : Oper)).run _ _ = _; exact (by unfold execOp; simp only [List.map_toArray, List.map_cons, List.map_nil, h73.ev 40 rfl]; rw [hws]; exact run_v (buildPts _ _))) fun a76 h75 => hK _ _ (trivial) fun hS3 => ?_
    clear hK KK
    have HBs := hid (HBd.out.mono bs); have HOs : Hid (OwnPt ws B ta tc P) := hid (Own.mono HOd.out bs); have HRs := hid rs; have HTs : Hid (Turns (fun k => k = tg ∨ some k = obA ta) w ws) := hid ((Turns.refl _ w).drew.trans (Turns.of_below bs)); have hsz : B ≤ ws.heap.size := Nat.le_trans hB bs.size; have hszw : w.heap.size ≤ ws.heap.size := bs.size; clear hws rs bs
    refine wpk_only 10 rfl rfl (by kernel_rfl) fun KK hK => op_append2 h75 rfl (by decide) (fr rfl) (.tmp 36) (.tmp 41) rfl EPt B (h75.ev 36 rfl) (h75.ev 41 rfl) HOs.out HRs.out (pts_one _) (by show (P.length + 1) * 24 ≤ _; omega) (by show P.length + 1 ≤ _; omega) hsz fun a78 ta2 tc2 w3 o3 g3 b3 x3 h77 => hK _ _ trivial fun hS4 => ?_
    clear hK KK
    have HO3 : Hid (OwnPt w3 B ta2 tc2 (P ++ [(⟨at_, xs⟩ : PtM)])) := hid (by unfold OwnPt; rw [List.length_append, List.flatMap_append]; exact o3)
    have HB3 : Hid (Blk w3 tg 69 (txC g lg ta P.length tc)) := hid ((b3.block tg htg).trans HBs.out)
    have HT3 : Hid (Turns (fun k => k = tg ∨ some k = obA ta) w w3) := hid (HTs.out.trans ⟨g3.os, g3.tape, g3.output, g3.size, fun k hk hx => g3.block k hk (by rw [obA_slice]; exact fun e => hx (.inr e))⟩)
    have HX3 := hid (where_le x3 hszw)
    clear o3 g3 b3 x3
    refine tkn hS1 h77 11 32 rfl rfl rfl rfl (by kernel_rfl) (fun _ _ _ _ h => h) rfl rfl rfl fun a80 h79 => ?_
    refine tkf hS1 h79 12 43 rfl rfl rfl rfl (by kernel_rfl) (fun _ _ _ _ h => h) rfl rfl rfl (fun w => faT_61_0_2 _ w) fun a82 h81 => ?_
    obtain ⟨w4, hw4⟩ : ∃ x, x = w3.setCell ⟨tg, 2, none⟩ (.slice ta2 (P.length + ([⟨at_, xs⟩] : List PtM).length) tc2) := ⟨_, rfl⟩
    refine wpk_only 13 rfl rfl (by kernel_rfl) fun KK hK => op_skip h81 rfl (w' := w4) (by show (execOp _ (⟨_, .store 44 (.tmp 44) (.tmp 42), _, _, _, _⟩ : Oper)).run _ _ = _; exact (by rw [hw4]; unfold execOp; simp only [h81.ev 44 rfl, h81.ev 42 rfl]; exact run_uP (storeTP (HB3.out.cell (i := 2) (by show 2 < 3; omega)) (HB3.out.frozen 2) _ _ _))) fun a84 h83 => hK _ _ trivial fun _ => ?_
    clear hK KK
    have HB4 : Hid (Blk w4 tg 69 (txC g lg ta2 (P ++ [(⟨at_, xs⟩ : PtM)]).length tc2)) := hid (by rw [hw4, List.length_append]; exact HB3.out.set 2 _)
    have t4 : Turns (fun k => k = tg) w3 w4 := by rw [hw4]; exact (Turns.refl (fun k => k = tg) w3).setCell (p := ⟨tg, 2, none⟩) rfl _
    have HO4 : Hid (OwnPt w4 B ta2 tc2 (P ++ [(⟨at_, xs⟩ : PtM)])) := hid (t4.own HO3.out (fun k e => by omega)); have HT4 : Hid (Turns (fun k => k = tg ∨ some k = obA ta) w w4) := hid (HT3.out.trans (t4.mono (fun k e => .inl e))); clear t4 hw4
    refine wpAnyH_done (by kernel_rfl) ?_ _
    have h85 := h83.subs (l' := [(6, _), (0, _), (1, _), (2, _)]) rfl
    clear h83
    iterate 4 go_step
    have h86 := h85.subs (l' := [(0, _), (1, _), (2, _)]) rfl
    clear h85
    refine wv h86 rfl rfl rfl rfl (.int .i64 0) rfl fun a88 h87 => ?_
    iterate 4 go_step
    exact bodyPost_ret (results_tmp1 rfl (h87.known (6, .int .i64 0) (by simp))) h87.defs ⟨rfl, ta2, tc2, HB4.out, HO4.out, HT4.out, HX3.out⟩
  · clear hK KK
    refine wpk_take hS1 hx 8 rfl rfl (by decide) (fr rfl) (by kernel_rfl) (by kernel_rfl) (by kernel_rfl) (fun _ _ _ _ h => h) (ptV ⟨at_, xs⟩) (Or.inl ⟨Eq.refl true, fun w1 hSw => (by show (execOp _ (⟨_, .build 47 #[(0, (.tmp 37)), (1, (.tmp 39))], _, _, _, _⟩ : Oper)).run _ _ = _; exact (by unfold execOp; simp only [List.map_toArray, List.map_cons, List.map_nil, hx.ev 37 rfl, hx.ev 39 rfl]; exact run_v (buildPt _ _ _)))⟩) fun a90 h89 => ?_
    obtain ⟨ws, hws⟩ : ∃ x, x = w.drew.alloc (.cells (ptC ⟨at_, xs⟩).toArray 47) := ⟨_, rfl⟩
    have bs : Below w.drew.heap.size w.drew ws := by rw [hws]; exact albO _ _
    have rs : RowPt ws (some ⟨w.drew.heap.size, 0, none⟩) 1 [⟨at_, xs⟩] := by rw [hws]; exact rowPt1 _ _
    refine wpk_two 4 9 rfl rfl rfl rfl (by kernel_rfl) (fun KK hK => op_val (w' := w.drew) h89 rfl (by decide) (fr rfl) (.slice ta P.length tc) (by show (execOp _ (⟨_, .load 44 (.tmp 35), _, _, _, _⟩ : Oper)).run _ _ = _; exact (by unfold execOp; simp only [h89.ev 35 rfl]; exact run_v (loadPtsP (HBd.out.cell (i := 2) (by show 2 < 3; omega))))) fun ax hx => hK _ _ trivial fun hS2 => ?_) (fun KK hK => op_val (w' := ws) h89 rfl (by decide) (fr rfl) (.slice (some ⟨w.drew.heap.size, 0, none⟩) ([⟨at_, xs⟩] : List PtM).length 1) (by show (execOp _ (⟨_, .buildSlice 44 1 #[(0, (.tmp 40))], _, _, _, _⟩ : Oper)).run _ _ = _; exact (by unfold execOp; simp only [List.map_toArray, List.map_cons, List.map_nil, h89.ev 40 rfl]; rw [hws]; exact run_v (buildPts _ _))) fun ax hx => hK _ _ trivial fun hS2 => ?_)
    · clear hK KK
      refine wpk_only 9 rfl rfl (by kernel_rfl) fun KK hK => op_val (w' := ws) hx rfl (by decide) (fr rfl) (.slice (some ⟨w.drew.heap.size, 0, none⟩) ([⟨at_, xs⟩] : List PtM).length 1) (by show (execOp _ (⟨_, .buildSlice 44 1 #[(0, (.tmp 40))], _, _, _, _⟩ : Oper)).run _ _ = _; exact (by unfold execOp; simp only [List.map_toArray, List.map_cons, List.map_nil, hx.ev 40 rfl]; rw [hws]; exact run_v (buildPts _ _))) fun a92 h91 => hK _ _ (trivial) fun hS3 => ?_
      clear hK KK
      have HBs := hid (HBd.out.mono bs); have HOs : Hid (OwnPt ws B ta tc P) := hid (Own.mono HOd.out bs); have HRs := hid rs; have HTs : Hid (Turns (fun k => k = tg ∨ some k = obA ta) w ws) := hid ((Turns.refl _ w).drew.trans (Turns.of_below bs)); have hsz : B ≤ ws.heap.size := Nat.le_trans hB bs.size; have hszw : w.heap.size ≤ ws.heap.size := bs.size; clear hws rs bs
      refine wpk_only 10 rfl rfl (by kernel_rfl) fun KK hK => op_append2 h91 rfl (by decide) (fr rfl) (.tmp 36) (.tmp 41) rfl EPt B (h91.ev 36 rfl) (h91.ev 41 rfl) HOs.out HRs.out (pts_one _) (by show (P.length + 1) * 24 ≤ _; omega) (by show P.length + 1 ≤ _; omega) hsz fun a94 ta2 tc2 w3 o3 g3 b3 x3 h93 => hK _ _ trivial fun hS4 => ?_
      clear hK KK
      have HO3 : Hid (OwnPt w3 B ta2 tc2 (P ++ [(⟨at_, xs⟩ : PtM)])) := hid (by unfold OwnPt; rw [List.length_append, List.flatMap_append]; exact o3)
      have HB3 : Hid (Blk w3 tg 69 (txC g lg ta P.length tc)) := hid ((b3.block tg htg).trans HBs.out)
      have HT3 : Hid (Turns (fun k => k = tg ∨ some k = obA ta) w w3) := hid (HTs.out.trans ⟨g3.os, g3.tape, g3.output, g3.size, fun k hk hx => g3.block k hk (by rw [obA_slice]; exact fun e => hx (.inr e))⟩)
      have HX3 := hid (where_le x3 hszw)
      clear o3 g3 b3 x3
      refine tkn hS1 h93 11 32 rfl rfl rfl rfl (by kernel_rfl) (fun _ _ _ _ h => h) rfl rfl rfl fun a96 h95 => ?_
      refine tkf hS1 h95 12 43 rfl rfl rfl rfl (by kernel_rfl) (fun _ _ _ _ h => h) rfl rfl rfl (fun w => faT_61_0_2 _ w) fun a98 h97 => ?_
      obtain ⟨w4, hw4⟩ : ∃ x, x = w3.setCell ⟨tg, 2, none⟩ (.slice ta2 (P.length + ([⟨at_, xs⟩] : List PtM).length) tc2) := ⟨_, rfl⟩
      refine wpk_only 13 rfl rfl (by kernel_rfl) fun KK hK => op_skip h97 rfl (w' := w4) (by show (execOp _ (⟨_, .store 44 (.tmp 44) (.tmp 42), _, _, _, _⟩ : Oper)).run _ _ = _; exact (by rw [hw4]; unfold execOp; simp only [h97.ev 44 rfl, h97.ev 42 rfl]; exact run_uP (storeTP (HB3.out.cell (i := 2) (by show 2 < 3; omega)) (HB3.out.frozen 2) _ _ _))) fun a100 h99 => hK _ _ trivial fun _ => ?_
      clear hK KK
      have HB4 : Hid (Blk w4 tg 69 (txC g lg ta2 (P ++ [(⟨at_, xs⟩ : PtM)]).length tc2)) := hid (by rw [hw4, List.length_append]; exact HB3.out.set 2 _)
      have t4 : Turns (fun k => k = tg) w3 w4 := by rw [hw4]; exact (Turns.refl (fun k => k = tg) w3).setCell (p := ⟨tg, 2, none⟩) rfl _
      have HO4 : Hid (OwnPt w4 B ta2 tc2 (P ++ [(⟨at_, xs⟩ : PtM)])) := hid (t4.own HO3.out (fun k e => by omega)); have HT4 : Hid (Turns (fun k => k = tg ∨ some k = obA ta) w w4) := hid (HT3.out.trans (t4.mono (fun k e => .inl e))); clear t4 hw4
      refine wpAnyH_done (by kernel_rfl) ?_ _
      have h101 := h99.subs (l' := [(6, _), (0, _), (1, _), (2, _)]) rfl
      clear h99
      iterate 4 go_step
      have h102 := h101.subs (l' := [(0, _), (1, _), (2, _)]) rfl
      clear h101
      refine wv h102 rfl rfl rfl rfl (.int .i64 0) rfl fun a104 h103 => ?_
      iterate 4 go_step
      exact bodyPost_ret (results_tmp1 rfl (h103.known (6, .int .i64 0) (by simp))) h103.defs ⟨rfl, ta2, tc2, HB4.out, HO4.out, HT4.out, HX3.out⟩
    · clear hK KK
      have HBs := hid (HBd.out.mono bs); have HOs : Hid (OwnPt ws B ta tc P) := hid (Own.mono HOd.out bs); have HRs := hid rs; have HTs : Hid (Turns (fun k => k = tg ∨ some k = obA ta) w ws) := hid ((Turns.refl _ w).drew.trans (Turns.of_below bs)); have hsz : B ≤ ws.heap.size := Nat.le_trans hB bs.size; have hszw : w.heap.size ≤ ws.heap.size := bs.size; clear hws rs bs
      refine wpk_only 4 rfl rfl (by kernel_rfl) fun KK hK => op_val (w' := ws) hx rfl (by decide) (fr rfl) (.slice ta P.length tc) (by show (execOp _ (⟨_, .load 44 (.tmp 35), _, _, _, _⟩ : Oper)).run _ _ = _; exact (by unfold execOp; simp only [hx.ev 35 rfl]; exact run_v (loadPtsP (HBs.out.cell (i := 2) (by show 2 < 3; omega))))) fun a106 h105 => hK _ _ (trivial) fun hS3 => ?_
      clear hK KK
      refine wpk_only 10 rfl rfl (by kernel_rfl) fun KK hK => op_append2 h105 rfl (by decide) (fr rfl) (.tmp 36) (.tmp 41) rfl EPt B (h105.ev 36 rfl) (h105.ev 41 rfl) HOs.out HRs.out (pts_one _) (by show (P.length + 1) * 24 ≤ _; omega) (by show P.length + 1 ≤ _; omega) hsz fun a108 ta2 tc2 w3 o3 g3 b3 x3 h107 => hK _ _ trivial fun hS4 => ?_
      clear hK KK
      have HO3 : Hid (OwnPt w3 B ta2 tc2 (P ++ [(⟨at_, xs⟩ : PtM)])) := hid (by unfold OwnPt; rw [List.length_append, List.flatMap_append]; exact o3)
      have HB3 : Hid (Blk w3 tg 69 (txC g lg ta P.length tc)) := hid ((b3.block tg htg).trans HBs.out)
      have HT3 : Hid (Turns (fun k => k = tg ∨ some k = obA ta) w w3) := hid (HTs.out.trans ⟨g3.os, g3.tape, g3.output, g3.size, fun k hk hx => g3.block k hk (by rw [obA_slice]; exact fun e => hx (.inr e))⟩)
      have HX3 := hid (where_le x3 hszw)
      clear o3 g3 b3 x3
      refine tkn hS1 h107 11 32 rfl rfl rfl rfl (by kernel_rfl) (fun _ _ _ _ h => h) rfl rfl rfl fun a110 h109 => ?_
      refine tkf hS1 h109 12 43 rfl rfl rfl rfl (by kernel_rfl) (fun _ _ _ _ h => h) rfl rfl rfl (fun w => faT_61_0_2 _ w) fun a112 h111 => ?_
      obtain ⟨w4, hw4⟩ : ∃ x, x = w3.setCell ⟨tg, 2, none⟩ (.slice ta2 (P.length + ([⟨at_, xs⟩] : List PtM).length) tc2) := ⟨_, rfl⟩
      refine wpk_only 13 rfl rfl (by kernel_rfl) fun KK hK => op_skip h111 rfl (w' := w4) (by show (execOp _ (⟨_, .store 44 (.tmp 44) (.tmp 42), _, _, _, _⟩ : Oper)).run _ _ = _; exact (by rw [hw4]; unfold execOp; simp only [h111.ev 44 rfl, h111.ev 42 rfl]; exact run_uP (storeTP (HB3.out.cell (i := 2) (by show 2 < 3; omega)) (HB3.out.frozen 2) _ _ _))) fun a114 h113 => hK _ _ trivial fun _ => ?_
      clear hK KK
      have HB4 : Hid (Blk w4 tg 69 (txC g lg ta2 (P ++ [(⟨at_, xs⟩ : PtM)]).length tc2)) := hid (by rw [hw4, List.length_append]; exact HB3.out.set 2 _)
      have t4 : Turns (fun k => k = tg) w3 w4 := by rw [hw4]; exact (Turns.refl (fun k => k = tg) w3).setCell (p := ⟨tg, 2, none⟩) rfl _
      have HO4 : Hid (OwnPt w4 B ta2 tc2 (P ++ [(⟨at_, xs⟩ : PtM)])) := hid (t4.own HO3.out (fun k e => by omega)); have HT4 : Hid (Turns (fun k => k = tg ∨ some k = obA ta) w w4) := hid (HT3.out.trans (t4.mono (fun k e => .inl e))); clear t4 hw4
      refine wpAnyH_done (by kernel_rfl) ?_ _
      have h115 := h113.subs (l' := [(6, _), (0, _), (1, _), (2, _)]) rfl
      clear h113
      iterate 4 go_step
      have h116 := h115.subs (l' := [(0, _), (1, _), (2, _)]) rfl
      clear h115
      refine wv h116 rfl rfl rfl rfl (.int .i64 0) rfl fun a118 h117 => ?_
      iterate 4 go_step
      exact bodyPost_ret (results_tmp1 rfl (h117.known (6, .int .i64 0) (by simp))) h117.defs ⟨rfl, ta2, tc2, HB4.out, HO4.out, HT4.out, HX3.out⟩
set_option maxHeartbeats 8000000 in
theorem storeT_any2 {w : World} {tg g lg v d p tc B : Nat} {ta : Option Addr} {M : MemM} {P : List PtM} (hm : MemP w g v d p M) (hb : Blk w tg 69 (txC g lg ta P.length tc)) (ho : OwnPt w B ta tc P) (hB : B ≤ w.heap.size) (htg : tg < B) (hM : M.V.length ≤ 1048576) {a : Option Addr} {c : Nat} {xs : List UInt8} (h0 : RowB w a c xs) {at_ : Int} (ha : i64B at_) (hP : P.length ≤ 64) (hx : xs.length ≤ 4611686018427387904) :
    Calls Tryz.prog 20 #[.pointer (some ⟨tg, 0, none⟩), .int .i64 at_, .slice a xs.length c] w (StoreT2 w tg g lg B ta M P at_ xs) := by
  by_cases ok : okT M P at_ xs.length = true
  · have k := ok
    unfold okT at k
    rw [decide_eq_true_iff] at k
    refine (storeT_ok hm hb ho hB htg hM h0 k.1 k.2.1 k.2.2.1 k.2.2.2).mono fun e w' q => ?_
    unfold StoreT2 errT putT
    rw [if_pos ok, if_pos ok]
    exact q
  have ok2 : okT M P at_ xs.length = false := by simpa using ok
  have HE := hid (storeTP_no ok2 hb ho)
  have c0 : w.cell? ⟨tg, 0, none⟩ = some (.pointer (some ⟨g, 0, none⟩)) := hb.cell (i := 0) (by show 0 < 3; omega)
  have c2 : w.cell? ⟨tg, 2, none⟩ = some (.slice ta P.length tc) := hb.cell (i := 2) (by show 2 < 3; omega)
  unfold okT at ok2
  rw [decide_eq_false_iff_not] at ok2
  have HS := hid (size_any hm)
  unfold i64B at ha
  obtain ⟨m, hm'⟩ : ∃ m : Nat, m = M.V.length := ⟨_, rfl⟩
  obtain ⟨n, hn⟩ : ∃ n : Nat, n = xs.length := ⟨_, rfl⟩
  obtain ⟨k, hk⟩ : ∃ n : Nat, n = P.length := ⟨_, rfl⟩
  rw [← hm'] at HS hM ok2; rw [← hn] at ok2 hx ⊢; rw [← hk] at ok2 c2 hP
  clear hm hb ho h0 hm' hn hk ok
  by_cases c1 : (256 : Int) < (n : Int)
  · have d1 : decide ((256 : Int) < (n : Int)) = true := decide_eq_true c1
    clear ok2 hx hP hM ha
    go_enter Tryz.func20, Tryz.ntmps20
    go_wp2
    go_ret
    exact HE.out
  have d1 : decide ((256 : Int) < (n : Int)) = false := decide_eq_false c1
  by_cases c3 : (64 : Int) ≤ (k : Int)
  · have d3 : decide ((64 : Int) ≤ (k : Int)) = true := decide_eq_true c3
    clear ok2 hx hP hM ha
    go_enter Tryz.func20, Tryz.ntmps20
    go_wp2
    go_ret
    exact HE.out
  have d3 : decide ((64 : Int) ≤ (k : Int)) = false := decide_eq_false c3
  by_cases c4 : at_ < 0
  · have d4 : decide (at_ < (0 : Int)) = true := decide_eq_true c4
    clear ok2 hx hP hM ha
    go_enter Tryz.func20, Tryz.ntmps20
    go_wp2
    go_ret
    exact HE.out
  have d4 : decide (at_ < (0 : Int)) = false := decide_eq_false c4
  have c5 : (m : Int) - (n : Int) < at_ := by omega
  have d5 : decide ((m : Int) - (n : Int) < at_) = true := decide_eq_true c5
  have e5 : IntKind.i64.wrap ((m : Int) - (n : Int)) = (m : Int) - (n : Int) := IntWalk.i64_in _ (by omega)
  clear ok2 hx hP ha
  go_enter Tryz.func20, Tryz.ntmps20
  go_wp2_with (go_at_call 35; refine HS.out.mono ?_; rintro e w1 ⟨rfl, rfl⟩)
  go_ret
  exact HE.out
theorem storeT_any {w : World} {tg g lg v d p tc B : Nat} {ta : Option Addr} {M : MemM} {P : List PtM} (hm : MemP w g v d p M) (hb : Blk w tg 69 (txC g lg ta P.length tc)) (ho : OwnPt w B ta tc P) (hB : B ≤ w.heap.size) (htg : tg < B) (hM : M.V.length ≤ 1048576) {a : Option Addr} {c : Nat} {xs : List UInt8} (h0 : RowB w a c xs) {at_ : Int} (ha : i64B at_) (hP : P.length ≤ 64) (hx : xs.length ≤ 4611686018427387904) :
    Calls Tryz.prog 20 #[.pointer (some ⟨tg, 0, none⟩), .int .i64 at_, .slice a xs.length c] w (StoreTP w tg g lg B M P at_ xs) :=
  (storeT_any2 hm hb ho hB htg hM h0 ha hP hx).mono fun e w' q => by
    obtain ⟨q1, ta2, tc2, q2, q3, q4, _⟩ := q
    refine ⟨q1, ta2, tc2, q2, q3, q4.mono (fun k hk => hk.imp id fun e => ?_)⟩
    have z := own_ob ho
    exact z k e.symm
end Go.Proofs.YtcackliabemecaaGreatDoor
