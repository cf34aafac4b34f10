/- Merged: WirRs WirRw WirRx. -/
import Derived.Test.YtanediaaidfcaaaWirMi
import Derived.Test.YtanediaaidfcaaaWirPe
import Derived.Test.YtanediaaidfcaaaLibD
import Derived.Test.YtanediaaidfcaaaWirRd
/- The document's reader in memory: a packet and a reader. -/
namespace Go.Proofs.Ytanediaaidfcaaa
open Go.RowKit
set_option linter.unusedSimpArgs false
set_option linter.unusedVariables false

theorem own_turnsW {w w' : World} {B g : Nat} {e t : TypeId} {sz : Nat} {a : Option Addr} {n c : Nat} {cs L : List Value} (h : Own w B e sz a n c cs) (hb : Blk w g t L) (hne : e ≠ t) (t1 : Turns (fun k => k = g) w w') : Own w' B e sz a n c cs := by
  refine ⟨h.1, ?_⟩
  rcases h.2 with hn | ⟨b, cap, cur, hv, hB, hh, rest⟩
  · exact .inl hn
  · refine .inr ⟨b, cap, cur, hv, hB, (t1.block b (Array.getElem?_eq_some_iff.1 hh).1 (fun q => ?_)).trans hh, rest⟩
    subst q
    unfold Blk at hb
    rw [hb] at hh
    simp at hh
    exact hne hh.2.symm
def numS (xs : List UInt8) (k : Nat) (s : RS) : RS := ⟨s.Q, (rnum xs s.at_ s.no k).2.1, (rnum xs s.at_ s.no k).2.2⟩
def txtS (xs : List UInt8) (k : Nat) (s : RS) : RS := ⟨s.Q, (rtext xs s.at_ s.no k).2.1, (rtext xs s.at_ s.no k).2.2⟩
/-- a packet in a block pk, its names, a reader in a block g -/
structure RdS (W0 w : World) (g pk : Nat) (a : Option Addr) (c : Nat) (xs : List UInt8) (na : Option Addr) (nc : Nat) (s : RS) : Prop where
  r : RIn w g a c xs s.at_ s.no
  p : Blk w pk 35 (pkC s.Q na s.Q.N.length nc)
  n : Own w W0.heap.size 9 1 na s.Q.N.length nc (s.Q.N.map strV)
  b : Below W0.heap.size W0 w
  at_ : s.at_ ≤ xs.length
theorem RdS.ne {W0 w : World} {g pk : Nat} {a : Option Addr} {c : Nat} {xs : List UInt8} {na : Option Addr} {nc : Nat} {s : RS} (h : RdS W0 w g pk a c xs na nc s) : g ≠ pk := blk_ne h.r h.p (by decide)
theorem RdS.drewN {W0 w : World} {g pk : Nat} {a : Option Addr} {c : Nat} {xs : List UInt8} {na : Option Addr} {nc : Nat} {s : RS} (h : RdS W0 w g pk a c xs na nc s) : RdS W0 w.drew g pk a c xs na nc s :=
  ⟨h.r.drew, h.p.drew, h.n.drew, h.b.drew, h.at_⟩
/-- the reader's own calls -/
theorem RdS.turns {W0 w w' : World} {g pk : Nat} {a : Option Addr} {c : Nat} {xs : List UInt8} {na : Option Addr} {nc : Nat} {s : RS} (h : RdS W0 w g pk a c xs na nc s) (hg : W0.heap.size ≤ g) {at2 : Nat} {no2 : Bool} (r : RIn w' g a c xs at2 no2) (h2 : at2 ≤ xs.length) (t : Turns (fun x => x = g) w w') : RdS W0 w' g pk a c xs na nc ⟨s.Q, at2, no2⟩ :=
  ⟨r, t.blk h.p (fun q => h.ne q.symm), own_turnsW h.n h.r (by decide) t, h.b.trans (t.below h.b.size (fun k hk => by cases hk; exact hg)), h2⟩
theorem RdS.num {W0 w : World} {g pk : Nat} {a : Option Addr} {c : Nat} {xs : List UInt8} {na : Option Addr} {nc : Nat} {s : RS} (h : RdS W0 w g pk a c xs na nc s) (r0 : RowB W0 a c xs) (hg : W0.heap.size ≤ g) (hl : xs.length ≤ 1000000) (k : Nat) (hk : k ≤ 8) :
    Calls Try.prog 25 #[.pointer (some ⟨g, 0, none⟩), .int .i64 k] w fun e w' => ∃ v, e = .returned v ∧ ∃ n : Nat, v = .int .i64 (n : Int) ∧ n = (rnum xs s.at_ s.no k).1 ∧ RdS W0 w' g pk a c xs na nc (numS xs k s) :=
  (rnum_any h.r r0 h.b hg h.at_ hl k hk).mono fun e w' q => ⟨_, q.1, _, rfl, rfl, h.turns hg q.2.1 q.2.2.1 q.2.2.2⟩
theorem RdS.text {W0 w : World} {g pk : Nat} {a : Option Addr} {c : Nat} {xs : List UInt8} {na : Option Addr} {nc : Nat} {s : RS} (h : RdS W0 w g pk a c xs na nc s) (r0 : RowB W0 a c xs) (hg : W0.heap.size ≤ g) (hl : xs.length ≤ 1000000) (k : Nat) (hk : k ≤ 8) :
    Calls Try.prog 26 #[.pointer (some ⟨g, 0, none⟩), .int .i64 k] w fun e w' => ∃ v, e = .returned v ∧ ∃ t : List UInt8, v = .string (bsW t) ∧ t = (rtext xs s.at_ s.no k).1 ∧ RdS W0 w' g pk a c xs na nc (txtS xs k s) :=
  (rtext_any h.r r0 h.b hg h.at_ hl k hk).mono fun e w' q => ⟨_, q.1, _, rfl, rfl, h.turns hg q.2.1 q.2.2.1 q.2.2.2⟩
theorem RdS.set {W0 w : World} {g pk : Nat} {a : Option Addr} {c : Nat} {xs : List UInt8} {na : Option Addr} {nc : Nat} {s s' : RS} (h : RdS W0 w g pk a c xs na nc s) (hpk : W0.heap.size ≤ pk) (o : Nat) (v : Value) (hc : (pkC s.Q na s.Q.N.length nc).set o v = pkC s'.Q na s'.Q.N.length nc) (hN : s'.Q.N = s.Q.N) (ha : s'.at_ = s.at_) (hn : s'.no = s.no) :
    RdS W0 (w.setCell ⟨pk, o, none⟩ v) g pk a c xs na nc s' := by
  have t : Turns (fun x => x = pk) w (w.setCell ⟨pk, o, none⟩ v) := turns_setG pk o v
  refine ⟨by rw [ha, hn]; exact t.blk h.r h.ne, ?_, by rw [hN]; exact own_setW h.n h.p (by decide) o v, below_setW h.b hpk o v, by rw [ha]; exact h.at_⟩
  have := Blk.set h.p o v
  rw [hc] at this
  exact this
theorem RdS.setI {W0 w : World} {g pk : Nat} {a : Option Addr} {c : Nat} {xs : List UInt8} {na : Option Addr} {nc : Nat} {s : RS} {k : Nat} (h : RdS W0 w g pk a c xs na nc (numS xs k s)) (hpk : W0.heap.size ≤ pk) (o : Nat) (lo hi : Int) {n : Nat} (hn : n = (rnum xs s.at_ s.no k).1) (ho : isNum o = true) :
    RdS W0 (w.setCell ⟨pk, o, none⟩ (.int .i64 (n : Int))) g pk a c xs na nc (stepR xs s (.num k o lo hi)) := by
  subst hn
  exact h.set hpk o _ (pkC_setI _ _ _ _ ho _) rfl rfl rfl
theorem RdS.setS {W0 w : World} {g pk : Nat} {a : Option Addr} {c : Nat} {xs : List UInt8} {na : Option Addr} {nc : Nat} {s : RS} {k : Nat} (h : RdS W0 w g pk a c xs na nc (txtS xs k s)) (hpk : W0.heap.size ≤ pk) (o most : Nat) {t : List UInt8} (hn : t = (rtext xs s.at_ s.no k).1) (ho : isTxt o = true := by rfl) :
    RdS W0 (w.setCell ⟨pk, o, none⟩ (.string (bsW t))) g pk a c xs na nc (stepR xs s (.text k most o)) := by
  subst hn
  exact h.set hpk o _ (pkC_setS _ _ _ _ ho _) rfl rfl rfl
theorem RdS.alloc {W0 w : World} {g pk : Nat} {a : Option Addr} {c : Nat} {xs : List UInt8} {na : Option Addr} {nc : Nat} {s : RS} (h : RdS W0 w g pk a c xs na nc s) (o : Obj) : RdS W0 (w.alloc o) g pk a c xs na nc s :=
  ⟨h.r.mono (albO w o), h.p.mono (albO w o), Own.mono h.n (albO w o), kept_alloc h.b o, h.at_⟩
theorem RdS.grown1 {W0 w w' : World} {g pk : Nat} {a : Option Addr} {c : Nat} {xs : List UInt8} {na : Option Addr} {nc : Nat} {s : RS} (h : RdS W0 w g pk a c xs na nc s) (G : w.grownBy w' (Value.slice na s.Q.N.length nc).ownBlock) :
    RIn w' g a c xs s.at_ s.no ∧ Blk w' pk 35 (pkC s.Q na s.Q.N.length nc) :=
  ⟨blk_keepsW h.n h.r G (by decide), blk_keepsW h.n h.p G (by decide)⟩
theorem RdS.grow {W0 w5 : World} {g pk : Nat} {a : Option Addr} {c : Nat} {xs : List UInt8} {na na2 : Option Addr} {nc nc2 nn : Nat} {t : RS} {x : List UInt8} (r5 : RIn w5 g a c xs (txtS xs 1 t).at_ (txtS xs 1 t).no) (p5 : Blk w5 pk 35 (pkC t.Q na t.Q.N.length nc))
    (o5 : Own w5 W0.heap.size 9 1 na2 (nn + 1) nc2 (t.Q.N.map strV ++ [.string (bsW x)])) (b5 : Below W0.heap.size W0 w5) (hat : (txtS xs 1 t).at_ ≤ xs.length) (hpk : W0.heap.size ≤ pk) (hnn : nn = t.Q.N.length) (hx : x = (rtext xs t.at_ t.no 1).1) :
    RdS W0 (w5.setCell ⟨pk, 23, none⟩ (.slice na2 (nn + 1) nc2)) g pk a c xs na2 nc2 (textR xs t) := by
  subst hnn hx
  have hl : (textR xs t).Q.N.length = t.Q.N.length + 1 := by show (t.Q.N ++ [_]).length = _; rw [List.length_append]; rfl
  have hne : g ≠ pk := blk_ne r5 p5 (by decide)
  refine ⟨(turns_setG pk 23 _).blk r5 hne, ?_, ?_, below_setW b5 hpk 23 _, hat⟩
  · rw [hl]; exact Blk.set p5 23 (.slice na2 (t.Q.N.length + 1) nc2)
  · rw [hl, show (textR xs t).Q.N.map strV = t.Q.N.map strV ++ [.string (bsW (rtext xs t.at_ t.no 1).1)] by show (t.Q.N ++ [_]).map strV = _; rw [List.map_append]; rfl]
    exact own_setW o5 p5 (by decide) 23 _
theorem namesR_stop {xs : List UInt8} {t : RS} (h : t.no = true) (k : Nat) : namesR xs k t = t := by
  cases k with
  | zero => rfl
  | succ k => show (if t.no = true then t else _) = t; rw [if_pos h]
theorem rnum_bd1 (xs : List UInt8) (at_ : Nat) (no : Bool) : (rnum xs at_ no 1).1 ≤ 255 := by
  unfold rnum
  cases hv : getF xs at_ 1 with
  | none => simp
  | some v =>
    have h1 := ofLE_lt ((xs.drop at_).take 1)
    have h2 : ((xs.drop at_).take 1).length ≤ 1 := by rw [List.length_take]; omega
    unfold getF at hv
    split at hv
    · split at hv
      · cases hv
        show ofLE _ ≤ 255
        have e1 : ((at_ : Int)).toNat = at_ := Int.toNat_natCast _
        rw [e1]
        have e2 : ((1 : Nat) : Int).toNat = 1 := rfl
        have h3 : 256 ^ ((xs.drop at_).take 1).length ≤ 256 ^ 1 := Nat.pow_le_pow_right (by decide) h2
        show ofLE ((xs.drop at_).take 1) ≤ 255
        omega
      · cases hv
    · cases hv
theorem call_25 (args : Array Value) (w : World) : (callFunc 25 args).run Try.prog w = .ok (.enter 25 args) w := by
  have h := Try.func25
  go_simp
theorem call_26 (args : Array Value) (w : World) : (callFunc 26 args).run Try.prog w = .ok (.enter 26 args) w := by
  have h := Try.func26
  go_simp
theorem call_in (args : Array Value) (w : World) : (callFunc 23 args).run Try.prog w = .ok (.enter 23 args) w := by
  have h := Try.func23
  go_simp
theorem call_told (args : Array Value) (w : World) : (callFunc 27 args).run Try.prog w = .ok (.enter 27 args) w := by
  have h := Try.func27
  go_simp
theorem call_seal (args : Array Value) (w : World) : (callFunc 17 args).run Try.prog w = .ok (.enter 17 args) w := by
  have h := Try.func17
  go_simp
theorem call_same1 (args : Array Value) (w : World) : (callFunc 12 args).run Try.prog w = .ok (.enter 12 args) w := by
  have h := Try.func12
  go_simp
end Go.Proofs.Ytanediaaidfcaaa
/- The document's told. (genWirTold.py) -/
namespace Go.Proofs.Ytanediaaidfcaaa
open Go.RowKit
set_option linter.unusedSimpArgs false
set_option linter.unusedVariables false
theorem bodyPost_norm {P : Program} {fn : Func} {R : Ending → World → Prop} {a : Act} {w : World} {v : Value} (hv : (results fn a.tmps).run P w = .ok v w) (hd : a.defers = []) (h : R (.returned v) w) : bodyPost P fn R .normal a w := ⟨hd, v, hv, h⟩
set_option maxRecDepth 100000 in
theorem fa_64_0_0 (g : Nat) (w : World) : (Instr.fieldAt 64 (.pointer (some ⟨g, 0, none⟩)) 0).run Try.prog w = .ok (.pointer (some ⟨g, 0, none⟩)) w := rfl
set_option maxRecDepth 100000 in
theorem fa_64_0_1 (g : Nat) (w : World) : (Instr.fieldAt 64 (.pointer (some ⟨g, 0, none⟩)) 1).run Try.prog w = .ok (.pointer (some ⟨g, 1, none⟩)) w := rfl
set_option maxRecDepth 100000 in
theorem fa_64_0_2 (g : Nat) (w : World) : (Instr.fieldAt 64 (.pointer (some ⟨g, 0, none⟩)) 2).run Try.prog w = .ok (.pointer (some ⟨g, 2, none⟩)) w := rfl

set_option maxRecDepth 100000 in
set_option maxHeartbeats 4000000 in
theorem told_any {W0 w : World} {g pk : Nat} {a : Option Addr} {c : Nat} {xs : List UInt8} {na : Option Addr} {nc : Nat} {s0 : RS} (HS0 : Hid (RdS W0 w g pk a c xs na nc s0)) (HR0 : Hid (RowB W0 a c xs)) (hg : W0.heap.size ≤ g) (hpk : W0.heap.size ≤ pk) (hl : xs.length ≤ 1000000) (hN0 : s0.Q.N.length ≤ 1000) :
    Calls Try.prog 27 #[.pointer (some ⟨g, 0, none⟩), .pointer (some ⟨pk, 0, none⟩)] w fun e w' => ∃ v, e = .returned v ∧ ∃ na' nc', v = .tuple #[] ∧ RdS W0 w' g pk a c xs na' nc' ((fRest 4).foldl (stepR xs) s0) := by
  go_enter Try.func27, Try.ntmps27
  go_step
  go_step
  go_step
  refine wpk_enter (N := 110) (l := [(0, .pointer (some ⟨g, 0, none⟩)), (1, .pointer (some ⟨pk, 0, none⟩))]) ⟨rfl, (by intro x hx; simp only [List.mem_cons, List.not_mem_nil, or_false] at hx; rcases hx with rfl | rfl <;> rfl), rfl⟩ fun a2 h1 => ?_
  refine wpk_val h1 (wanted_none rfl) rfl (by decide) (fr rfl) (.pointer (some ⟨pk, 0, none⟩)) (by unfold execOp; simp only [h1.eval (k := 1) (v := .pointer (some ⟨pk, 0, none⟩)) (by simp)]; rfl) fun a4 h3 => ?_
  refine wpk_val h3 (wanted_none rfl) rfl (by decide) (fr rfl) (.pointer (some ⟨g, 0, none⟩)) (by unfold execOp; simp only [h3.eval (k := 0) (v := .pointer (some ⟨g, 0, none⟩)) (by simp)]; rfl) fun a6 h5 => ?_
  refine wpk_call h5 (wanted_none rfl) rfl (by decide) (fr rfl) (fun args => call_25 args _) rfl #[.pointer (some ⟨g, 0, none⟩), .int .i64 1] (by simp only [List.map_toArray, List.map_cons, List.map_nil, h5.eval (k := 8) (v := .pointer (some ⟨g, 0, none⟩)) (by simp)]; rfl) (R := fun v w' => ∃ n : Nat, v = .int .i64 (n : Int) ∧ n = (rnum xs s0.at_ s0.no 1).1 ∧ RdS W0 w' g pk a c xs na nc (numS xs 1 s0)) (HS0.out.num HR0.out hg hl 1 (by decide)) fun a8 v1 wc1 hr1 h7 => ?_
  obtain ⟨n1, rfl, e1, q1⟩ := hr1
  have HC1 := hid q1; have EN1 := hid e1
  clear q1 e1
  refine wpk_val h7 (wanted_none rfl) rfl (by decide) (fr rfl) (.pointer (some ⟨pk, 0, none⟩)) (by unfold execOp; simp only [h7.eval (k := 7) (v := .pointer (some ⟨pk, 0, none⟩)) (by simp)]; exact rfl) fun a10 h9 => ?_
  refine wpk_val h9 (wanted_none rfl) rfl (by decide) (fr rfl) (.pointer (some ⟨pk, 4, none⟩)) (by unfold execOp; simp only [h9.eval (k := 10) (v := .pointer (some ⟨pk, 0, none⟩)) (by simp)]; exact run_v (fa_35_0_4 (pk) _)) fun a12 h11 => ?_
  obtain ⟨wd1, hw1⟩ : ∃ w', w' = wc1.setCell ⟨pk, 4, none⟩ (.int .i64 (n1 : Int)) := ⟨_, rfl⟩
  obtain ⟨s1, hs1⟩ : ∃ sx, sx = stepR xs s0 (.num 1 4 0 9223372036854775807) := ⟨_, rfl⟩
  have HD1 : Hid (RdS W0 wd1 g pk a c xs na nc s1) := hid (by rw [hw1, hs1]; exact HC1.out.setI hpk (4) 0 9223372036854775807 EN1.out (by rfl))
  have HS1 := hid hs1
  clear hs1
  refine wpk_skipv h11 (wanted_none rfl) rfl (w' := wd1) (by rw [hw1]; unfold execOp; simp only [h11.eval (k := 11) (v := .pointer (some ⟨pk, 4, none⟩)) (by simp), h11.eval (k := 9) (v := .int .i64 (n1 : Int)) (by simp)]; exact run_u (storeI (HC1.out.p.cell (i := 4) (by show 4 < 43; omega)) (HC1.out.p.frozen 4) _)) fun a14 h13 => ?_
  clear hw1 HC1 EN1 
  have h15 := h13.subs (l' := [(0, .pointer (some ⟨g, 0, none⟩)), (1, .pointer (some ⟨pk, 0, none⟩))]) rfl
  clear h13
  go_step
  go_step
  go_step
  go_step
  go_step
  refine wpk_val h15 (wanted_none rfl) rfl (by decide) (fr rfl) (.pointer (some ⟨pk, 0, none⟩)) (by unfold execOp; simp only [h15.eval (k := 1) (v := .pointer (some ⟨pk, 0, none⟩)) (by simp)]; rfl) fun a17 h16 => ?_
  refine wpk_val h16 (wanted_none rfl) rfl (by decide) (fr rfl) (.pointer (some ⟨g, 0, none⟩)) (by unfold execOp; simp only [h16.eval (k := 0) (v := .pointer (some ⟨g, 0, none⟩)) (by simp)]; rfl) fun a19 h18 => ?_
  refine wpk_call h18 (wanted_none rfl) rfl (by decide) (fr rfl) (fun args => call_25 args _) rfl #[.pointer (some ⟨g, 0, none⟩), .int .i64 1] (by simp only [List.map_toArray, List.map_cons, List.map_nil, h18.eval (k := 13) (v := .pointer (some ⟨g, 0, none⟩)) (by simp)]; rfl) (R := fun v w' => ∃ n : Nat, v = .int .i64 (n : Int) ∧ n = (rnum xs s1.at_ s1.no 1).1 ∧ RdS W0 w' g pk a c xs na nc (numS xs 1 s1)) (HD1.out.num HR0.out hg hl 1 (by decide)) fun a21 v2 wc2 hr2 h20 => ?_
  obtain ⟨n2, rfl, e2, q2⟩ := hr2
  have HC2 := hid q2; have EN2 := hid e2
  clear q2 e2
  refine wpk_val h20 (wanted_none rfl) rfl (by decide) (fr rfl) (.pointer (some ⟨pk, 0, none⟩)) (by unfold execOp; simp only [h20.eval (k := 12) (v := .pointer (some ⟨pk, 0, none⟩)) (by simp)]; exact rfl) fun a23 h22 => ?_
  refine wpk_val h22 (wanted_none rfl) rfl (by decide) (fr rfl) (.pointer (some ⟨pk, 19, none⟩)) (by unfold execOp; simp only [h22.eval (k := 15) (v := .pointer (some ⟨pk, 0, none⟩)) (by simp)]; exact run_v (fa_35_0_12 (pk) _)) fun a25 h24 => ?_
  obtain ⟨wd2, hw2⟩ : ∃ w', w' = wc2.setCell ⟨pk, 19, none⟩ (.int .i64 (n2 : Int)) := ⟨_, rfl⟩
  obtain ⟨s2, hs2⟩ : ∃ sx, sx = stepR xs s1 (.num 1 19 0 9223372036854775807) := ⟨_, rfl⟩
  have HD2 : Hid (RdS W0 wd2 g pk a c xs na nc s2) := hid (by rw [hw2, hs2]; exact HC2.out.setI hpk (19) 0 9223372036854775807 EN2.out (by rfl))
  have HS2 := hid hs2
  clear hs2
  refine wpk_skipv h24 (wanted_none rfl) rfl (w' := wd2) (by rw [hw2]; unfold execOp; simp only [h24.eval (k := 16) (v := .pointer (some ⟨pk, 19, none⟩)) (by simp), h24.eval (k := 14) (v := .int .i64 (n2 : Int)) (by simp)]; exact run_u (storeE (HC2.out.p.cell (i := 19) (by show 19 < 43; omega)) (HC2.out.p.frozen 19) _)) fun a27 h26 => ?_
  clear hw2 HC2 EN2 HD1
  have h28 := h26.subs (l' := [(0, .pointer (some ⟨g, 0, none⟩)), (1, .pointer (some ⟨pk, 0, none⟩))]) rfl
  clear h26
  go_step
  go_step
  go_step
  go_step
  go_step
  refine wpk_val h28 (wanted_none rfl) rfl (by decide) (fr rfl) (.pointer (some ⟨pk, 0, none⟩)) (by unfold execOp; simp only [h28.eval (k := 1) (v := .pointer (some ⟨pk, 0, none⟩)) (by simp)]; rfl) fun a30 h29 => ?_
  refine wpk_val h29 (wanted_none rfl) rfl (by decide) (fr rfl) (.pointer (some ⟨g, 0, none⟩)) (by unfold execOp; simp only [h29.eval (k := 0) (v := .pointer (some ⟨g, 0, none⟩)) (by simp)]; rfl) fun a32 h31 => ?_
  refine wpk_call h31 (wanted_none rfl) rfl (by decide) (fr rfl) (fun args => call_25 args _) rfl #[.pointer (some ⟨g, 0, none⟩), .int .i64 1] (by simp only [List.map_toArray, List.map_cons, List.map_nil, h31.eval (k := 18) (v := .pointer (some ⟨g, 0, none⟩)) (by simp)]; rfl) (R := fun v w' => ∃ n : Nat, v = .int .i64 (n : Int) ∧ n = (rnum xs s2.at_ s2.no 1).1 ∧ RdS W0 w' g pk a c xs na nc (numS xs 1 s2)) (HD2.out.num HR0.out hg hl 1 (by decide)) fun a34 v3 wc3 hr3 h33 => ?_
  obtain ⟨n3, rfl, e3, q3⟩ := hr3
  have HC3 := hid q3; have EN3 := hid e3
  clear q3 e3
  refine wpk_val h33 (wanted_none rfl) rfl (by decide) (fr rfl) (.pointer (some ⟨pk, 0, none⟩)) (by unfold execOp; simp only [h33.eval (k := 17) (v := .pointer (some ⟨pk, 0, none⟩)) (by simp)]; exact rfl) fun a36 h35 => ?_
  refine wpk_val h35 (wanted_none rfl) rfl (by decide) (fr rfl) (.pointer (some ⟨pk, 18, none⟩)) (by unfold execOp; simp only [h35.eval (k := 20) (v := .pointer (some ⟨pk, 0, none⟩)) (by simp)]; exact run_v (fa_35_0_11 (pk) _)) fun a38 h37 => ?_
  obtain ⟨wd3, hw3⟩ : ∃ w', w' = wc3.setCell ⟨pk, 18, none⟩ (.int .i64 (n3 : Int)) := ⟨_, rfl⟩
  obtain ⟨s3, hs3⟩ : ∃ sx, sx = stepR xs s2 (.num 1 18 0 9223372036854775807) := ⟨_, rfl⟩
  have HD3 : Hid (RdS W0 wd3 g pk a c xs na nc s3) := hid (by rw [hw3, hs3]; exact HC3.out.setI hpk (18) 0 9223372036854775807 EN3.out (by rfl))
  have HS3 := hid hs3
  clear hs3
  refine wpk_skipv h37 (wanted_none rfl) rfl (w' := wd3) (by rw [hw3]; unfold execOp; simp only [h37.eval (k := 21) (v := .pointer (some ⟨pk, 18, none⟩)) (by simp), h37.eval (k := 19) (v := .int .i64 (n3 : Int)) (by simp)]; exact run_u (storeI (HC3.out.p.cell (i := 18) (by show 18 < 43; omega)) (HC3.out.p.frozen 18) _)) fun a40 h39 => ?_
  clear hw3 HC3 EN3 HD2
  have h41 := h39.subs (l' := [(0, .pointer (some ⟨g, 0, none⟩)), (1, .pointer (some ⟨pk, 0, none⟩))]) rfl
  clear h39
  go_step
  go_step
  go_step
  go_step
  go_step
  refine wpk_val h41 (wanted_none rfl) rfl (by decide) (fr rfl) (.pointer (some ⟨pk, 0, none⟩)) (by unfold execOp; simp only [h41.eval (k := 1) (v := .pointer (some ⟨pk, 0, none⟩)) (by simp)]; rfl) fun a43 h42 => ?_
  refine wpk_val h42 (wanted_none rfl) rfl (by decide) (fr rfl) (.pointer (some ⟨g, 0, none⟩)) (by unfold execOp; simp only [h42.eval (k := 0) (v := .pointer (some ⟨g, 0, none⟩)) (by simp)]; rfl) fun a45 h44 => ?_
  refine wpk_call h44 (wanted_none rfl) rfl (by decide) (fr rfl) (fun args => call_25 args _) rfl #[.pointer (some ⟨g, 0, none⟩), .int .i64 8] (by simp only [List.map_toArray, List.map_cons, List.map_nil, h44.eval (k := 23) (v := .pointer (some ⟨g, 0, none⟩)) (by simp)]; rfl) (R := fun v w' => ∃ n : Nat, v = .int .i64 (n : Int) ∧ n = (rnum xs s3.at_ s3.no 8).1 ∧ RdS W0 w' g pk a c xs na nc (numS xs 8 s3)) (HD3.out.num HR0.out hg hl 8 (by decide)) fun a47 v4 wc4 hr4 h46 => ?_
  obtain ⟨n4, rfl, e4, q4⟩ := hr4
  have HC4 := hid q4; have EN4 := hid e4
  clear q4 e4
  refine wpk_val h46 (wanted_none rfl) rfl (by decide) (fr rfl) (.pointer (some ⟨pk, 0, none⟩)) (by unfold execOp; simp only [h46.eval (k := 22) (v := .pointer (some ⟨pk, 0, none⟩)) (by simp)]; exact rfl) fun a49 h48 => ?_
  refine wpk_val h48 (wanted_none rfl) rfl (by decide) (fr rfl) (.pointer (some ⟨pk, 27, none⟩)) (by unfold execOp; simp only [h48.eval (k := 25) (v := .pointer (some ⟨pk, 0, none⟩)) (by simp)]; exact run_v (fa_35_0_14 (pk) _)) fun a51 h50 => ?_
  obtain ⟨wd4, hw4⟩ : ∃ w', w' = wc4.setCell ⟨pk, 27, none⟩ (.int .i64 (n4 : Int)) := ⟨_, rfl⟩
  obtain ⟨s4, hs4⟩ : ∃ sx, sx = stepR xs s3 (.num 8 27 0 9223372036854775807) := ⟨_, rfl⟩
  have HD4 : Hid (RdS W0 wd4 g pk a c xs na nc s4) := hid (by rw [hw4, hs4]; exact HC4.out.setI hpk (27) 0 9223372036854775807 EN4.out (by rfl))
  have HS4 := hid hs4
  clear hs4
  refine wpk_skipv h50 (wanted_none rfl) rfl (w' := wd4) (by rw [hw4]; unfold execOp; simp only [h50.eval (k := 26) (v := .pointer (some ⟨pk, 27, none⟩)) (by simp), h50.eval (k := 24) (v := .int .i64 (n4 : Int)) (by simp)]; exact run_u (storeI (HC4.out.p.cell (i := 27) (by show 27 < 43; omega)) (HC4.out.p.frozen 27) _)) fun a53 h52 => ?_
  clear hw4 HC4 EN4 HD3
  have h54 := h52.subs (l' := [(0, .pointer (some ⟨g, 0, none⟩)), (1, .pointer (some ⟨pk, 0, none⟩))]) rfl
  clear h52
  go_step
  go_step
  go_step
  go_step
  go_step
  refine wpk_val h54 (wanted_none rfl) rfl (by decide) (fr rfl) (.pointer (some ⟨pk, 0, none⟩)) (by unfold execOp; simp only [h54.eval (k := 1) (v := .pointer (some ⟨pk, 0, none⟩)) (by simp)]; rfl) fun a56 h55 => ?_
  refine wpk_val h55 (wanted_none rfl) rfl (by decide) (fr rfl) (.pointer (some ⟨g, 0, none⟩)) (by unfold execOp; simp only [h55.eval (k := 0) (v := .pointer (some ⟨g, 0, none⟩)) (by simp)]; rfl) fun a58 h57 => ?_
  refine wpk_call h57 (wanted_none rfl) rfl (by decide) (fr rfl) (fun args => call_25 args _) rfl #[.pointer (some ⟨g, 0, none⟩), .int .i64 4] (by simp only [List.map_toArray, List.map_cons, List.map_nil, h57.eval (k := 28) (v := .pointer (some ⟨g, 0, none⟩)) (by simp)]; rfl) (R := fun v w' => ∃ n : Nat, v = .int .i64 (n : Int) ∧ n = (rnum xs s4.at_ s4.no 4).1 ∧ RdS W0 w' g pk a c xs na nc (numS xs 4 s4)) (HD4.out.num HR0.out hg hl 4 (by decide)) fun a60 v5 wc5 hr5 h59 => ?_
  obtain ⟨n5, rfl, e5, q5⟩ := hr5
  have HC5 := hid q5; have EN5 := hid e5
  clear q5 e5
  refine wpk_val h59 (wanted_none rfl) rfl (by decide) (fr rfl) (.pointer (some ⟨pk, 0, none⟩)) (by unfold execOp; simp only [h59.eval (k := 27) (v := .pointer (some ⟨pk, 0, none⟩)) (by simp)]; exact rfl) fun a62 h61 => ?_
  refine wpk_val h61 (wanted_none rfl) rfl (by decide) (fr rfl) (.pointer (some ⟨pk, 5, none⟩)) (by unfold execOp; simp only [h61.eval (k := 30) (v := .pointer (some ⟨pk, 0, none⟩)) (by simp)]; exact run_v (fa_35_0_5 (pk) _)) fun a64 h63 => ?_
  obtain ⟨wd5, hw5⟩ : ∃ w', w' = wc5.setCell ⟨pk, 5, none⟩ (.int .i64 (n5 : Int)) := ⟨_, rfl⟩
  obtain ⟨s5, hs5⟩ : ∃ sx, sx = stepR xs s4 (.num 4 5 0 9223372036854775807) := ⟨_, rfl⟩
  have HD5 : Hid (RdS W0 wd5 g pk a c xs na nc s5) := hid (by rw [hw5, hs5]; exact HC5.out.setI hpk (5) 0 9223372036854775807 EN5.out (by rfl))
  have HS5 := hid hs5
  clear hs5
  refine wpk_skipv h63 (wanted_none rfl) rfl (w' := wd5) (by rw [hw5]; unfold execOp; simp only [h63.eval (k := 31) (v := .pointer (some ⟨pk, 5, none⟩)) (by simp), h63.eval (k := 29) (v := .int .i64 (n5 : Int)) (by simp)]; exact run_u (storeI (HC5.out.p.cell (i := 5) (by show 5 < 43; omega)) (HC5.out.p.frozen 5) _)) fun a66 h65 => ?_
  clear hw5 HC5 EN5 HD4
  have h67 := h65.subs (l' := [(0, .pointer (some ⟨g, 0, none⟩)), (1, .pointer (some ⟨pk, 0, none⟩))]) rfl
  clear h65
  go_step
  go_step
  go_step
  go_step
  go_step
  refine wpk_val h67 (wanted_none rfl) rfl (by decide) (fr rfl) (.pointer (some ⟨pk, 0, none⟩)) (by unfold execOp; simp only [h67.eval (k := 1) (v := .pointer (some ⟨pk, 0, none⟩)) (by simp)]; rfl) fun a69 h68 => ?_
  refine wpk_val h68 (wanted_none rfl) rfl (by decide) (fr rfl) (.pointer (some ⟨g, 0, none⟩)) (by unfold execOp; simp only [h68.eval (k := 0) (v := .pointer (some ⟨g, 0, none⟩)) (by simp)]; rfl) fun a71 h70 => ?_
  refine wpk_call h70 (wanted_none rfl) rfl (by decide) (fr rfl) (fun args => call_25 args _) rfl #[.pointer (some ⟨g, 0, none⟩), .int .i64 1] (by simp only [List.map_toArray, List.map_cons, List.map_nil, h70.eval (k := 33) (v := .pointer (some ⟨g, 0, none⟩)) (by simp)]; rfl) (R := fun v w' => ∃ n : Nat, v = .int .i64 (n : Int) ∧ n = (rnum xs s5.at_ s5.no 1).1 ∧ RdS W0 w' g pk a c xs na nc (numS xs 1 s5)) (HD5.out.num HR0.out hg hl 1 (by decide)) fun a73 v6 wc6 hr6 h72 => ?_
  obtain ⟨n6, rfl, e6, q6⟩ := hr6
  have HC6 := hid q6; have EN6 := hid e6
  clear q6 e6
  refine wpk_val h72 (wanted_none rfl) rfl (by decide) (fr rfl) (.pointer (some ⟨pk, 0, none⟩)) (by unfold execOp; simp only [h72.eval (k := 32) (v := .pointer (some ⟨pk, 0, none⟩)) (by simp)]; exact rfl) fun a75 h74 => ?_
  refine wpk_val h74 (wanted_none rfl) rfl (by decide) (fr rfl) (.pointer (some ⟨pk, 20, none⟩)) (by unfold execOp; simp only [h74.eval (k := 35) (v := .pointer (some ⟨pk, 0, none⟩)) (by simp)]; exact run_v (fa_35_0_13 (pk) _)) fun a77 h76 => ?_
  refine wpk_val h76 (wanted_none rfl) rfl (by decide) (fr rfl) (.pointer (some ⟨pk, 24, none⟩)) (by unfold execOp; simp only [h76.eval (k := 36) (v := .pointer (some ⟨pk, 20, none⟩)) (by simp)]; exact run_v (fa_29_20_4 (pk) _)) fun a79 h78 => ?_
  refine wpk_val h78 (wanted_none rfl) rfl (by decide) (fr rfl) (.pointer (some ⟨pk, 24, none⟩)) (by unfold execOp; simp only [h78.eval (k := 37) (v := .pointer (some ⟨pk, 24, none⟩)) (by simp)]; exact run_v (fa_27_24_0 (pk) _)) fun a81 h80 => ?_
  obtain ⟨wd6, hw6⟩ : ∃ w', w' = wc6.setCell ⟨pk, 24, none⟩ (.int .i64 (n6 : Int)) := ⟨_, rfl⟩
  obtain ⟨s6, hs6⟩ : ∃ sx, sx = stepR xs s5 (.num 1 24 0 9223372036854775807) := ⟨_, rfl⟩
  have HD6 : Hid (RdS W0 wd6 g pk a c xs na nc s6) := hid (by rw [hw6, hs6]; exact HC6.out.setI hpk (24) 0 9223372036854775807 EN6.out (by rfl))
  have HS6 := hid hs6
  clear hs6
  refine wpk_skipv h80 (wanted_none rfl) rfl (w' := wd6) (by rw [hw6]; unfold execOp; simp only [h80.eval (k := 38) (v := .pointer (some ⟨pk, 24, none⟩)) (by simp), h80.eval (k := 34) (v := .int .i64 (n6 : Int)) (by simp)]; exact run_u (storeI (HC6.out.p.cell (i := 24) (by show 24 < 43; omega)) (HC6.out.p.frozen 24) _)) fun a83 h82 => ?_
  clear hw6 HC6 EN6 HD5
  have h84 := h82.subs (l' := [(0, .pointer (some ⟨g, 0, none⟩)), (1, .pointer (some ⟨pk, 0, none⟩))]) rfl
  clear h82
  go_step
  go_step
  go_step
  go_step
  go_step
  refine wpk_val h84 (wanted_none rfl) rfl (by decide) (fr rfl) (.pointer (some ⟨pk, 0, none⟩)) (by unfold execOp; simp only [h84.eval (k := 1) (v := .pointer (some ⟨pk, 0, none⟩)) (by simp)]; rfl) fun a86 h85 => ?_
  refine wpk_val h85 (wanted_none rfl) rfl (by decide) (fr rfl) (.pointer (some ⟨g, 0, none⟩)) (by unfold execOp; simp only [h85.eval (k := 0) (v := .pointer (some ⟨g, 0, none⟩)) (by simp)]; rfl) fun a88 h87 => ?_
  refine wpk_call h87 (wanted_none rfl) rfl (by decide) (fr rfl) (fun args => call_25 args _) rfl #[.pointer (some ⟨g, 0, none⟩), .int .i64 1] (by simp only [List.map_toArray, List.map_cons, List.map_nil, h87.eval (k := 40) (v := .pointer (some ⟨g, 0, none⟩)) (by simp)]; rfl) (R := fun v w' => ∃ n : Nat, v = .int .i64 (n : Int) ∧ n = (rnum xs s6.at_ s6.no 1).1 ∧ RdS W0 w' g pk a c xs na nc (numS xs 1 s6)) (HD6.out.num HR0.out hg hl 1 (by decide)) fun a90 v7 wc7 hr7 h89 => ?_
  obtain ⟨n7, rfl, e7, q7⟩ := hr7
  have HC7 := hid q7; have EN7 := hid e7
  clear q7 e7
  refine wpk_val h89 (wanted_none rfl) rfl (by decide) (fr rfl) (.pointer (some ⟨pk, 0, none⟩)) (by unfold execOp; simp only [h89.eval (k := 39) (v := .pointer (some ⟨pk, 0, none⟩)) (by simp)]; exact rfl) fun a92 h91 => ?_
  refine wpk_val h91 (wanted_none rfl) rfl (by decide) (fr rfl) (.pointer (some ⟨pk, 20, none⟩)) (by unfold execOp; simp only [h91.eval (k := 42) (v := .pointer (some ⟨pk, 0, none⟩)) (by simp)]; exact run_v (fa_35_0_13 (pk) _)) fun a94 h93 => ?_
  refine wpk_val h93 (wanted_none rfl) rfl (by decide) (fr rfl) (.pointer (some ⟨pk, 24, none⟩)) (by unfold execOp; simp only [h93.eval (k := 43) (v := .pointer (some ⟨pk, 20, none⟩)) (by simp)]; exact run_v (fa_29_20_4 (pk) _)) fun a96 h95 => ?_
  refine wpk_val h95 (wanted_none rfl) rfl (by decide) (fr rfl) (.pointer (some ⟨pk, 25, none⟩)) (by unfold execOp; simp only [h95.eval (k := 44) (v := .pointer (some ⟨pk, 24, none⟩)) (by simp)]; exact run_v (fa_27_24_1 (pk) _)) fun a98 h97 => ?_
  obtain ⟨wd7, hw7⟩ : ∃ w', w' = wc7.setCell ⟨pk, 25, none⟩ (.int .i64 (n7 : Int)) := ⟨_, rfl⟩
  obtain ⟨s7, hs7⟩ : ∃ sx, sx = stepR xs s6 (.num 1 25 0 9223372036854775807) := ⟨_, rfl⟩
  have HD7 : Hid (RdS W0 wd7 g pk a c xs na nc s7) := hid (by rw [hw7, hs7]; exact HC7.out.setI hpk (25) 0 9223372036854775807 EN7.out (by rfl))
  have HS7 := hid hs7
  clear hs7
  refine wpk_skipv h97 (wanted_none rfl) rfl (w' := wd7) (by rw [hw7]; unfold execOp; simp only [h97.eval (k := 45) (v := .pointer (some ⟨pk, 25, none⟩)) (by simp), h97.eval (k := 41) (v := .int .i64 (n7 : Int)) (by simp)]; exact run_u (storeI (HC7.out.p.cell (i := 25) (by show 25 < 43; omega)) (HC7.out.p.frozen 25) _)) fun a100 h99 => ?_
  clear hw7 HC7 EN7 HD6
  have h101 := h99.subs (l' := [(0, .pointer (some ⟨g, 0, none⟩)), (1, .pointer (some ⟨pk, 0, none⟩))]) rfl
  clear h99
  go_step
  go_step
  go_step
  go_step
  go_step
  refine wpk_val h101 (wanted_none rfl) rfl (by decide) (fr rfl) (.pointer (some ⟨pk, 0, none⟩)) (by unfold execOp; simp only [h101.eval (k := 1) (v := .pointer (some ⟨pk, 0, none⟩)) (by simp)]; rfl) fun a103 h102 => ?_
  refine wpk_val h102 (wanted_none rfl) rfl (by decide) (fr rfl) (.pointer (some ⟨g, 0, none⟩)) (by unfold execOp; simp only [h102.eval (k := 0) (v := .pointer (some ⟨g, 0, none⟩)) (by simp)]; rfl) fun a105 h104 => ?_
  refine wpk_call h104 (wanted_none rfl) rfl (by decide) (fr rfl) (fun args => call_25 args _) rfl #[.pointer (some ⟨g, 0, none⟩), .int .i64 2] (by simp only [List.map_toArray, List.map_cons, List.map_nil, h104.eval (k := 47) (v := .pointer (some ⟨g, 0, none⟩)) (by simp)]; rfl) (R := fun v w' => ∃ n : Nat, v = .int .i64 (n : Int) ∧ n = (rnum xs s7.at_ s7.no 2).1 ∧ RdS W0 w' g pk a c xs na nc (numS xs 2 s7)) (HD7.out.num HR0.out hg hl 2 (by decide)) fun a107 v8 wc8 hr8 h106 => ?_
  obtain ⟨n8, rfl, e8, q8⟩ := hr8
  have HC8 := hid q8; have EN8 := hid e8
  clear q8 e8
  refine wpk_val h106 (wanted_none rfl) rfl (by decide) (fr rfl) (.pointer (some ⟨pk, 0, none⟩)) (by unfold execOp; simp only [h106.eval (k := 46) (v := .pointer (some ⟨pk, 0, none⟩)) (by simp)]; exact rfl) fun a109 h108 => ?_
  refine wpk_val h108 (wanted_none rfl) rfl (by decide) (fr rfl) (.pointer (some ⟨pk, 20, none⟩)) (by unfold execOp; simp only [h108.eval (k := 49) (v := .pointer (some ⟨pk, 0, none⟩)) (by simp)]; exact run_v (fa_35_0_13 (pk) _)) fun a111 h110 => ?_
  refine wpk_val h110 (wanted_none rfl) rfl (by decide) (fr rfl) (.pointer (some ⟨pk, 24, none⟩)) (by unfold execOp; simp only [h110.eval (k := 50) (v := .pointer (some ⟨pk, 20, none⟩)) (by simp)]; exact run_v (fa_29_20_4 (pk) _)) fun a113 h112 => ?_
  refine wpk_val h112 (wanted_none rfl) rfl (by decide) (fr rfl) (.pointer (some ⟨pk, 26, none⟩)) (by unfold execOp; simp only [h112.eval (k := 51) (v := .pointer (some ⟨pk, 24, none⟩)) (by simp)]; exact run_v (fa_27_24_2 (pk) _)) fun a115 h114 => ?_
  obtain ⟨wd8, hw8⟩ : ∃ w', w' = wc8.setCell ⟨pk, 26, none⟩ (.int .i64 (n8 : Int)) := ⟨_, rfl⟩
  obtain ⟨s8, hs8⟩ : ∃ sx, sx = stepR xs s7 (.num 2 26 0 9223372036854775807) := ⟨_, rfl⟩
  have HD8 : Hid (RdS W0 wd8 g pk a c xs na nc s8) := hid (by rw [hw8, hs8]; exact HC8.out.setI hpk (26) 0 9223372036854775807 EN8.out (by rfl))
  have HS8 := hid hs8
  clear hs8
  refine wpk_skipv h114 (wanted_none rfl) rfl (w' := wd8) (by rw [hw8]; unfold execOp; simp only [h114.eval (k := 52) (v := .pointer (some ⟨pk, 26, none⟩)) (by simp), h114.eval (k := 48) (v := .int .i64 (n8 : Int)) (by simp)]; exact run_u (storeI (HC8.out.p.cell (i := 26) (by show 26 < 43; omega)) (HC8.out.p.frozen 26) _)) fun a117 h116 => ?_
  clear hw8 HC8 EN8 HD7
  have h118 := h116.subs (l' := [(0, .pointer (some ⟨g, 0, none⟩)), (1, .pointer (some ⟨pk, 0, none⟩))]) rfl
  clear h116
  go_step
  go_step
  go_step
  go_step
  go_step
  refine wpk_val h118 (wanted_none rfl) rfl (by decide) (fr rfl) (.pointer (some ⟨pk, 0, none⟩)) (by unfold execOp; simp only [h118.eval (k := 1) (v := .pointer (some ⟨pk, 0, none⟩)) (by simp)]; rfl) fun a120 h119 => ?_
  refine wpk_val h119 (wanted_none rfl) rfl (by decide) (fr rfl) (.pointer (some ⟨g, 0, none⟩)) (by unfold execOp; simp only [h119.eval (k := 0) (v := .pointer (some ⟨g, 0, none⟩)) (by simp)]; rfl) fun a122 h121 => ?_
  refine wpk_call h121 (wanted_none rfl) rfl (by decide) (fr rfl) (fun args => call_25 args _) rfl #[.pointer (some ⟨g, 0, none⟩), .int .i64 1] (by simp only [List.map_toArray, List.map_cons, List.map_nil, h121.eval (k := 54) (v := .pointer (some ⟨g, 0, none⟩)) (by simp)]; rfl) (R := fun v w' => ∃ n : Nat, v = .int .i64 (n : Int) ∧ n = (rnum xs s8.at_ s8.no 1).1 ∧ RdS W0 w' g pk a c xs na nc (numS xs 1 s8)) (HD8.out.num HR0.out hg hl 1 (by decide)) fun a124 v9 wc9 hr9 h123 => ?_
  obtain ⟨n9, rfl, e9, q9⟩ := hr9
  have HC9 := hid q9; have EN9 := hid e9
  clear q9 e9
  refine wpk_val h123 (wanted_none rfl) rfl (by decide) (fr rfl) (.pointer (some ⟨pk, 0, none⟩)) (by unfold execOp; simp only [h123.eval (k := 53) (v := .pointer (some ⟨pk, 0, none⟩)) (by simp)]; exact rfl) fun a126 h125 => ?_
  refine wpk_val h125 (wanted_none rfl) rfl (by decide) (fr rfl) (.pointer (some ⟨pk, 28, none⟩)) (by unfold execOp; simp only [h125.eval (k := 56) (v := .pointer (some ⟨pk, 0, none⟩)) (by simp)]; exact run_v (fa_35_0_15 (pk) _)) fun a128 h127 => ?_
  refine wpk_val h127 (wanted_none rfl) rfl (by decide) (fr rfl) (.pointer (some ⟨pk, 28, none⟩)) (by unfold execOp; simp only [h127.eval (k := 57) (v := .pointer (some ⟨pk, 28, none⟩)) (by simp)]; exact run_v (fa_33_28_0 (pk) _)) fun a130 h129 => ?_
  obtain ⟨wd9, hw9⟩ : ∃ w', w' = wc9.setCell ⟨pk, 28, none⟩ (.int .i64 (n9 : Int)) := ⟨_, rfl⟩
  obtain ⟨s9, hs9⟩ : ∃ sx, sx = stepR xs s8 (.num 1 28 0 9223372036854775807) := ⟨_, rfl⟩
  have HD9 : Hid (RdS W0 wd9 g pk a c xs na nc s9) := hid (by rw [hw9, hs9]; exact HC9.out.setI hpk (28) 0 9223372036854775807 EN9.out (by rfl))
  have HS9 := hid hs9
  clear hs9
  refine wpk_skipv h129 (wanted_none rfl) rfl (w' := wd9) (by rw [hw9]; unfold execOp; simp only [h129.eval (k := 58) (v := .pointer (some ⟨pk, 28, none⟩)) (by simp), h129.eval (k := 55) (v := .int .i64 (n9 : Int)) (by simp)]; exact run_u (storeI (HC9.out.p.cell (i := 28) (by show 28 < 43; omega)) (HC9.out.p.frozen 28) _)) fun a132 h131 => ?_
  clear hw9 HC9 EN9 HD8
  have h133 := h131.subs (l' := [(0, .pointer (some ⟨g, 0, none⟩)), (1, .pointer (some ⟨pk, 0, none⟩))]) rfl
  clear h131
  go_step
  go_step
  go_step
  go_step
  go_step
  refine wpk_val h133 (wanted_none rfl) rfl (by decide) (fr rfl) (.pointer (some ⟨pk, 0, none⟩)) (by unfold execOp; simp only [h133.eval (k := 1) (v := .pointer (some ⟨pk, 0, none⟩)) (by simp)]; rfl) fun a135 h134 => ?_
  refine wpk_val h134 (wanted_none rfl) rfl (by decide) (fr rfl) (.pointer (some ⟨g, 0, none⟩)) (by unfold execOp; simp only [h134.eval (k := 0) (v := .pointer (some ⟨g, 0, none⟩)) (by simp)]; rfl) fun a137 h136 => ?_
  refine wpk_call h136 (wanted_none rfl) rfl (by decide) (fr rfl) (fun args => call_25 args _) rfl #[.pointer (some ⟨g, 0, none⟩), .int .i64 1] (by simp only [List.map_toArray, List.map_cons, List.map_nil, h136.eval (k := 60) (v := .pointer (some ⟨g, 0, none⟩)) (by simp)]; rfl) (R := fun v w' => ∃ n : Nat, v = .int .i64 (n : Int) ∧ n = (rnum xs s9.at_ s9.no 1).1 ∧ RdS W0 w' g pk a c xs na nc (numS xs 1 s9)) (HD9.out.num HR0.out hg hl 1 (by decide)) fun a139 v10 wc10 hr10 h138 => ?_
  obtain ⟨n10, rfl, e10, q10⟩ := hr10
  have HC10 := hid q10; have EN10 := hid e10
  clear q10 e10
  refine wpk_val h138 (wanted_none rfl) rfl (by decide) (fr rfl) (.pointer (some ⟨pk, 0, none⟩)) (by unfold execOp; simp only [h138.eval (k := 59) (v := .pointer (some ⟨pk, 0, none⟩)) (by simp)]; exact rfl) fun a141 h140 => ?_
  refine wpk_val h140 (wanted_none rfl) rfl (by decide) (fr rfl) (.pointer (some ⟨pk, 28, none⟩)) (by unfold execOp; simp only [h140.eval (k := 62) (v := .pointer (some ⟨pk, 0, none⟩)) (by simp)]; exact run_v (fa_35_0_15 (pk) _)) fun a143 h142 => ?_
  refine wpk_val h142 (wanted_none rfl) rfl (by decide) (fr rfl) (.pointer (some ⟨pk, 29, none⟩)) (by unfold execOp; simp only [h142.eval (k := 63) (v := .pointer (some ⟨pk, 28, none⟩)) (by simp)]; exact run_v (fa_33_28_1 (pk) _)) fun a145 h144 => ?_
  obtain ⟨wd10, hw10⟩ : ∃ w', w' = wc10.setCell ⟨pk, 29, none⟩ (.int .i64 (n10 : Int)) := ⟨_, rfl⟩
  obtain ⟨s10, hs10⟩ : ∃ sx, sx = stepR xs s9 (.num 1 29 0 9223372036854775807) := ⟨_, rfl⟩
  have HD10 : Hid (RdS W0 wd10 g pk a c xs na nc s10) := hid (by rw [hw10, hs10]; exact HC10.out.setI hpk (29) 0 9223372036854775807 EN10.out (by rfl))
  have HS10 := hid hs10
  clear hs10
  refine wpk_skipv h144 (wanted_none rfl) rfl (w' := wd10) (by rw [hw10]; unfold execOp; simp only [h144.eval (k := 64) (v := .pointer (some ⟨pk, 29, none⟩)) (by simp), h144.eval (k := 61) (v := .int .i64 (n10 : Int)) (by simp)]; exact run_u (storeI (HC10.out.p.cell (i := 29) (by show 29 < 43; omega)) (HC10.out.p.frozen 29) _)) fun a147 h146 => ?_
  clear hw10 HC10 EN10 HD9
  have h148 := h146.subs (l' := [(0, .pointer (some ⟨g, 0, none⟩)), (1, .pointer (some ⟨pk, 0, none⟩))]) rfl
  clear h146
  go_step
  go_step
  go_step
  go_step
  go_step
  refine wpk_val h148 (wanted_none rfl) rfl (by decide) (fr rfl) (.pointer (some ⟨pk, 0, none⟩)) (by unfold execOp; simp only [h148.eval (k := 1) (v := .pointer (some ⟨pk, 0, none⟩)) (by simp)]; rfl) fun a150 h149 => ?_
  refine wpk_val h149 (wanted_none rfl) rfl (by decide) (fr rfl) (.pointer (some ⟨g, 0, none⟩)) (by unfold execOp; simp only [h149.eval (k := 0) (v := .pointer (some ⟨g, 0, none⟩)) (by simp)]; rfl) fun a152 h151 => ?_
  refine wpk_call h151 (wanted_none rfl) rfl (by decide) (fr rfl) (fun args => call_25 args _) rfl #[.pointer (some ⟨g, 0, none⟩), .int .i64 2] (by simp only [List.map_toArray, List.map_cons, List.map_nil, h151.eval (k := 66) (v := .pointer (some ⟨g, 0, none⟩)) (by simp)]; rfl) (R := fun v w' => ∃ n : Nat, v = .int .i64 (n : Int) ∧ n = (rnum xs s10.at_ s10.no 2).1 ∧ RdS W0 w' g pk a c xs na nc (numS xs 2 s10)) (HD10.out.num HR0.out hg hl 2 (by decide)) fun a154 v11 wc11 hr11 h153 => ?_
  obtain ⟨n11, rfl, e11, q11⟩ := hr11
  have HC11 := hid q11; have EN11 := hid e11
  clear q11 e11
  refine wpk_val h153 (wanted_none rfl) rfl (by decide) (fr rfl) (.pointer (some ⟨pk, 0, none⟩)) (by unfold execOp; simp only [h153.eval (k := 65) (v := .pointer (some ⟨pk, 0, none⟩)) (by simp)]; exact rfl) fun a156 h155 => ?_
  refine wpk_val h155 (wanted_none rfl) rfl (by decide) (fr rfl) (.pointer (some ⟨pk, 28, none⟩)) (by unfold execOp; simp only [h155.eval (k := 68) (v := .pointer (some ⟨pk, 0, none⟩)) (by simp)]; exact run_v (fa_35_0_15 (pk) _)) fun a158 h157 => ?_
  refine wpk_val h157 (wanted_none rfl) rfl (by decide) (fr rfl) (.pointer (some ⟨pk, 30, none⟩)) (by unfold execOp; simp only [h157.eval (k := 69) (v := .pointer (some ⟨pk, 28, none⟩)) (by simp)]; exact run_v (fa_33_28_2 (pk) _)) fun a160 h159 => ?_
  obtain ⟨wd11, hw11⟩ : ∃ w', w' = wc11.setCell ⟨pk, 30, none⟩ (.int .i64 (n11 : Int)) := ⟨_, rfl⟩
  obtain ⟨s11, hs11⟩ : ∃ sx, sx = stepR xs s10 (.num 2 30 0 9223372036854775807) := ⟨_, rfl⟩
  have HD11 : Hid (RdS W0 wd11 g pk a c xs na nc s11) := hid (by rw [hw11, hs11]; exact HC11.out.setI hpk (30) 0 9223372036854775807 EN11.out (by rfl))
  have HS11 := hid hs11
  clear hs11
  refine wpk_skipv h159 (wanted_none rfl) rfl (w' := wd11) (by rw [hw11]; unfold execOp; simp only [h159.eval (k := 70) (v := .pointer (some ⟨pk, 30, none⟩)) (by simp), h159.eval (k := 67) (v := .int .i64 (n11 : Int)) (by simp)]; exact run_u (storeI (HC11.out.p.cell (i := 30) (by show 30 < 43; omega)) (HC11.out.p.frozen 30) _)) fun a162 h161 => ?_
  clear hw11 HC11 EN11 HD10
  have h163 := h161.subs (l' := [(0, .pointer (some ⟨g, 0, none⟩)), (1, .pointer (some ⟨pk, 0, none⟩))]) rfl
  clear h161
  go_step
  go_step
  go_step
  go_step
  go_step
  go_step
  refine wpk_val h163 (wanted_none rfl) rfl (by decide) (fr rfl) (.int .i64 0) rfl fun a165 h164 => ?_
  go_step
  go_step
  go_step
  go_step
  refine wp_loop (I := fun a' w' => ∃ (j : Nat) (t : RS), j ≤ 4 ∧ Kn 110 [(4, .int .i64 (j : Int)), (0, .pointer (some ⟨g, 0, none⟩)), (1, .pointer (some ⟨pk, 0, none⟩))] a' ∧ t = ([31, 32, 33, 34].take j).foldl (fun t o => stepR xs t (.num 1 o 0 9223372036854775807)) s11 ∧ RdS W0 w' g pk a c xs na nc t) (μ := fun a' _ => 4 - (intOf (a'.eval (.tmp 4))).toNat) ⟨0, s11, by omega, h164, rfl, HD11.out⟩ ?_
  clear HD11 h164
  rintro aL wL ⟨j, t, hj, hK, ht, hT⟩
  have HT := hid hT; have Ht := hid ht
  clear hT ht
  by_cases hlt : j < 4
  · have hd0 : decide ((j : Int) < 4) = true := decide_eq_true (by omega)
    go_step
    go_step
    go_step
    go_step
    refine wpk_val hK (wanted_none rfl) rfl (by decide) (fr rfl) (.int .i64 (j : Int)) (by unfold execOp; simp only [hK.eval (k := 4) (v := .int .i64 (j : Int)) (by simp)]; rfl) fun a167 h166 => ?_
    refine wpk_val h166 (wanted_none rfl) rfl (by decide) (fr rfl) (.bool true) (by unfold execOp; simp only [h166.eval (k := 71) (v := .int .i64 (j : Int)) (by simp)]; exact run_v (ltIb _ _ _ _ _ hd0)) fun a169 h168 => ?_
    have h170 := h168.subs (l' := [(72, .bool true), (4, .int .i64 (j : Int)), (0, .pointer (some ⟨g, 0, none⟩)), (1, .pointer (some ⟨pk, 0, none⟩))]) rfl
    clear h168
    go_step
    go_step
    go_step
    refine wp_cond (t := true) (h170.eval (k := 72) (v := .bool true) (by simp)) ?_
    simp only [if_true]
    have h171 := h170.subs (l' := [(4, .int .i64 (j : Int)), (0, .pointer (some ⟨g, 0, none⟩)), (1, .pointer (some ⟨pk, 0, none⟩))]) rfl
    clear h170
    go_step
    go_step
    go_step
    go_step
    go_step
    refine wp_region_held_drew (S := fun _ => True) (by kernel_rfl) trivial (fun hS14 => ?_)
    have HTd := hid HT.out.drewN
    refine wpk_take hS14 h171 0 rfl rfl (by decide) (fr rfl) (by kernel_rfl) (by kernel_rfl) (by kernel_rfl) (fun _ _ _ _ h => h) (.pointer (some ⟨pk, 0, none⟩)) (Or.inl ⟨Eq.refl true, fun w1 _ => (by show (execOp _ (⟨_, .move (.tmp 1), _, _, _, _⟩ : Oper)).run _ _ = _; exact (by unfold execOp; simp only [h171.eval (k := 1) (v := .pointer (some ⟨pk, 0, none⟩)) (by simp)]; exact rfl))⟩) fun a173 h172 => ?_
    refine wpk_take hS14 h172 1 rfl rfl (by decide) (fr rfl) (by kernel_rfl) (by kernel_rfl) (by kernel_rfl) (fun _ _ _ _ h => h) (.int .i64 (j : Int)) (Or.inl ⟨Eq.refl true, fun w1 _ => (by show (execOp _ (⟨_, .move (.tmp 4), _, _, _, _⟩ : Oper)).run _ _ = _; exact (by unfold execOp; simp only [h172.eval (k := 4) (v := .int .i64 (j : Int)) (by simp)]; exact rfl))⟩) fun a175 h174 => ?_
    refine wpk_take hS14 h174 2 rfl rfl (by decide) (fr rfl) (by kernel_rfl) (by kernel_rfl) (by kernel_rfl) (fun _ _ _ _ h => h) (.pointer (some ⟨g, 0, none⟩)) (Or.inl ⟨Eq.refl true, fun w1 _ => (by show (execOp _ (⟨_, .move (.tmp 0), _, _, _, _⟩ : Oper)).run _ _ = _; exact (by unfold execOp; simp only [h174.eval (k := 0) (v := .pointer (some ⟨g, 0, none⟩)) (by simp)]; exact rfl))⟩) fun a177 h176 => ?_
    refine wpk_take hS14 h176 4 rfl rfl (by decide) (fr rfl) (by kernel_rfl) (by kernel_rfl) (by kernel_rfl) (fun _ _ _ _ h => h) (.pointer (some ⟨pk, 0, none⟩)) (Or.inl ⟨Eq.refl true, fun w1 _ => (by show (execOp _ (⟨_, .nilCheck (.tmp 75), _, _, _, _⟩ : Oper)).run _ _ = _; exact (by unfold execOp; simp only [h176.eval (k := 75) (v := .pointer (some ⟨pk, 0, none⟩)) (by simp)]; exact rfl))⟩) fun a179 h178 => ?_
    refine wpk_take hS14 h178 5 rfl rfl (by decide) (fr rfl) (by kernel_rfl) (by kernel_rfl) (by kernel_rfl) (fun _ _ _ _ h => h) (.pointer (some ⟨pk, 28, none⟩)) (Or.inl ⟨Eq.refl true, fun w1 _ => (by show (execOp _ (⟨_, .fieldAddr 35 (.tmp 79) 15, _, _, _, _⟩ : Oper)).run _ _ = _; exact (by unfold execOp; simp only [h178.eval (k := 79) (v := .pointer (some ⟨pk, 0, none⟩)) (by simp)]; exact run_v (fa_35_0_15 (pk) _)))⟩) fun a181 h180 => ?_
    refine wpk_take hS14 h180 6 rfl rfl (by decide) (fr rfl) (by kernel_rfl) (by kernel_rfl) (by kernel_rfl) (fun _ _ _ _ h => h) (.pointer (some ⟨pk, 31, none⟩)) (Or.inl ⟨Eq.refl true, fun w1 _ => (by show (execOp _ (⟨_, .fieldAddr 33 (.tmp 80) 3, _, _, _, _⟩ : Oper)).run _ _ = _; exact (by unfold execOp; simp only [h180.eval (k := 80) (v := .pointer (some ⟨pk, 28, none⟩)) (by simp)]; exact run_v (fa_33_28_3 (pk) _)))⟩) fun a183 h182 => ?_
    refine wpk_only 3 rfl rfl (by kernel_rfl) fun K hK => op_call h182 rfl (by decide) (fr rfl) (fun args => call_25 args _) rfl #[.pointer (some ⟨g, 0, none⟩), .int .i64 1] (by simp only [List.map_toArray, List.map_cons, List.map_nil, h182.eval (k := 77) (v := .pointer (some ⟨g, 0, none⟩)) (by simp)]; rfl) (R := fun v w' => ∃ n : Nat, v = .int .i64 (n : Int) ∧ n = (rnum xs t.at_ t.no 1).1 ∧ RdS W0 w' g pk a c xs na nc (numS xs 1 t)) (HTd.out.num HR0.out hg hl 1 (by decide)) fun a185 v12 wc12 hr12 h184 => hK _ _ trivial fun hS15 => ?_
    clear hK K
    obtain ⟨n12, rfl, e12, q12⟩ := hr12
    have HC12 := hid q12; have EN12 := hid e12
    clear q12 e12
    refine wpk_take hS15 h184 7 rfl rfl (by decide) (fr rfl) (by kernel_rfl) (by kernel_rfl) (by kernel_rfl) (fun _ _ _ _ h => h) (.pointer (some ⟨pk, 31 + j, none⟩)) (Or.inl ⟨Eq.refl true, fun w1 _ => (by show (execOp _ (⟨_, .indexAddr 30 (.tmp 81) (.tmp 76), _, _, _, _⟩ : Oper)).run _ _ = _; exact (by unfold execOp; simp only [h184.eval (k := 81) (v := .pointer (some ⟨pk, 31, none⟩)) (by simp), h184.eval (k := 76) (v := .int .i64 (j : Int)) (by simp)]; exact run_v (ixA4 pk j hlt _)))⟩) fun a187 h186 => ?_
    obtain ⟨wd12, hw12⟩ : ∃ w', w' = wc12.setCell ⟨pk, 31 + j, none⟩ (.int .i64 (n12 : Int)) := ⟨_, rfl⟩
    obtain ⟨s12, hs12⟩ : ∃ sx, sx = stepR xs t (.num 1 (31 + j) 0 9223372036854775807) := ⟨_, rfl⟩
    have HD12 : Hid (RdS W0 wd12 g pk a c xs na nc s12) := hid (by rw [hw12, hs12]; exact HC12.out.setI hpk (31 + j) 0 9223372036854775807 EN12.out (by rcases (by omega : j = 0 ∨ j = 1 ∨ j = 2 ∨ j = 3) with e | e | e | e <;> subst e <;> rfl))
    have HS12 := hid hs12
    clear hs12
    refine wpk_only 8 rfl rfl (by kernel_rfl) fun K hK => op_skip h186 rfl (w' := wd12) (by show (execOp _ (⟨_, .store 3 (.tmp 82) (.tmp 78), _, _, _, _⟩ : Oper)).run _ _ = _; exact (by rw [hw12]; unfold execOp; simp only [h186.eval (k := 82) (v := .pointer (some ⟨pk, 31 + j, none⟩)) (by simp), h186.eval (k := 78) (v := .int .i64 (n12 : Int)) (by simp)]; exact run_u (storeI (HC12.out.p.cell (i := 31 + j) (by show 31 + j < 43; omega)) (HC12.out.p.frozen (31 + j)) _))) fun a189 h188 => hK _ _ trivial fun _ => ?_
    clear hK K
    refine wpAnyH_done (by kernel_rfl) ?_ _
    have h190 := h188.subs (l' := [(4, .int .i64 (j : Int)), (0, .pointer (some ⟨g, 0, none⟩)), (1, .pointer (some ⟨pk, 0, none⟩))]) rfl
    clear h188
    go_step
    go_step
    go_step
    refine wpk_val h190 (wanted_none rfl) rfl (by decide) (fr rfl) (.int .i64 (j : Int)) (by unfold execOp; simp only [h190.eval (k := 4) (v := .int .i64 (j : Int)) (by simp)]; rfl) fun a192 h191 => ?_
    refine wpk_val h191 (wanted_none rfl) rfl (by decide) (fr rfl) (.int .i64 ((j + 1 : Nat) : Int)) (by unfold execOp; simp only [h191.eval (k := 73) (v := .int .i64 (j : Int)) (by simp)]; exact run_v (addI1 _ _ j (by omega) _)) fun a194 h193 => ?_
    have h195 := h193.subs (l' := [(74, .int .i64 ((j + 1 : Nat) : Int)), (73, .int .i64 (j : Int)), (0, .pointer (some ⟨g, 0, none⟩)), (1, .pointer (some ⟨pk, 0, none⟩))]) rfl
    clear h193
    refine wpk_val h195 (wanted_none rfl) rfl (by decide) (fr rfl) (.int .i64 ((j + 1 : Nat) : Int)) (by unfold execOp; simp only [h195.eval (k := 74) (v := .int .i64 ((j + 1 : Nat) : Int)) (by simp)]; rfl) fun a197 h196 => ?_
    have h198 := h196.subs (l' := [(4, .int .i64 ((j + 1 : Nat) : Int)), (0, .pointer (some ⟨g, 0, none⟩)), (1, .pointer (some ⟨pk, 0, none⟩))]) rfl
    clear h196
    go_step
    go_step
    refine ⟨⟨j + 1, s12, by omega, h198, ?_, HD12.out⟩, ?_⟩
    · rw [HS12.out, Ht.out]; rcases (by omega : j = 0 ∨ j = 1 ∨ j = 2 ∨ j = 3) with e | e | e | e <;> subst e <;> rfl
    · rw [h198.eval (k := 4) (v := .int .i64 ((j + 1 : Nat) : Int)) (by simp), hK.eval (k := 4) (v := .int .i64 (j : Int)) (by simp)]; simp [intOf]; omega
  · have hd0 : decide ((j : Int) < 4) = false := decide_eq_false (by omega)
    obtain rfl : j = 4 := by omega
    go_step
    go_step
    go_step
    go_step
    refine wpk_val hK (wanted_none rfl) rfl (by decide) (fr rfl) (.int .i64 ((4 : Nat) : Int)) (by unfold execOp; simp only [hK.eval (k := 4) (v := .int .i64 ((4 : Nat) : Int)) (by simp)]; rfl) fun a200 h199 => ?_
    refine wpk_val h199 (wanted_none rfl) rfl (by decide) (fr rfl) (.bool false) (by unfold execOp; simp only [h199.eval (k := 71) (v := .int .i64 ((4 : Nat) : Int)) (by simp)]; exact run_v (ltIb _ _ _ _ _ hd0)) fun a202 h201 => ?_
    have h203 := h201.subs (l' := [(72, .bool false), (4, .int .i64 ((4 : Nat) : Int)), (0, .pointer (some ⟨g, 0, none⟩)), (1, .pointer (some ⟨pk, 0, none⟩))]) rfl
    clear h201
    go_step
    go_step
    go_step
    refine wp_cond (t := false) (h203.eval (k := 72) (v := .bool false) (by simp)) ?_
    simp only [Bool.false_eq_true, if_false]
    have h204 := h203.subs (l' := [(4, .int .i64 ((4 : Nat) : Int)), (0, .pointer (some ⟨g, 0, none⟩)), (1, .pointer (some ⟨pk, 0, none⟩))]) rfl
    clear h203
    go_step
    go_step
    go_step
    go_step
    have HZ := HT; have Hz := Ht
    clear HT Ht
    obtain ⟨t4, ht4⟩ : ∃ x, x = t := ⟨_, rfl⟩
    subst ht4
    go_step
    go_step
    go_step
    refine wpk_val h204 (wanted_none rfl) rfl (by decide) (fr rfl) (.pointer (some ⟨g, 0, none⟩)) (by unfold execOp; simp only [h204.eval (k := 0) (v := .pointer (some ⟨g, 0, none⟩)) (by simp)]; rfl) fun a206 h205 => ?_
    refine wpk_call h205 (wanted_none rfl) rfl (by decide) (fr rfl) (fun args => call_25 args _) rfl #[.pointer (some ⟨g, 0, none⟩), .int .i64 1] (by simp only [List.map_toArray, List.map_cons, List.map_nil, h205.eval (k := 83) (v := .pointer (some ⟨g, 0, none⟩)) (by simp)]; rfl) (R := fun v w' => ∃ n : Nat, v = .int .i64 (n : Int) ∧ n = (rnum xs t4.at_ t4.no 1).1 ∧ RdS W0 w' g pk a c xs na nc (numS xs 1 t4)) (HZ.out.num HR0.out hg hl 1 (by decide)) fun a208 v13 wc13 hr13 h207 => ?_
    obtain ⟨n13, rfl, e13, q13⟩ := hr13
    have HC13 := hid q13; have EN13 := hid e13
    clear q13 e13
    refine wpk_val h207 (wanted_none rfl) rfl (by decide) (fr rfl) (.int .i64 (n13 : Int)) (by unfold execOp; simp only [h207.eval (k := 84) (v := .int .i64 (n13 : Int)) (by simp)]; rfl) fun a210 h209 => ?_
    have h211 := h209.subs (l' := [(5, .int .i64 (n13 : Int)), (4, .int .i64 ((4 : Nat) : Int)), (0, .pointer (some ⟨g, 0, none⟩)), (1, .pointer (some ⟨pk, 0, none⟩))]) rfl
    clear h209
    go_step
    go_step
    go_step
    go_step
    go_step
    refine wpk_val h211 (wanted_none rfl) rfl (by decide) (fr rfl) (.int .i64 0) rfl fun a213 h212 => ?_
    go_step
    go_step
    go_step
    go_step
    have hn9 : n13 ≤ 255 := by rw [EN13.out]; exact rnum_bd1 _ _ _
    obtain ⟨sF, hsF⟩ : ∃ x, x = namesR xs n13 (numS xs 1 t4) := ⟨_, rfl⟩
    have HSF := hid hsF
    have hN4 : Hid (t4.Q.N.length ≤ 1000) := hid (by rw [Hz.out, HS11.out, HS10.out, HS9.out, HS8.out, HS7.out, HS6.out, HS5.out, HS4.out, HS3.out, HS2.out, HS1.out]; exact hN0)
    have HFIN : Hid ((fRest 4).foldl (stepR xs) s0 = sF) := hid (by rw [hsF, EN13.out, Hz.out, HS11.out, HS10.out, HS9.out, HS8.out, HS7.out, HS6.out, HS5.out, HS4.out, HS3.out, HS2.out, HS1.out]; rfl)
    refine wp_loop (I := fun a' w' => ∃ (j : Nat) (t : RS) (na : Option Addr) (nc : Nat), j ≤ n13 ∧ Kn 110 [(6, .int .i64 (j : Int)), (5, .int .i64 (n13 : Int)), (4, .int .i64 ((4 : Nat) : Int)), (0, .pointer (some ⟨g, 0, none⟩)), (1, .pointer (some ⟨pk, 0, none⟩))] a' ∧ sF = namesR xs (n13 - j) t ∧ t.Q.N.length = t4.Q.N.length + j ∧ RdS W0 w' g pk a c xs na nc t) (μ := fun a' _ => n13 - (intOf (a'.eval (.tmp 6))).toNat) ⟨0, numS xs 1 t4, na, nc, by omega, h212, by rw [hsF]; rfl, rfl, HC13.out⟩ ?_
    clear hsF HC13 HZ h212
    rintro aM wM ⟨j, t, na, nc, hj, hK, ht, hnl, hT⟩
    have HT := hid hT; have Ht := hid ht
    clear hT ht
    obtain ⟨nn, hnn⟩ : ∃ k, k = t.Q.N.length := ⟨_, rfl⟩
    have hnn9 : nn ≤ 2000 := by rw [hnn, hnl]; have := hN4.out; omega
    have HNN := hid hnn; have HNL := hid hnl
    clear hnn hnl
    by_cases hlt : j < n13
    · have hd0 : decide ((j : Int) < (n13 : Int)) = true := decide_eq_true (by omega)
      cases hno : t.no with
      | false =>
        go_step
        go_step
        go_step
        go_step
        refine wpk_val hK (wanted_none rfl) rfl (by decide) (fr rfl) (.int .i64 (j : Int)) (by unfold execOp; simp only [hK.eval (k := 6) (v := .int .i64 (j : Int)) (by simp)]; rfl) fun a215 h214 => ?_
        refine wpk_val h214 (wanted_none rfl) rfl (by decide) (fr rfl) (.int .i64 (n13 : Int)) (by unfold execOp; simp only [h214.eval (k := 5) (v := .int .i64 (n13 : Int)) (by simp)]; rfl) fun a217 h216 => ?_
        refine wpk_val h216 (wanted_none rfl) rfl (by decide) (fr rfl) (.bool true) (by unfold execOp; simp only [h216.eval (k := 85) (v := .int .i64 (j : Int)) (by simp), h216.eval (k := 86) (v := .int .i64 (n13 : Int)) (by simp)]; exact run_v (ltIb _ _ _ _ _ hd0)) fun a219 h218 => ?_
        refine wpk_val h218 (wanted_none rfl) rfl (by decide) (fr rfl) (.bool true) (by unfold execOp; simp only [h218.eval (k := 87) (v := .bool true) (by simp)]; rfl) fun a221 h220 => ?_
        refine wpk_val h220 (by rw [wanted_of (g := 3) (want := true) (b := true) rfl (h220.yields (prev := 88) rfl (by simp))]; rfl) rfl (by decide) (fr rfl) (.pointer (some ⟨g, 0, none⟩)) (by unfold execOp; simp only [h220.eval (k := 0) (v := .pointer (some ⟨g, 0, none⟩)) (by simp)]; rfl) fun a223 h222 => ?_
        refine wpk_val h222 (by rw [wanted_of (g := 3) (want := true) (b := true) rfl (h222.yields (prev := 88) rfl (by simp))]; rfl) rfl (by decide) (fr rfl) (.pointer (some ⟨g, 0, none⟩)) (by unfold execOp; simp only [h222.eval (k := 89) (v := .pointer (some ⟨g, 0, none⟩)) (by simp)]; exact rfl) fun a225 h224 => ?_
        refine wpk_val h224 (by rw [wanted_of (g := 3) (want := true) (b := true) rfl (h224.yields (prev := 88) rfl (by simp))]; rfl) rfl (by decide) (fr rfl) (.pointer (some ⟨g, 2, none⟩)) (by unfold execOp; simp only [h224.eval (k := 90) (v := .pointer (some ⟨g, 0, none⟩)) (by simp)]; exact run_v (fa_64_0_2 (g) _)) fun a227 h226 => ?_
        refine wpk_val h226 (by rw [wanted_of (g := 3) (want := true) (b := true) rfl (h226.yields (prev := 88) rfl (by simp))]; rfl) rfl (by decide) (fr rfl) (.bool false) (by unfold execOp; simp only [h226.eval (k := 91) (v := .pointer (some ⟨g, 2, none⟩)) (by simp)]; exact run_v (loadBo (by have z := HT.out.r.cell (i := 2) (by simp); rw [hno] at z; exact z))) fun a229 h228 => ?_
        refine wpk_val h228 (by rw [wanted_of (g := 3) (want := true) (b := true) rfl (h228.yields (prev := 88) rfl (by simp))]; rfl) rfl (by decide) (fr rfl) (.bool true) (run_not rfl (h228.eval (k := 92) (v := .bool false) (by simp))) fun a231 h230 => ?_
        refine wpk_val h230 (wanted_none rfl) rfl (by decide) (fr rfl) (.bool true) (run_pick rfl (h230.eval (k := 88) (v := .bool true) (by simp)) (by rw [if_pos rfl]; exact h230.eval (k := 93) (v := .bool true) (by simp))) fun a233 h232 => ?_
        have h234 := h232.subs (l' := [(94, .bool true), (6, .int .i64 (j : Int)), (5, .int .i64 (n13 : Int)), (4, .int .i64 ((4 : Nat) : Int)), (0, .pointer (some ⟨g, 0, none⟩)), (1, .pointer (some ⟨pk, 0, none⟩))]) rfl
        clear h232
        go_step
        go_step
        go_step
        refine wp_cond (t := true) (h234.eval (k := 94) (v := .bool true) (by simp)) ?_
        simp only [if_true]
        have h235 := h234.subs (l' := [(6, .int .i64 (j : Int)), (5, .int .i64 (n13 : Int)), (4, .int .i64 ((4 : Nat) : Int)), (0, .pointer (some ⟨g, 0, none⟩)), (1, .pointer (some ⟨pk, 0, none⟩))]) rfl
        clear h234
        go_step
        go_step
        go_step
        go_step
        go_step
        refine wp_region_held_drew (S := fun _ => True) (by kernel_rfl) trivial (fun hS19 => ?_)
        have HTd := hid HT.out.drewN
        refine wpk_take hS19 h235 0 rfl rfl (by decide) (fr rfl) (by kernel_rfl) (by kernel_rfl) (by kernel_rfl) (fun _ _ _ _ h => h) (.pointer (some ⟨pk, 0, none⟩)) (Or.inl ⟨Eq.refl true, fun w1 _ => (by show (execOp _ (⟨_, .move (.tmp 1), _, _, _, _⟩ : Oper)).run _ _ = _; exact (by unfold execOp; simp only [h235.eval (k := 1) (v := .pointer (some ⟨pk, 0, none⟩)) (by simp)]; exact rfl))⟩) fun a237 h236 => ?_
        refine wpk_take hS19 h236 1 rfl rfl (by decide) (fr rfl) (by kernel_rfl) (by kernel_rfl) (by kernel_rfl) (fun _ _ _ _ h => h) (.pointer (some ⟨pk, 0, none⟩)) (Or.inl ⟨Eq.refl true, fun w1 _ => (by show (execOp _ (⟨_, .move (.tmp 1), _, _, _, _⟩ : Oper)).run _ _ = _; exact (by unfold execOp; simp only [h236.eval (k := 1) (v := .pointer (some ⟨pk, 0, none⟩)) (by simp)]; exact rfl))⟩) fun a239 h238 => ?_
        refine wpk_take hS19 h238 2 rfl rfl (by decide) (fr rfl) (by kernel_rfl) (by kernel_rfl) (by kernel_rfl) (fun _ _ _ _ h => h) (.pointer (some ⟨pk, 0, none⟩)) (Or.inl ⟨Eq.refl true, fun w1 _ => (by show (execOp _ (⟨_, .nilCheck (.tmp 98), _, _, _, _⟩ : Oper)).run _ _ = _; exact (by unfold execOp; simp only [h238.eval (k := 98) (v := .pointer (some ⟨pk, 0, none⟩)) (by simp)]; exact rfl))⟩) fun a241 h240 => ?_
        refine wpk_take hS19 h240 3 rfl rfl (by decide) (fr rfl) (by kernel_rfl) (by kernel_rfl) (by kernel_rfl) (fun _ _ _ _ h => h) (.pointer (some ⟨pk, 20, none⟩)) (Or.inl ⟨Eq.refl true, fun w1 _ => (by show (execOp _ (⟨_, .fieldAddr 35 (.tmp 99) 13, _, _, _, _⟩ : Oper)).run _ _ = _; exact (by unfold execOp; simp only [h240.eval (k := 99) (v := .pointer (some ⟨pk, 0, none⟩)) (by simp)]; exact run_v (fa_35_0_13 (pk) _)))⟩) fun a243 h242 => ?_
        refine wpk_take hS19 h242 4 rfl rfl (by decide) (fr rfl) (by kernel_rfl) (by kernel_rfl) (by kernel_rfl) (fun _ _ _ _ h => h) (.pointer (some ⟨pk, 23, none⟩)) (Or.inl ⟨Eq.refl true, fun w1 _ => (by show (execOp _ (⟨_, .fieldAddr 29 (.tmp 100) 3, _, _, _, _⟩ : Oper)).run _ _ = _; exact (by unfold execOp; simp only [h242.eval (k := 100) (v := .pointer (some ⟨pk, 20, none⟩)) (by simp)]; exact run_v (fa_29_20_3 (pk) _)))⟩) fun a245 h244 => ?_
        refine wpk_take hS19 h244 6 rfl rfl (by decide) (fr rfl) (by kernel_rfl) (by kernel_rfl) (by kernel_rfl) (fun _ _ _ _ h => h) (.pointer (some ⟨g, 0, none⟩)) (Or.inl ⟨Eq.refl true, fun w1 _ => (by show (execOp _ (⟨_, .move (.tmp 0), _, _, _, _⟩ : Oper)).run _ _ = _; exact (by unfold execOp; simp only [h244.eval (k := 0) (v := .pointer (some ⟨g, 0, none⟩)) (by simp)]; exact rfl))⟩) fun a247 h246 => ?_
        refine wpk_two 5 7 rfl rfl rfl rfl (by kernel_rfl) (fun K hK => op_val (w' := wM.drew) h246 rfl (by decide) (fr rfl) (.slice na nn nc) (by show (execOp _ (⟨_, .load 25 (.tmp 101), _, _, _, _⟩ : Oper)).run _ _ = _; exact (by unfold execOp; simp only [h246.eval (k := 101) (v := .pointer (some ⟨pk, 23, none⟩)) (by simp)]; exact run_v (loadN (by have z := HTd.out.p.cell (i := 23) (by show 23 < 43; omega); rw [HNN.out]; exact z)))) fun a249 h248 => hK _ _ trivial fun hSl => ?_) (fun K hK => op_call h246 rfl (by decide) (fr rfl) (fun args => call_26 args _) rfl #[.pointer (some ⟨g, 0, none⟩), .int .i64 1] (by simp only [List.map_toArray, List.map_cons, List.map_nil, h246.eval (k := 103) (v := .pointer (some ⟨g, 0, none⟩)) (by simp)]; rfl) (R := fun v w' => ∃ tx : List UInt8, v = .string (bsW tx) ∧ tx = (rtext xs t.at_ t.no 1).1 ∧ RdS W0 w' g pk a c xs na nc (txtS xs 1 t)) (HTd.out.text HR0.out hg hl 1 (by decide)) fun a251 v14 wc14 hr14 h250 => hK _ _ trivial fun hSc => ?_)
        · clear hK K
          refine wpk_only 7 rfl rfl (by kernel_rfl) fun K hK => op_call h248 rfl (by decide) (fr rfl) (fun args => call_26 args _) rfl #[.pointer (some ⟨g, 0, none⟩), .int .i64 1] (by simp only [List.map_toArray, List.map_cons, List.map_nil, h248.eval (k := 103) (v := .pointer (some ⟨g, 0, none⟩)) (by simp)]; rfl) (R := fun v w' => ∃ tx : List UInt8, v = .string (bsW tx) ∧ tx = (rtext xs t.at_ t.no 1).1 ∧ RdS W0 w' g pk a c xs na nc (txtS xs 1 t)) (HTd.out.text HR0.out hg hl 1 (by decide)) fun a253 v15 wc15 hr15 h252 => hK _ _ trivial fun hSc => ?_
          clear hK K
          obtain ⟨n15, rfl, e15, q15⟩ := hr15
          have HC15 := hid q15; have EN15 := hid e15
          clear q15 e15
          refine wpk_only 8 rfl rfl (by kernel_rfl) fun K hK => op_val (w' := (wc15.alloc (.cells #[.string (bsW n15)] 9))) h252 rfl (by decide) (fr rfl) (.slice (some ⟨wc15.heap.size, 0, none⟩) 1 1) (by show (execOp _ (⟨_, .buildSlice 25 1 #[(0, (.tmp 104))], _, _, _, _⟩ : Oper)).run _ _ = _; exact (by unfold execOp; simp only [List.map_toArray, List.map_cons, List.map_nil, h252.eval (k := 104) (v := .string (bsW n15)) (by simp)]; exact run_v (buildStr _ _))) fun a255 h254 => hK _ _ trivial fun hSb => ?_
          clear hK K
          have R6 := hid (row_new1 wc15 (.string (bsW n15)) 9); have H6 := hid (HC15.out.alloc (.cells #[.string (bsW n15)] 9))
          have O6 : Hid (Own (wc15.alloc (.cells #[.string (bsW n15)] 9)) W0.heap.size 9 1 na nn nc (t.Q.N.map strV)) := hid (by rw [HNN.out]; exact H6.out.n)
          refine wpk_only 9 rfl rfl (by kernel_rfl) fun K hK => op_append h254 rfl (by decide) (fr rfl) (.tmp 102) (.tmp 105) rfl ESW W0.heap.size (h254.eval (k := 102) (v := .slice na nn nc) (by simp)) (h254.eval (k := 105) (v := .slice (some ⟨wc15.heap.size, 0, none⟩) 1 1) (by simp)) O6.out R6.out (by intro u hu; simp only [List.mem_cons, List.not_mem_nil, or_false] at hu; subst hu; rfl) (by omega) (by omega) H6.out.b.size fun a257 na2 nc2 w5 o5 g5 b5 h256 => hK _ _ trivial fun hSa => ?_
          clear hK K
          refine wpk_take hSa h256 10 rfl rfl (by decide) (fr rfl) (by kernel_rfl) (by kernel_rfl) (by kernel_rfl) (fun _ _ _ _ h => h) (.pointer (some ⟨pk, 0, none⟩)) (Or.inl ⟨Eq.refl true, fun w1 _ => (by show (execOp _ (⟨_, .nilCheck (.tmp 97), _, _, _, _⟩ : Oper)).run _ _ = _; exact (by unfold execOp; simp only [h256.eval (k := 97) (v := .pointer (some ⟨pk, 0, none⟩)) (by simp)]; exact rfl))⟩) fun a259 h258 => ?_
          refine wpk_take hSa h258 11 rfl rfl (by decide) (fr rfl) (by kernel_rfl) (by kernel_rfl) (by kernel_rfl) (fun _ _ _ _ h => h) (.pointer (some ⟨pk, 20, none⟩)) (Or.inl ⟨Eq.refl true, fun w1 _ => (by show (execOp _ (⟨_, .fieldAddr 35 (.tmp 107) 13, _, _, _, _⟩ : Oper)).run _ _ = _; exact (by unfold execOp; simp only [h258.eval (k := 107) (v := .pointer (some ⟨pk, 0, none⟩)) (by simp)]; exact run_v (fa_35_0_13 (pk) _)))⟩) fun a261 h260 => ?_
          refine wpk_take hSa h260 12 rfl rfl (by decide) (fr rfl) (by kernel_rfl) (by kernel_rfl) (by kernel_rfl) (fun _ _ _ _ h => h) (.pointer (some ⟨pk, 23, none⟩)) (Or.inl ⟨Eq.refl true, fun w1 _ => (by show (execOp _ (⟨_, .fieldAddr 29 (.tmp 108) 3, _, _, _, _⟩ : Oper)).run _ _ = _; exact (by unfold execOp; simp only [h260.eval (k := 108) (v := .pointer (some ⟨pk, 20, none⟩)) (by simp)]; exact run_v (fa_29_20_3 (pk) _)))⟩) fun a263 h262 => ?_
          obtain ⟨w6, hw6⟩ : ∃ w', w' = w5.setCell ⟨pk, 23, none⟩ (.slice na2 (nn + 1) nc2) := ⟨_, rfl⟩
          have K5 := hid (H6.out.grown1 (by have z := g5; rw [HNN.out] at z; exact z))
          refine wpk_only 13 rfl rfl (by kernel_rfl) fun K hK => op_skip h262 rfl (w' := w6) (by show (execOp _ (⟨_, .store 25 (.tmp 109) (.tmp 106), _, _, _, _⟩ : Oper)).run _ _ = _; exact (by rw [hw6]; unfold execOp; simp only [h262.eval (k := 109) (v := .pointer (some ⟨pk, 23, none⟩)) (by simp), h262.eval (k := 106) (v := .slice na2 (nn + 1) nc2) (by simp)]; exact run_u (storeN (K5.out.2.cell (i := 23) (by show 23 < 43; omega)) (K5.out.2.frozen 23) _ _ _))) fun a265 h264 => hK _ _ trivial fun _ => ?_
          clear hK K
          have HT2 : Hid (RdS W0 w6 g pk a c xs na2 nc2 (textR xs t)) := hid (by rw [hw6]; exact RdS.grow K5.out.1 K5.out.2 o5 (H6.out.b.trans b5) H6.out.at_ hpk HNN.out EN15.out)
          refine wpAnyH_done (by kernel_rfl) ?_ _
          have h266 := h264.subs (l' := [(6, .int .i64 (j : Int)), (5, .int .i64 (n13 : Int)), (4, .int .i64 ((4 : Nat) : Int)), (0, .pointer (some ⟨g, 0, none⟩)), (1, .pointer (some ⟨pk, 0, none⟩))]) rfl
          clear h264
          go_step
          go_step
          go_step
          refine wpk_val h266 (wanted_none rfl) rfl (by decide) (fr rfl) (.int .i64 (j : Int)) (by unfold execOp; simp only [h266.eval (k := 6) (v := .int .i64 (j : Int)) (by simp)]; rfl) fun a268 h267 => ?_
          refine wpk_val h267 (wanted_none rfl) rfl (by decide) (fr rfl) (.int .i64 ((j + 1 : Nat) : Int)) (by unfold execOp; simp only [h267.eval (k := 95) (v := .int .i64 (j : Int)) (by simp)]; exact run_v (addI1 _ _ j (by omega) _)) fun a270 h269 => ?_
          have h271 := h269.subs (l' := [(96, .int .i64 ((j + 1 : Nat) : Int)), (95, .int .i64 (j : Int)), (5, .int .i64 (n13 : Int)), (4, .int .i64 ((4 : Nat) : Int)), (0, .pointer (some ⟨g, 0, none⟩)), (1, .pointer (some ⟨pk, 0, none⟩))]) rfl
          clear h269
          refine wpk_val h271 (wanted_none rfl) rfl (by decide) (fr rfl) (.int .i64 ((j + 1 : Nat) : Int)) (by unfold execOp; simp only [h271.eval (k := 96) (v := .int .i64 ((j + 1 : Nat) : Int)) (by simp)]; rfl) fun a273 h272 => ?_
          have h274 := h272.subs (l' := [(6, .int .i64 ((j + 1 : Nat) : Int)), (5, .int .i64 (n13 : Int)), (4, .int .i64 ((4 : Nat) : Int)), (0, .pointer (some ⟨g, 0, none⟩)), (1, .pointer (some ⟨pk, 0, none⟩))]) rfl
          clear h272
          go_step
          go_step
          refine ⟨⟨j + 1, textR xs t, na2, nc2, by omega, h274, ?_, ?_, HT2.out⟩, ?_⟩
          · rw [Ht.out, show n13 - j = (n13 - (j + 1)) + 1 by omega]; show (if t.no = true then t else namesR xs (n13 - (j + 1)) (textR xs t)) = _; rw [if_neg (by rw [hno]; decide)]
          · show (t.Q.N ++ [_]).length = _; rw [List.length_append, HNL.out]; rfl
          · rw [h274.eval (k := 6) (v := .int .i64 ((j + 1 : Nat) : Int)) (by simp), hK.eval (k := 6) (v := .int .i64 (j : Int)) (by simp)]; simp [intOf]; omega
        · clear hK K
          obtain ⟨n14, rfl, e14, q14⟩ := hr14
          have HC14 := hid q14; have EN14 := hid e14
          clear q14 e14
          refine wpk_two 5 8 rfl rfl rfl rfl (by kernel_rfl) (fun K hK => op_val (w' := wc14) h250 rfl (by decide) (fr rfl) (.slice na nn nc) (by show (execOp _ (⟨_, .load 25 (.tmp 101), _, _, _, _⟩ : Oper)).run _ _ = _; exact (by unfold execOp; simp only [h250.eval (k := 101) (v := .pointer (some ⟨pk, 23, none⟩)) (by simp)]; exact run_v (loadN (by have z := HC14.out.p.cell (i := 23) (by show 23 < 43; omega); rw [HNN.out]; exact z)))) fun a276 h275 => hK _ _ trivial fun hSl => ?_) (fun K hK => op_val (w' := (wc14.alloc (.cells #[.string (bsW n14)] 9))) h250 rfl (by decide) (fr rfl) (.slice (some ⟨wc14.heap.size, 0, none⟩) 1 1) (by show (execOp _ (⟨_, .buildSlice 25 1 #[(0, (.tmp 104))], _, _, _, _⟩ : Oper)).run _ _ = _; exact (by unfold execOp; simp only [List.map_toArray, List.map_cons, List.map_nil, h250.eval (k := 104) (v := .string (bsW n14)) (by simp)]; exact run_v (buildStr _ _))) fun a278 h277 => hK _ _ trivial fun hSb => ?_)
          · clear hK K
            refine wpk_only 8 rfl rfl (by kernel_rfl) fun K hK => op_val (w' := (wc14.alloc (.cells #[.string (bsW n14)] 9))) h275 rfl (by decide) (fr rfl) (.slice (some ⟨wc14.heap.size, 0, none⟩) 1 1) (by show (execOp _ (⟨_, .buildSlice 25 1 #[(0, (.tmp 104))], _, _, _, _⟩ : Oper)).run _ _ = _; exact (by unfold execOp; simp only [List.map_toArray, List.map_cons, List.map_nil, h275.eval (k := 104) (v := .string (bsW n14)) (by simp)]; exact run_v (buildStr _ _))) fun a280 h279 => hK _ _ trivial fun hSb => ?_
            clear hK K
            have R6 := hid (row_new1 wc14 (.string (bsW n14)) 9); have H6 := hid (HC14.out.alloc (.cells #[.string (bsW n14)] 9))
            have O6 : Hid (Own (wc14.alloc (.cells #[.string (bsW n14)] 9)) W0.heap.size 9 1 na nn nc (t.Q.N.map strV)) := hid (by rw [HNN.out]; exact H6.out.n)
            refine wpk_only 9 rfl rfl (by kernel_rfl) fun K hK => op_append h279 rfl (by decide) (fr rfl) (.tmp 102) (.tmp 105) rfl ESW W0.heap.size (h279.eval (k := 102) (v := .slice na nn nc) (by simp)) (h279.eval (k := 105) (v := .slice (some ⟨wc14.heap.size, 0, none⟩) 1 1) (by simp)) O6.out R6.out (by intro u hu; simp only [List.mem_cons, List.not_mem_nil, or_false] at hu; subst hu; rfl) (by omega) (by omega) H6.out.b.size fun a282 na2 nc2 w5 o5 g5 b5 h281 => hK _ _ trivial fun hSa => ?_
            clear hK K
            refine wpk_take hSa h281 10 rfl rfl (by decide) (fr rfl) (by kernel_rfl) (by kernel_rfl) (by kernel_rfl) (fun _ _ _ _ h => h) (.pointer (some ⟨pk, 0, none⟩)) (Or.inl ⟨Eq.refl true, fun w1 _ => (by show (execOp _ (⟨_, .nilCheck (.tmp 97), _, _, _, _⟩ : Oper)).run _ _ = _; exact (by unfold execOp; simp only [h281.eval (k := 97) (v := .pointer (some ⟨pk, 0, none⟩)) (by simp)]; exact rfl))⟩) fun a284 h283 => ?_
            refine wpk_take hSa h283 11 rfl rfl (by decide) (fr rfl) (by kernel_rfl) (by kernel_rfl) (by kernel_rfl) (fun _ _ _ _ h => h) (.pointer (some ⟨pk, 20, none⟩)) (Or.inl ⟨Eq.refl true, fun w1 _ => (by show (execOp _ (⟨_, .fieldAddr 35 (.tmp 107) 13, _, _, _, _⟩ : Oper)).run _ _ = _; exact (by unfold execOp; simp only [h283.eval (k := 107) (v := .pointer (some ⟨pk, 0, none⟩)) (by simp)]; exact run_v (fa_35_0_13 (pk) _)))⟩) fun a286 h285 => ?_
            refine wpk_take hSa h285 12 rfl rfl (by decide) (fr rfl) (by kernel_rfl) (by kernel_rfl) (by kernel_rfl) (fun _ _ _ _ h => h) (.pointer (some ⟨pk, 23, none⟩)) (Or.inl ⟨Eq.refl true, fun w1 _ => (by show (execOp _ (⟨_, .fieldAddr 29 (.tmp 108) 3, _, _, _, _⟩ : Oper)).run _ _ = _; exact (by unfold execOp; simp only [h285.eval (k := 108) (v := .pointer (some ⟨pk, 20, none⟩)) (by simp)]; exact run_v (fa_29_20_3 (pk) _)))⟩) fun a288 h287 => ?_
            obtain ⟨w6, hw6⟩ : ∃ w', w' = w5.setCell ⟨pk, 23, none⟩ (.slice na2 (nn + 1) nc2) := ⟨_, rfl⟩
            have K5 := hid (H6.out.grown1 (by have z := g5; rw [HNN.out] at z; exact z))
            refine wpk_only 13 rfl rfl (by kernel_rfl) fun K hK => op_skip h287 rfl (w' := w6) (by show (execOp _ (⟨_, .store 25 (.tmp 109) (.tmp 106), _, _, _, _⟩ : Oper)).run _ _ = _; exact (by rw [hw6]; unfold execOp; simp only [h287.eval (k := 109) (v := .pointer (some ⟨pk, 23, none⟩)) (by simp), h287.eval (k := 106) (v := .slice na2 (nn + 1) nc2) (by simp)]; exact run_u (storeN (K5.out.2.cell (i := 23) (by show 23 < 43; omega)) (K5.out.2.frozen 23) _ _ _))) fun a290 h289 => hK _ _ trivial fun _ => ?_
            clear hK K
            have HT2 : Hid (RdS W0 w6 g pk a c xs na2 nc2 (textR xs t)) := hid (by rw [hw6]; exact RdS.grow K5.out.1 K5.out.2 o5 (H6.out.b.trans b5) H6.out.at_ hpk HNN.out EN14.out)
            refine wpAnyH_done (by kernel_rfl) ?_ _
            have h291 := h289.subs (l' := [(6, .int .i64 (j : Int)), (5, .int .i64 (n13 : Int)), (4, .int .i64 ((4 : Nat) : Int)), (0, .pointer (some ⟨g, 0, none⟩)), (1, .pointer (some ⟨pk, 0, none⟩))]) rfl
            clear h289
            go_step
            go_step
            go_step
            refine wpk_val h291 (wanted_none rfl) rfl (by decide) (fr rfl) (.int .i64 (j : Int)) (by unfold execOp; simp only [h291.eval (k := 6) (v := .int .i64 (j : Int)) (by simp)]; rfl) fun a293 h292 => ?_
            refine wpk_val h292 (wanted_none rfl) rfl (by decide) (fr rfl) (.int .i64 ((j + 1 : Nat) : Int)) (by unfold execOp; simp only [h292.eval (k := 95) (v := .int .i64 (j : Int)) (by simp)]; exact run_v (addI1 _ _ j (by omega) _)) fun a295 h294 => ?_
            have h296 := h294.subs (l' := [(96, .int .i64 ((j + 1 : Nat) : Int)), (95, .int .i64 (j : Int)), (5, .int .i64 (n13 : Int)), (4, .int .i64 ((4 : Nat) : Int)), (0, .pointer (some ⟨g, 0, none⟩)), (1, .pointer (some ⟨pk, 0, none⟩))]) rfl
            clear h294
            refine wpk_val h296 (wanted_none rfl) rfl (by decide) (fr rfl) (.int .i64 ((j + 1 : Nat) : Int)) (by unfold execOp; simp only [h296.eval (k := 96) (v := .int .i64 ((j + 1 : Nat) : Int)) (by simp)]; rfl) fun a298 h297 => ?_
            have h299 := h297.subs (l' := [(6, .int .i64 ((j + 1 : Nat) : Int)), (5, .int .i64 (n13 : Int)), (4, .int .i64 ((4 : Nat) : Int)), (0, .pointer (some ⟨g, 0, none⟩)), (1, .pointer (some ⟨pk, 0, none⟩))]) rfl
            clear h297
            go_step
            go_step
            refine ⟨⟨j + 1, textR xs t, na2, nc2, by omega, h299, ?_, ?_, HT2.out⟩, ?_⟩
            · rw [Ht.out, show n13 - j = (n13 - (j + 1)) + 1 by omega]; show (if t.no = true then t else namesR xs (n13 - (j + 1)) (textR xs t)) = _; rw [if_neg (by rw [hno]; decide)]
            · show (t.Q.N ++ [_]).length = _; rw [List.length_append, HNL.out]; rfl
            · rw [h299.eval (k := 6) (v := .int .i64 ((j + 1 : Nat) : Int)) (by simp), hK.eval (k := 6) (v := .int .i64 (j : Int)) (by simp)]; simp [intOf]; omega
          · clear hK K
            have R6 := hid (row_new1 wc14 (.string (bsW n14)) 9); have H6 := hid (HC14.out.alloc (.cells #[.string (bsW n14)] 9))
            have O6 : Hid (Own (wc14.alloc (.cells #[.string (bsW n14)] 9)) W0.heap.size 9 1 na nn nc (t.Q.N.map strV)) := hid (by rw [HNN.out]; exact H6.out.n)
            refine wpk_only 5 rfl rfl (by kernel_rfl) fun K hK => op_val (w' := (wc14.alloc (.cells #[.string (bsW n14)] 9))) h277 rfl (by decide) (fr rfl) (.slice na nn nc) (by show (execOp _ (⟨_, .load 25 (.tmp 101), _, _, _, _⟩ : Oper)).run _ _ = _; exact (by unfold execOp; simp only [h277.eval (k := 101) (v := .pointer (some ⟨pk, 23, none⟩)) (by simp)]; exact run_v (loadN (by have z := H6.out.p.cell (i := 23) (by show 23 < 43; omega); rw [HNN.out]; exact z)))) fun a301 h300 => hK _ _ trivial fun hSl => ?_
            clear hK K
            refine wpk_only 9 rfl rfl (by kernel_rfl) fun K hK => op_append h300 rfl (by decide) (fr rfl) (.tmp 102) (.tmp 105) rfl ESW W0.heap.size (h300.eval (k := 102) (v := .slice na nn nc) (by simp)) (h300.eval (k := 105) (v := .slice (some ⟨wc14.heap.size, 0, none⟩) 1 1) (by simp)) O6.out R6.out (by intro u hu; simp only [List.mem_cons, List.not_mem_nil, or_false] at hu; subst hu; rfl) (by omega) (by omega) H6.out.b.size fun a303 na2 nc2 w5 o5 g5 b5 h302 => hK _ _ trivial fun hSa => ?_
            clear hK K
            refine wpk_take hSa h302 10 rfl rfl (by decide) (fr rfl) (by kernel_rfl) (by kernel_rfl) (by kernel_rfl) (fun _ _ _ _ h => h) (.pointer (some ⟨pk, 0, none⟩)) (Or.inl ⟨Eq.refl true, fun w1 _ => (by show (execOp _ (⟨_, .nilCheck (.tmp 97), _, _, _, _⟩ : Oper)).run _ _ = _; exact (by unfold execOp; simp only [h302.eval (k := 97) (v := .pointer (some ⟨pk, 0, none⟩)) (by simp)]; exact rfl))⟩) fun a305 h304 => ?_
            refine wpk_take hSa h304 11 rfl rfl (by decide) (fr rfl) (by kernel_rfl) (by kernel_rfl) (by kernel_rfl) (fun _ _ _ _ h => h) (.pointer (some ⟨pk, 20, none⟩)) (Or.inl ⟨Eq.refl true, fun w1 _ => (by show (execOp _ (⟨_, .fieldAddr 35 (.tmp 107) 13, _, _, _, _⟩ : Oper)).run _ _ = _; exact (by unfold execOp; simp only [h304.eval (k := 107) (v := .pointer (some ⟨pk, 0, none⟩)) (by simp)]; exact run_v (fa_35_0_13 (pk) _)))⟩) fun a307 h306 => ?_
            refine wpk_take hSa h306 12 rfl rfl (by decide) (fr rfl) (by kernel_rfl) (by kernel_rfl) (by kernel_rfl) (fun _ _ _ _ h => h) (.pointer (some ⟨pk, 23, none⟩)) (Or.inl ⟨Eq.refl true, fun w1 _ => (by show (execOp _ (⟨_, .fieldAddr 29 (.tmp 108) 3, _, _, _, _⟩ : Oper)).run _ _ = _; exact (by unfold execOp; simp only [h306.eval (k := 108) (v := .pointer (some ⟨pk, 20, none⟩)) (by simp)]; exact run_v (fa_29_20_3 (pk) _)))⟩) fun a309 h308 => ?_
            obtain ⟨w6, hw6⟩ : ∃ w', w' = w5.setCell ⟨pk, 23, none⟩ (.slice na2 (nn + 1) nc2) := ⟨_, rfl⟩
            have K5 := hid (H6.out.grown1 (by have z := g5; rw [HNN.out] at z; exact z))
            refine wpk_only 13 rfl rfl (by kernel_rfl) fun K hK => op_skip h308 rfl (w' := w6) (by show (execOp _ (⟨_, .store 25 (.tmp 109) (.tmp 106), _, _, _, _⟩ : Oper)).run _ _ = _; exact (by rw [hw6]; unfold execOp; simp only [h308.eval (k := 109) (v := .pointer (some ⟨pk, 23, none⟩)) (by simp), h308.eval (k := 106) (v := .slice na2 (nn + 1) nc2) (by simp)]; exact run_u (storeN (K5.out.2.cell (i := 23) (by show 23 < 43; omega)) (K5.out.2.frozen 23) _ _ _))) fun a311 h310 => hK _ _ trivial fun _ => ?_
            clear hK K
            have HT2 : Hid (RdS W0 w6 g pk a c xs na2 nc2 (textR xs t)) := hid (by rw [hw6]; exact RdS.grow K5.out.1 K5.out.2 o5 (H6.out.b.trans b5) H6.out.at_ hpk HNN.out EN14.out)
            refine wpAnyH_done (by kernel_rfl) ?_ _
            have h312 := h310.subs (l' := [(6, .int .i64 (j : Int)), (5, .int .i64 (n13 : Int)), (4, .int .i64 ((4 : Nat) : Int)), (0, .pointer (some ⟨g, 0, none⟩)), (1, .pointer (some ⟨pk, 0, none⟩))]) rfl
            clear h310
            go_step
            go_step
            go_step
            refine wpk_val h312 (wanted_none rfl) rfl (by decide) (fr rfl) (.int .i64 (j : Int)) (by unfold execOp; simp only [h312.eval (k := 6) (v := .int .i64 (j : Int)) (by simp)]; rfl) fun a314 h313 => ?_
            refine wpk_val h313 (wanted_none rfl) rfl (by decide) (fr rfl) (.int .i64 ((j + 1 : Nat) : Int)) (by unfold execOp; simp only [h313.eval (k := 95) (v := .int .i64 (j : Int)) (by simp)]; exact run_v (addI1 _ _ j (by omega) _)) fun a316 h315 => ?_
            have h317 := h315.subs (l' := [(96, .int .i64 ((j + 1 : Nat) : Int)), (95, .int .i64 (j : Int)), (5, .int .i64 (n13 : Int)), (4, .int .i64 ((4 : Nat) : Int)), (0, .pointer (some ⟨g, 0, none⟩)), (1, .pointer (some ⟨pk, 0, none⟩))]) rfl
            clear h315
            refine wpk_val h317 (wanted_none rfl) rfl (by decide) (fr rfl) (.int .i64 ((j + 1 : Nat) : Int)) (by unfold execOp; simp only [h317.eval (k := 96) (v := .int .i64 ((j + 1 : Nat) : Int)) (by simp)]; rfl) fun a319 h318 => ?_
            have h320 := h318.subs (l' := [(6, .int .i64 ((j + 1 : Nat) : Int)), (5, .int .i64 (n13 : Int)), (4, .int .i64 ((4 : Nat) : Int)), (0, .pointer (some ⟨g, 0, none⟩)), (1, .pointer (some ⟨pk, 0, none⟩))]) rfl
            clear h318
            go_step
            go_step
            refine ⟨⟨j + 1, textR xs t, na2, nc2, by omega, h320, ?_, ?_, HT2.out⟩, ?_⟩
            · rw [Ht.out, show n13 - j = (n13 - (j + 1)) + 1 by omega]; show (if t.no = true then t else namesR xs (n13 - (j + 1)) (textR xs t)) = _; rw [if_neg (by rw [hno]; decide)]
            · show (t.Q.N ++ [_]).length = _; rw [List.length_append, HNL.out]; rfl
            · rw [h320.eval (k := 6) (v := .int .i64 ((j + 1 : Nat) : Int)) (by simp), hK.eval (k := 6) (v := .int .i64 (j : Int)) (by simp)]; simp [intOf]; omega
      | true =>
        have hfin : sF = t := by rw [Ht.out]; exact namesR_stop hno _
        go_step
        go_step
        go_step
        go_step
        refine wpk_val hK (wanted_none rfl) rfl (by decide) (fr rfl) (.int .i64 (j : Int)) (by unfold execOp; simp only [hK.eval (k := 6) (v := .int .i64 (j : Int)) (by simp)]; rfl) fun a322 h321 => ?_
        refine wpk_val h321 (wanted_none rfl) rfl (by decide) (fr rfl) (.int .i64 (n13 : Int)) (by unfold execOp; simp only [h321.eval (k := 5) (v := .int .i64 (n13 : Int)) (by simp)]; rfl) fun a324 h323 => ?_
        refine wpk_val h323 (wanted_none rfl) rfl (by decide) (fr rfl) (.bool true) (by unfold execOp; simp only [h323.eval (k := 85) (v := .int .i64 (j : Int)) (by simp), h323.eval (k := 86) (v := .int .i64 (n13 : Int)) (by simp)]; exact run_v (ltIb _ _ _ _ _ hd0)) fun a326 h325 => ?_
        refine wpk_val h325 (wanted_none rfl) rfl (by decide) (fr rfl) (.bool true) (by unfold execOp; simp only [h325.eval (k := 87) (v := .bool true) (by simp)]; rfl) fun a328 h327 => ?_
        refine wpk_val h327 (by rw [wanted_of (g := 3) (want := true) (b := true) rfl (h327.yields (prev := 88) rfl (by simp))]; rfl) rfl (by decide) (fr rfl) (.pointer (some ⟨g, 0, none⟩)) (by unfold execOp; simp only [h327.eval (k := 0) (v := .pointer (some ⟨g, 0, none⟩)) (by simp)]; rfl) fun a330 h329 => ?_
        refine wpk_val h329 (by rw [wanted_of (g := 3) (want := true) (b := true) rfl (h329.yields (prev := 88) rfl (by simp))]; rfl) rfl (by decide) (fr rfl) (.pointer (some ⟨g, 0, none⟩)) (by unfold execOp; simp only [h329.eval (k := 89) (v := .pointer (some ⟨g, 0, none⟩)) (by simp)]; exact rfl) fun a332 h331 => ?_
        refine wpk_val h331 (by rw [wanted_of (g := 3) (want := true) (b := true) rfl (h331.yields (prev := 88) rfl (by simp))]; rfl) rfl (by decide) (fr rfl) (.pointer (some ⟨g, 2, none⟩)) (by unfold execOp; simp only [h331.eval (k := 90) (v := .pointer (some ⟨g, 0, none⟩)) (by simp)]; exact run_v (fa_64_0_2 (g) _)) fun a334 h333 => ?_
        refine wpk_val h333 (by rw [wanted_of (g := 3) (want := true) (b := true) rfl (h333.yields (prev := 88) rfl (by simp))]; rfl) rfl (by decide) (fr rfl) (.bool true) (by unfold execOp; simp only [h333.eval (k := 91) (v := .pointer (some ⟨g, 2, none⟩)) (by simp)]; exact run_v (loadBo (by have z := HT.out.r.cell (i := 2) (by simp); rw [hno] at z; exact z))) fun a336 h335 => ?_
        refine wpk_val h335 (by rw [wanted_of (g := 3) (want := true) (b := true) rfl (h335.yields (prev := 88) rfl (by simp))]; rfl) rfl (by decide) (fr rfl) (.bool false) (run_not rfl (h335.eval (k := 92) (v := .bool true) (by simp))) fun a338 h337 => ?_
        refine wpk_val h337 (wanted_none rfl) rfl (by decide) (fr rfl) (.bool false) (run_pick rfl (h337.eval (k := 88) (v := .bool true) (by simp)) (by rw [if_pos rfl]; exact h337.eval (k := 93) (v := .bool false) (by simp))) fun a340 h339 => ?_
        have h341 := h339.subs (l' := [(94, .bool false), (6, .int .i64 (j : Int)), (5, .int .i64 (n13 : Int)), (4, .int .i64 ((4 : Nat) : Int)), (0, .pointer (some ⟨g, 0, none⟩)), (1, .pointer (some ⟨pk, 0, none⟩))]) rfl
        clear h339
        go_step
        go_step
        go_step
        refine wp_cond (t := false) (h341.eval (k := 94) (v := .bool false) (by simp)) ?_
        simp only [Bool.false_eq_true, if_false]
        have h342 := h341.subs (l' := [(6, .int .i64 (j : Int)), (5, .int .i64 (n13 : Int)), (4, .int .i64 ((4 : Nat) : Int)), (0, .pointer (some ⟨g, 0, none⟩)), (1, .pointer (some ⟨pk, 0, none⟩))]) rfl
        clear h341
        go_step
        go_step
        go_step
        go_step
        show bodyPost _ _ _ Exit.normal _ _
        refine bodyPost_norm (results_none rfl _ _ _) h342.defs ?_
        exact ⟨_, rfl, na, nc, rfl, by rw [HFIN.out, hfin]; exact HT.out⟩
    · have hd0 : decide ((j : Int) < (n13 : Int)) = false := decide_eq_false (by omega)
      have hfin : sF = t := by rw [Ht.out, show n13 - j = 0 by omega]; rfl
      go_step
      go_step
      go_step
      go_step
      refine wpk_val hK (wanted_none rfl) rfl (by decide) (fr rfl) (.int .i64 (j : Int)) (by unfold execOp; simp only [hK.eval (k := 6) (v := .int .i64 (j : Int)) (by simp)]; rfl) fun a344 h343 => ?_
      refine wpk_val h343 (wanted_none rfl) rfl (by decide) (fr rfl) (.int .i64 (n13 : Int)) (by unfold execOp; simp only [h343.eval (k := 5) (v := .int .i64 (n13 : Int)) (by simp)]; rfl) fun a346 h345 => ?_
      refine wpk_val h345 (wanted_none rfl) rfl (by decide) (fr rfl) (.bool false) (by unfold execOp; simp only [h345.eval (k := 85) (v := .int .i64 (j : Int)) (by simp), h345.eval (k := 86) (v := .int .i64 (n13 : Int)) (by simp)]; exact run_v (ltIb _ _ _ _ _ hd0)) fun a348 h347 => ?_
      refine wpk_val h347 (wanted_none rfl) rfl (by decide) (fr rfl) (.bool false) (by unfold execOp; simp only [h347.eval (k := 87) (v := .bool false) (by simp)]; rfl) fun a350 h349 => ?_
      refine wpk_skip h349 (by rw [wanted_of (g := 3) (want := true) (b := false) rfl (h349.yields (prev := 88) rfl (by simp))]; rfl) rfl (by decide) (fr rfl) fun a352 h351 => ?_
      refine wpk_skip h351 (by rw [wanted_of (g := 3) (want := true) (b := false) rfl (h351.yields (prev := 88) rfl (by simp))]; rfl) rfl (by decide) (fr rfl) fun a354 h353 => ?_
      refine wpk_skip h353 (by rw [wanted_of (g := 3) (want := true) (b := false) rfl (h353.yields (prev := 88) rfl (by simp))]; rfl) rfl (by decide) (fr rfl) fun a356 h355 => ?_
      refine wpk_skip h355 (by rw [wanted_of (g := 3) (want := true) (b := false) rfl (h355.yields (prev := 88) rfl (by simp))]; rfl) rfl (by decide) (fr rfl) fun a358 h357 => ?_
      refine wpk_skip h357 (by rw [wanted_of (g := 3) (want := true) (b := false) rfl (h357.yields (prev := 88) rfl (by simp))]; rfl) rfl (by decide) (fr rfl) fun a360 h359 => ?_
      refine wpk_val h359 (wanted_none rfl) rfl (by decide) (fr rfl) (.bool false) (run_pick rfl (h359.eval (k := 88) (v := .bool false) (by simp)) rfl) fun a362 h361 => ?_
      have h363 := h361.subs (l' := [(94, .bool false), (6, .int .i64 (j : Int)), (5, .int .i64 (n13 : Int)), (4, .int .i64 ((4 : Nat) : Int)), (0, .pointer (some ⟨g, 0, none⟩)), (1, .pointer (some ⟨pk, 0, none⟩))]) rfl
      clear h361
      go_step
      go_step
      go_step
      refine wp_cond (t := false) (h363.eval (k := 94) (v := .bool false) (by simp)) ?_
      simp only [Bool.false_eq_true, if_false]
      have h364 := h363.subs (l' := [(6, .int .i64 (j : Int)), (5, .int .i64 (n13 : Int)), (4, .int .i64 ((4 : Nat) : Int)), (0, .pointer (some ⟨g, 0, none⟩)), (1, .pointer (some ⟨pk, 0, none⟩))]) rfl
      clear h363
      go_step
      go_step
      go_step
      go_step
      show bodyPost _ _ _ Exit.normal _ _
      refine bodyPost_norm (results_none rfl _ _ _) h364.defs ?_
      exact ⟨_, rfl, na, nc, rfl, by rw [HFIN.out, hfin]; exact HT.out⟩
end Go.Proofs.Ytanediaaidfcaaa
/- Pure and words for the document's Read. -/
namespace Go.Proofs.Ytanediaaidfcaaa
open Go.RowKit
set_option linter.unusedSimpArgs false
set_option linter.unusedVariables false

theorem okSum_eq (e t : List UInt8) (ht : t.length = 4) : okSumW (e ++ t) = decide (e ++ le 4 (crcF e) = e ++ t) := by
  rw [okSum_app e t ht]
  apply decide_eq_decide.2
  constructor
  · intro h
    have := ofLE_lew t
    rw [ht, h] at this
    rw [this]
  · intro h
    rw [← List.append_cancel_left h]
    exact le_ofLEw 4 _ (by have := crcF_lt e; omega)
/-- what a packet that was read has -/
structure OkQ (n : Nat) (Q : PkM) : Prop where
  small : smallP Q
  long : ∀ o, (Q.S o).length ≤ n
  names : ∀ s ∈ Q.N, s.length ≤ n
theorem rtext_len (xs : List UInt8) (at_ : Nat) (no : Bool) (k : Nat) : (rtext xs at_ no k).1.length ≤ xs.length := by
  unfold rtext
  split
  · exact Nat.zero_le _
  · show ((xs.drop _).take _).length ≤ _
    rw [List.length_take, List.length_drop]; omega
theorem OkQ.zero (n : Nat) : OkQ n P0z := ⟨fun o => by show (0 : Int) ≤ allI; unfold allI; omega, fun o => Nat.zero_le _, fun s hs => by cases hs⟩
theorem OkQ.namesR {xs : List UInt8} (k : Nat) {s : RS} (h : OkQ xs.length s.Q) : OkQ xs.length (Go.Proofs.Ytanediaaidfcaaa.namesR xs k s).Q ∧ (Go.Proofs.Ytanediaaidfcaaa.namesR xs k s).Q.N.length ≤ s.Q.N.length + k := by
  induction k generalizing s with
  | zero => exact ⟨h, Nat.le_refl _⟩
  | succ k ih =>
    unfold Go.Proofs.Ytanediaaidfcaaa.namesR
    split
    · exact ⟨h, by omega⟩
    · have h1 : OkQ xs.length (textR xs s).Q := ⟨h.small, h.long, fun t ht => by
        rcases List.mem_append.1 ht with q | q
        · exact h.names t q
        · rw [List.mem_singleton.1 q]; exact rtext_len ..⟩
      have h2 := ih h1
      refine ⟨h2.1, ?_⟩
      have h3 : (textR xs s).Q.N.length = s.Q.N.length + 1 := by show (s.Q.N ++ [_]).length = _; rw [List.length_append]; rfl
      omega
def isNm : Fld → Bool
  | .names => true
  | _ => false
theorem OkQ.step {xs : List UInt8} {s : RS} (h : OkQ xs.length s.Q) (f : Fld) : OkQ xs.length (stepR xs s f).Q ∧ (stepR xs s f).Q.N.length ≤ s.Q.N.length + (if isNm f = true then 255 else 0) := by
  cases f with
  | num w o lo hi =>
    refine ⟨⟨fun q => ?_, h.long, h.names⟩, by show s.Q.N.length ≤ _; omega⟩
    show (if q = o then _ else s.Q.I q) ≤ allI
    split
    · have := rnum_bd xs s.at_ s.no w; unfold allI; omega
    · exact h.small q
  | text w m o =>
    refine ⟨⟨h.small, fun q => ?_, h.names⟩, by show s.Q.N.length ≤ _; omega⟩
    show (if q = o then _ else s.Q.S q).length ≤ _
    split
    · exact rtext_len ..
    · exact h.long q
  | names =>
    have h1 : OkQ xs.length (⟨s.Q, (rnum xs s.at_ s.no 1).2.1, (rnum xs s.at_ s.no 1).2.2⟩ : RS).Q := h
    have h2 := h1.namesR (rnum xs s.at_ s.no 1).1
    refine ⟨h2.1, ?_⟩
    have := h2.2
    have h3 := rnum_bd1 xs s.at_ s.no
    show (Go.Proofs.Ytanediaaidfcaaa.namesR xs _ _).Q.N.length ≤ _
    rw [if_pos (by rfl)]
    exact Nat.le_trans this (Nat.add_le_add_left h3 _)
theorem OkQ.fold {xs : List UInt8} (fs : List Fld) {s : RS} (h : OkQ xs.length s.Q) : OkQ xs.length (fs.foldl (stepR xs) s).Q ∧ (fs.foldl (stepR xs) s).Q.N.length ≤ s.Q.N.length + 255 * (fs.filter isNm).length := by
  induction fs generalizing s with
  | nil => exact ⟨h, by simp⟩
  | cons f fs ih =>
    have h1 := h.step f
    have h2 := ih h1.1
    refine ⟨h2.1, ?_⟩
    have h3 := h2.2
    have h4 := h1.2
    show (fs.foldl (stepR xs) (stepR xs s f)).Q.N.length ≤ _
    by_cases hf : isNm f = true
    · rw [if_pos hf] at h4
      rw [List.filter_cons_of_pos hf, List.length_cons]
      omega
    · rw [if_neg hf] at h4
      rw [List.filter_cons_of_neg hf]
      omega
theorem head_ok (xs : List UInt8) : OkQ xs.length (headR xs).Q := (OkQ.fold (s := ⟨P0z, 0, false⟩) fHead (OkQ.zero _)).1
theorem docR_ok (xs : List UInt8) : OkQ xs.length (docR xs).Q ∧ (docR xs).Q.N.length ≤ 300 := by
  have h0 := head_ok xs
  have hN := head_N xs
  unfold docR
  split
  · have h := OkQ.fold (s := headR xs) (fRest ((headR xs).Q.I 0)) h0
    refine ⟨h.1, Nat.le_trans h.2 ?_⟩
    rw [hN]
    have : ((fRest ((headR xs).Q.I 0)).filter isNm).length ≤ 1 := by
      generalize (headR xs).Q.I 0 = k
      unfold fRest
      repeat' split
      all_goals decide
    show 0 + _ ≤ 300
    omega
  · exact ⟨h0, by rw [hN]; exact Nat.zero_le _⟩
theorem RdS.mono {W0 w w' : World} {g pk : Nat} {a : Option Addr} {c : Nat} {xs : List UInt8} {na : Option Addr} {nc : Nat} {s : RS} (h : RdS W0 w g pk a c xs na nc s) (b : Below w.heap.size w w') : RdS W0 w' g pk a c xs na nc s :=
  ⟨h.r.mono b, h.p.mono b, Own.mono h.n b, kept_trans h.b b, h.at_⟩
theorem wpk_enterH {P : Program} {ops : Array Oper} {Q : Exit → Act → World → Prop} {rest : List Oper} {a : Act} {w : World} {N : Nat} {l : List (Nat × Value)} (h : Kn N l a) (k : ∀ a', Kn N l a' → Hid (wpList P ops Q rest a' w)) : wpList P ops Q rest a w := (k a h).out
theorem run_lenB {o : Oper} {x : Operand} (ho : o.op = .call { callee := .builtin .len, args := #[x], argTypes := #[37] }) {ρ : Operand → Value} {a : Option Addr} {n c : Nat} (hx : ρ x = .slice a n c) (w : World) : (execOp ρ o).run Try.prog w = .ok (.value (.int .i64 (n : Int))) w := by
  unfold execOp; rw [ho]
  have u3 := Try.underlying37
  simp [resolve, invoke, builtin, hx]
  go_simp
theorem neqIb (x y : Operand) (v u : Int) (w : World) {b : Bool} (h : (v != u) = b) : (do eqGuard .neq 3 x y (.int .i64 v) (.int .i64 u); binOp .neq 3 (.int .i64 v) (.int .i64 u) : Sem Value).run Try.prog w = .ok (.bool b) w := by
  have u3 := Try.underlying3
  have a3 := Try.isAgg3
  have z3 := Try.sizeOf3
  subst h
  go_simp
theorem results_cell2k {P : Program} {fn : Func} {c u : Nat} {T : TypeId} (h : fn.results = #[.cell c T, .tmp u]) {tmps : Array Value} {w : World} {g : Nat} {e : TypeId} {L : List Value} {k : TypeDesc} {v : Value} (hc : tmps[c]? = some (.pointer (some ⟨g, 0, none⟩))) (hv : tmps[u]? = some v) (hb : Blk w g e L)
    (hu : P.underlying T = some k) (hk : k.isRow = true) (hn : (P.info? T).map (·.size) = some L.length) : (results fn tmps).run P w = .ok (.tuple #[.agg L.toArray, v]) w := by
  have h2 := results_cell2 (P := P) (w := w) h (by rw [Array.getD_eq_getD_getElem?, hc]; rfl) hb hu hk hn
  rw [Array.getD_eq_getD_getElem?, hv] at h2
  exact h2
end Go.Proofs.Ytanediaaidfcaaa
