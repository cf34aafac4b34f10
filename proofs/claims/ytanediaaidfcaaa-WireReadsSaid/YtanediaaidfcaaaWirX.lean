/- A packet kept whole; decode. -/
import Derived.Test.YtanediaaidfcaaaWirPb
import Derived.Test.YtanediaaidfcaaaWirMd
import Derived.Test.YtanediaaidfcaaaLibO
namespace Go.Proofs.Ytanediaaidfcaaa
open Go.RowKit
set_option linter.unusedSimpArgs false
set_option linter.unusedVariables false

theorem packetG_any {W0 w : World} {g pk : Nat} {a : Option Addr} {c : Nat} {xs : List UInt8} {s : RM} (h : RdP W0 w g pk a c xs none 0 0 s) (hE : emptyR s) (r0 : RowB W0 a c xs) (hg : W0.heap.size ≤ g) (hpk : W0.heap.size ≤ pk) (hl : xs.length ≤ 1000000) :
    Calls Try.prog 18 #[.pointer (some ⟨g, 0, none⟩), .pointer (some ⟨pk, 0, none⟩)] w fun e w' => e = .returned (.tuple #[]) ∧ NmP W0 w' g pk a c xs (rPacket xs s) ∧ Turns (fun x => x = g ∨ x = pk) w w' := by
  by_cases k1 : (rHead xs s).P.I 0 = 1
  · exact packetG_1 h hE r0 hg hpk hl k1
  by_cases k2 : (rHead xs s).P.I 0 = 2
  · exact packetG_2 h hE r0 hg hpk hl k2
  by_cases k3 : (rHead xs s).P.I 0 = 3
  · exact packetG_3 h hE r0 hg hpk hl k3
  by_cases k4 : (rHead xs s).P.I 0 = 4
  · exact packetG_4 h hE r0 hg hpk hl k4
  by_cases k5 : (rHead xs s).P.I 0 = 5
  · exact packetG_5 h hE r0 hg hpk hl k5
  exact packetG_none h hE r0 hg hpk hl (by unfold restF; rw [if_neg k1, if_neg k2, if_neg k3, if_neg k4, if_neg k5])

theorem infoPk : (Try.prog.info? 35).map (·.size) = some 43 := by kernel_rfl
def litPk : Array Value := #[.int .i64 0, .int .i64 0, .int .i64 0, .int .i64 0, .int .i64 0, .int .i64 0, .int .i64 0, .string ⟨#[]⟩, .int .i64 0, .int .i64 0, .int .i64 0, .string ⟨#[]⟩, .string ⟨#[]⟩,
   .int .i64 0, .int .i64 0, .int .i64 0, .int .i64 0, .string ⟨#[]⟩, .int .i64 0, .int .i64 0, .int .i64 0, .int .i64 0, .string ⟨#[]⟩, .slice none 0 0, .int .i64 0, .int .i64 0, .int .i64 0,
   .int .i64 0, .int .i64 0, .int .i64 0, .int .i64 0, .int .i64 0, .int .i64 0, .int .i64 0, .int .i64 0, .int .i64 0, .int .i64 0, .int .i64 0, .int .i64 0, .int .i64 0, .int .i64 0, .int .i64 0, .int .i64 0]
theorem litPk_eq : litPk = (pkC P0z none 0 0).toArray := rfl
theorem pkC_one (P : PkM) (a : Option Addr) (n c : Nat) : ∀ v ∈ pkC P a n c, v.oneCell' = true := by
  intro v hv
  have : ((pkC P a n c).all fun v => v.oneCell') = true := rfl
  exact List.all_eq_true.1 this v hv
theorem run_allocPk {o : Oper} (ho : o.op = .alloc 35) (ρ : Operand → Value) (w : World) : (execOp ρ o).run Try.prog w = .ok (.value (.pointer (some ⟨w.heap.size, 0, none⟩))) (w.alloc (.cells litPk 35)) := by
  unfold execOp; rw [ho]; kernel_rfl
theorem run_buildPk {o : Oper} (ho : o.op = .build 35 #[]) (ρ : Operand → Value) (w : World) : (execOp ρ o).run Try.prog w = .ok (.value (.agg litPk)) w := by
  unfold execOp; rw [ho]; kernel_rfl
/-- a new packet -/
theorem wpl_allocPk {w : World} {ops : Array Oper} {rest : List Oper} {o : Oper} {act : Act} {Q : Exit → Act → World → Prop} (hgd : o.guard = none) (ho : o.op = .alloc 35)
    (h : ∀ w', Blk w' w.heap.size 35 (pkC P0z none 0 0) → Below w.heap.size w w' → w'.heap.size = w.heap.size + 1 → wpList Try.prog ops Q rest (act.put o.dst (.pointer (some ⟨w.heap.size, 0, none⟩))) w') : wpList Try.prog ops Q (o :: rest) act w := by
  refine wpl_runTo hgd _ _ (run_allocPk ho _ w) ?_
  exact h _ (by rw [litPk_eq]; exact blk_newO rfl _ _) (albO _ _) (by simp)
/-- the empty packet -/
theorem wpl_buildPk {w : World} {ops : Array Oper} {rest : List Oper} {o : Oper} {act : Act} {Q : Exit → Act → World → Prop} (hgd : o.guard = none) (ho : o.op = .build 35 #[])
    (h : wpList Try.prog ops Q rest (act.put o.dst (.agg (pkC P0z none 0 0).toArray)) w) : wpList Try.prog ops Q (o :: rest) act w := by
  refine wpl_runTo hgd _ _ (run_buildPk ho _ w) ?_
  rw [litPk_eq]; exact h
theorem wpl_loadPk {w : World} {ops : Array Oper} {rest : List Oper} {o : Oper} {act : Act} {Q : Exit → Act → World → Prop} (hgd : o.guard = none) (x : Operand)
    (ho : o.op = .load 35 x) (g : Nat) (hx : act.eval x = .pointer (some ⟨g, 0, none⟩)) {e : TypeId} {P : PkM} {a : Option Addr} {n c : Nat} (hb : Blk w g e (pkC P a n c))
    (h : wpList Try.prog ops Q rest (act.put o.dst (.agg (pkC P a n c).toArray)) w) : wpList Try.prog ops Q (o :: rest) act w :=
  wpList_load_mid hgd 35 x ho g 0 hx (pkC P a n c) _ hb.range Try.underlying35 rfl (by rw [infoPk]; rfl) h
theorem wpl_storePk {w : World} {ops : Array Oper} {rest : List Oper} {o : Oper} {act : Act} {Q : Exit → Act → World → Prop} (hgd : o.guard = none) (x y : Operand)
    (ho : o.op = .store 35 x y) (g : Nat) (hx : act.eval x = .pointer (some ⟨g, 0, none⟩)) {e : TypeId} (P : PkM) (a : Option Addr) (n c : Nat) (hy : act.eval y = .agg (pkC P a n c).toArray) {L : List Value} (hb : Blk w g e L) (hL : L.length = 43)
    (h : ∀ w', Blk w' g e (pkC P a n c) → w.grownBy w' (some g) → wpList Try.prog ops Q rest (act.put o.dst undef) w') : wpList Try.prog ops Q (o :: rest) act w :=
  wpl_storeS hgd 35 x y ho g hx (pkC P a n c) hy (by rw [infoPk]; rfl) (pkC_one _ _ _ _) hb (by rw [hL]; rfl) h

theorem own_setK {w w' : World} {B g : Nat} {e t : TypeId} {sz : Nat} {a : Option Addr} {n c : Nat} {cs L : List Value} (h : Own w B e sz a n c cs) (hb : Blk w g t L) (G : w.grownBy w' (some g)) (hne : e ≠ t := by decide) : Own w' B e sz a n c cs := by
  rcases h.2 with ⟨hv, hn⟩ | ⟨k, cap, cur, hv, _, hk, _⟩
  · cases hv
    obtain rfl : cs = [] := List.eq_nil_of_length_eq_zero (by simpa using h.1)
    exact Own.nil _ _ _ _
  · cases hv
    refine h.staysO G (Or.inr ?_)
    intro q
    simp only [Value.ownBlock, Option.some.injEq] at q
    subst q
    unfold Blk at hb
    rw [hb] at hk
    simp only [Option.some.injEq, Obj.cells.injEq] at hk
    exact hne hk.2.1.symm
def dP (xs : List UInt8) : PkM := (decP xs).getD P0z
def dE (xs : List UInt8) : Int := if (decP xs).isSome then 0 else 2
/-- a packet that is told: its names are the call's own -/
def PkO (w w' : World) (P : PkM) (na : Option Addr) (nc : Nat) : Prop := Own w' w.heap.size 9 1 na P.N.length nc (P.N.map strV) ∧ Below w.heap.size w w'

set_option maxRecDepth 100000 in
set_option maxHeartbeats 1000000 in
theorem decode_any {w : World} {a : Option Addr} {c : Nat} {xs : List UInt8} (r0 : RowB w a c xs) (hl : xs.length ≤ 1000000) :
    Calls Try.prog 19 #[.slice a xs.length c] w fun e w' => ∃ na nc, e = .returned (.tuple #[.agg (pkC (dP xs) na (dP xs).N.length nc).toArray, .int .i64 (dE xs)]) ∧ PkO w w' (dP xs) na nc := by
  have hd := decP_of xs
  have hE0 : emptyR ⟨0, false, P0z⟩ := ⟨rfl, fun _ => rfl⟩
  have HG := fun (w3 : World) (cg pp : Nat) (h : RdP w w3 cg pp a c xs none 0 0 ⟨0, false, P0z⟩) h1 h2 => packetG_any h hE0 r0 h1 h2 hl
  unfold accR at hd
  generalize rPacket xs ⟨0, false, P0z⟩ = s at *
  obtain ⟨okb, hok⟩ : ∃ okb, decide (s.at_ = xs.length) = okb := ⟨_, rfl⟩
  rw [hok] at hd
  have HGG := hid HG; have R0 := hid r0
  clear r0 HG
  obtain ⟨sat, sno, sP⟩ := s
  simp only at hd hok
  have hne : ((sat : Int) != (xs.length : Int)) = !okb := by
    rw [← hok]
    by_cases e : sat = xs.length
    · rw [decide_eq_true e, e]; simp
    · rw [decide_eq_false e]; simp; omega
  clear hok
  have t1 : True := trivial
  have t2 : True := trivial
  cases hb : (!sno && okb) with
  | true =>
    obtain ⟨rfl, rfl⟩ : sno = false ∧ okb = true := by cases sno <;> cases okb <;> simp at hb ⊢
    simp only [Bool.not_false, Bool.true_and, if_true] at hd
    have e1 : dP xs = sP := by unfold dP; rw [hd]; rfl
    have e2 : dE xs = 0 := by unfold dE; rw [hd]; rfl
    rw [e1, e2]
    clear hd hb e1 e2
    go_enter Try.func19, Try.ntmps19
    go_wp2_with (first
      | (have _t := t1; (with_reducible refine wpl_allocPk rfl rfl ?_); clear t1; intro w1 k1 b1 s1; have K1 := hid k1; have B1 := hid b1; clear k1 b1)
      | (have _t := t2; (with_reducible refine wpl_allocPk rfl rfl ?_); clear t2; intro w2 k2 b2 s2; have K2 := hid k2; have B2 := hid b2; clear k2 b2))
    have kc : Blk w2 w1.heap.size 52 [.bool false, .slice a xs.length c, .int .i64 0, .bool false] := (blk_newO rfl _ _ : Blk (w1.alloc (.cells _ 52)) w1.heap.size 52 [.bool false, .slice a xs.length c, .int .i64 0, .bool false]).mono B2.out
    have bw : Below w.heap.size w w2 := (kept_alloc B1.out _).trans (B2.out.mono (kept_alloc B1.out _).size)
    have hsz : (w1.alloc (.cells #[.bool false, .slice a xs.length c, .int .i64 0, .bool false] 52)).heap.size = w.heap.size + 1 + 1 := by simp; omega
    rw [hsz] at K2
    rw [s1] at kc
    have BW := hid bw
    have z0 : Blk w2 w.heap.size 35 (pkC P0z none 0 0) := (K1.out.mono (albO w1 _)).mono B2.out
    have Z0 := hid z0
    refine (HGG.out w2 _ _ ⟨kc, ⟨Nat.zero_le _, fun _ => Nat.zero_le _⟩, K2.out, bw⟩ (by omega) (by omega)).mono ?_
    rintro e w3 ⟨rfl, ⟨na, nc, ⟨q1, q2, q3, q4⟩, q5⟩, t3⟩
    have x2 := (show Blk w3 (w.heap.size + 1) 52 _ from q1).cell (i := 2) (by simp)
    have x3 := (show Blk w3 (w.heap.size + 1) 52 _ from q1).cell (i := 3) (by simp)
    simp only [List.getElem_cons_zero, List.getElem_cons_succ] at x2 x3
    have Z3 := hid (t3.blk Z0.out (by omega)); have Q3 := hid q3; have Q4 := hid q4; have Q5 := hid q5
    clear kc bw z0 q1 q2 q3 q4 q5 t3 s2 hsz
    go_wp2_with (first
      | (with_reducible refine wpl_loadPk rfl _ rfl _ rfl Q3.out ?_)
      | ((with_reducible refine wpl_storePk rfl _ _ rfl w.heap.size rfl sP na sP.N.length nc rfl Z3.out rfl ?_); intro w4 k4 g4; have K4 := hid k4; have G4 := hid g4; clear k4 g4))
    refine bodyPost_ret (results_cell2 rfl rfl K4.out Try.underlying35 rfl (by rw [infoPk]; rfl)) rfl ?_
    refine ⟨na, nc, rfl, own_setK Q5.out Z3.out G4.out, below_grownS Q4.out G4.out (Nat.le_refl _) Q4.out.size⟩
  | false =>
    rw [hb, if_neg (by simp)] at hd
    have e1 : dP xs = P0z := by unfold dP; rw [hd]; rfl
    have e2 : dE xs = 2 := by unfold dE; rw [hd]; rfl
    rw [e1, e2]
    have hor : sno = true ∨ (sno = false ∧ okb = false) := by cases sno <;> cases okb <;> simp at hb ⊢
    clear hd e1 e2
    clear hb
    rcases hor with rfl | ⟨rfl, rfl⟩
    all_goals
      go_enter Try.func19, Try.ntmps19
      go_wp2_with (first
        | (have _t := t1; (with_reducible refine wpl_allocPk rfl rfl ?_); clear t1; intro w1 k1 b1 s1; have K1 := hid k1; have B1 := hid b1; clear k1 b1)
        | (have _t := t2; (with_reducible refine wpl_allocPk rfl rfl ?_); clear t2; intro w2 k2 b2 s2; have K2 := hid k2; have B2 := hid b2; clear k2 b2))
      have kc : Blk w2 w1.heap.size 52 [.bool false, .slice a xs.length c, .int .i64 0, .bool false] := (blk_newO rfl _ _ : Blk (w1.alloc (.cells _ 52)) w1.heap.size 52 [.bool false, .slice a xs.length c, .int .i64 0, .bool false]).mono B2.out
      have bw : Below w.heap.size w w2 := (kept_alloc B1.out _).trans (B2.out.mono (kept_alloc B1.out _).size)
      have hsz : (w1.alloc (.cells #[.bool false, .slice a xs.length c, .int .i64 0, .bool false] 52)).heap.size = w.heap.size + 1 + 1 := by simp; omega
      rw [hsz] at K2
      rw [s1] at kc
      have BW := hid bw
      have z0 : Blk w2 w.heap.size 35 (pkC P0z none 0 0) := (K1.out.mono (albO w1 _)).mono B2.out
      have Z0 := hid z0
      refine (HGG.out w2 _ _ ⟨kc, ⟨Nat.zero_le _, fun _ => Nat.zero_le _⟩, K2.out, bw⟩ (by omega) (by omega)).mono ?_
      rintro e w3 ⟨rfl, ⟨na, nc, ⟨q1, q2, q3, q4⟩, q5⟩, t3⟩
      have x2 := (show Blk w3 (w.heap.size + 1) 52 _ from q1).cell (i := 2) (by simp)
      have x3 := (show Blk w3 (w.heap.size + 1) 52 _ from q1).cell (i := 3) (by simp)
      simp only [List.getElem_cons_zero, List.getElem_cons_succ] at x2 x3
      have Z3 := hid (t3.blk Z0.out (by omega)); have Q3 := hid q3; have Q4 := hid q4; have Q5 := hid q5
      clear kc bw z0 q1 q2 q3 q4 q5 t3 s2 hsz
      go_wp2_with (first
        | (with_reducible refine wpl_buildPk rfl rfl ?_)
        | ((with_reducible refine wpl_storePk rfl _ _ rfl w.heap.size rfl P0z none 0 0 rfl Z3.out rfl ?_); intro w4 k4 g4; have K4 := hid k4; have G4 := hid g4; clear k4 g4))
      refine bodyPost_ret (results_cell2 rfl rfl K4.out Try.underlying35 rfl (by rw [infoPk]; rfl)) rfl ?_
      refine ⟨none, 0, rfl, Own.nil _ _ _ _, below_grownS Q4.out G4.out (Nat.le_refl _) Q4.out.size⟩
end Go.Proofs.Ytanediaaidfcaaa
