/- Merged: TxnA TxnB. -/
import Derived.Test.YtcackliabemecaaGreatDoorPlgMf
/- A transaction, pure: patches over bytes; what Store and Commit leave. -/
namespace Go.Proofs.YtcackliabemecaaGreatDoor
open Go.RowKit
set_option linter.unusedSimpArgs false
set_option linter.unusedVariables false
set_option maxRecDepth 100000

/-- a patch over bytes that begin at a place -/
def ovlB (at_ : Int) (b : List UInt8) (p : PtM) : List UInt8 := (List.range b.length).map fun (i : Nat) => if p.at_ ≤ at_ + (i : Int) ∧ at_ + (i : Int) < p.at_ + p.d.length then p.d.getD (at_ + (i : Int) - p.at_).toNat 0 else b.getD i 0
def ovl (at_ : Int) (b : List UInt8) (P : List PtM) : List UInt8 := P.foldl (ovlB at_) b
theorem ovlB_len (at_ : Int) (b : List UInt8) (p : PtM) : (ovlB at_ b p).length = b.length := by unfold ovlB; rw [List.length_map, List.length_range]
theorem ovl_len (at_ : Int) (b : List UInt8) (P : List PtM) : (ovl at_ b P).length = b.length := by
  unfold ovl
  induction P generalizing b with
  | nil => rfl
  | cons p P ih => rw [List.foldl_cons, ih, ovlB_len]
theorem ovlB_get {at_ : Int} {b : List UInt8} {p : PtM} {i : Nat} (h : i < b.length) : (ovlB at_ b p).getD i 0 = if p.at_ ≤ at_ + (i : Int) ∧ at_ + (i : Int) < p.at_ + p.d.length then p.d.getD (at_ + (i : Int) - p.at_).toNat 0 else b.getD i 0 := by
  unfold ovlB
  rw [List.getD_eq_getElem?_getD, List.getElem?_map, List.getElem?_range h]
  rfl
/-- the code copies the part of the patch that lies there -/
theorem ovl_copy {at_ : Int} {b : List UInt8} {p : PtM} {fr to : Int} (hf : fr = max at_ p.at_) (ht : to = min (at_ + b.length) (p.at_ + p.d.length)) (h : fr < to) :
    splice b (fr - at_).toNat ((p.d.drop (fr - p.at_).toNat).take (to - fr).toNat) = ovlB at_ b p := by
  have hl : ((p.d.drop (fr - p.at_).toNat).take (to - fr).toNat).length = (to - fr).toNat := by rw [List.length_take, List.length_drop]; omega
  have hb : (fr - at_).toNat + ((p.d.drop (fr - p.at_).toNat).take (to - fr).toNat).length ≤ b.length := by rw [hl]; omega
  refine list8_ext (by rw [length_splice _ _ _ hb, ovlB_len]) fun i hi => ?_
  rw [ovlB_len] at hi
  rw [getD_splice _ _ _ hb, ovlB_get hi, hl]
  by_cases hc : (fr - at_).toNat ≤ i ∧ i < (fr - at_).toNat + (to - fr).toNat
  · rw [if_pos hc, if_pos (by omega)]
    simp only [List.getD_eq_getElem?_getD, List.getElem?_take, List.getElem?_drop, if_pos (show i - (fr - at_).toNat < (to - fr).toNat by omega)]
    congr 2
    omega
  · rw [if_neg hc, if_neg (by omega)]
theorem ovl_none {at_ : Int} {b : List UInt8} {p : PtM} {fr to : Int} (hf : fr = max at_ p.at_) (ht : to = min (at_ + b.length) (p.at_ + p.d.length)) (h : ¬ fr < to) : ovlB at_ b p = b := by
  refine list8_ext (ovlB_len _ _ _) fun i hi => ?_
  rw [ovlB_get hi, if_neg (by omega)]
/-- the document lays byte after byte -/
theorem ovl_zero (at_ : Int) (b : List UInt8) (p : PtM) : ovlB at_ b ⟨p.at_, p.d.take 0⟩ = b := by
  refine list8_ext (ovlB_len _ _ _) fun i hi => ?_
  rw [ovlB_get hi]
  dsimp only
  rw [if_neg (by rw [List.take_zero]; show ¬ (_ ∧ _ < _ + ((0 : Nat) : Int)); omega)]
theorem ovl_step {at_ : Int} {b : List UInt8} {p : PtM} {k : Nat} (hk : k < p.d.length) : ovlB at_ b ⟨p.at_, p.d.take (k + 1)⟩ = if 0 ≤ p.at_ + k - at_ ∧ p.at_ + k - at_ < b.length then (ovlB at_ b ⟨p.at_, p.d.take k⟩).set (p.at_ + k - at_).toNat p.d[k] else ovlB at_ b ⟨p.at_, p.d.take k⟩ := by
  have l1 : (p.d.take (k + 1)).length = k + 1 := by rw [List.length_take]; omega
  have l0 : (p.d.take k).length = k := by rw [List.length_take]; omega
  by_cases hx : 0 ≤ p.at_ + k - at_ ∧ p.at_ + k - at_ < b.length
  · rw [if_pos hx]
    refine list8_ext (by rw [List.length_set, ovlB_len, ovlB_len]) fun i hi => ?_
    rw [List.length_set, ovlB_len] at hi
    rw [ovlB_get hi]
    dsimp only
    rw [l1]
    by_cases hi2 : i = (p.at_ + k - at_).toNat
    · subst hi2
      rw [if_pos (by omega)]
      simp only [List.getD_eq_getElem?_getD]
      rw [List.getElem?_set_self (by rw [ovlB_len]; omega)]
      rw [List.getElem?_take, if_pos (by omega), show (at_ + (((p.at_ + k - at_).toNat : Nat) : Int) - p.at_).toNat = k by omega, List.getElem?_eq_getElem hk]
    · have e : ((ovlB at_ b ⟨p.at_, p.d.take k⟩).set (p.at_ + k - at_).toNat p.d[k]).getD i 0 = (ovlB at_ b ⟨p.at_, p.d.take k⟩).getD i 0 := by
        simp only [List.getD_eq_getElem?_getD]
        rw [List.getElem?_set_ne (by omega)]
      rw [e, ovlB_get hi]
      dsimp only
      rw [l0]
      by_cases hc : p.at_ ≤ at_ + (i : Int) ∧ at_ + (i : Int) < p.at_ + (k : Nat)
      · rw [if_pos (by omega), if_pos hc]
        simp only [List.getD_eq_getElem?_getD, List.getElem?_take]
        rw [if_pos (by omega), if_pos (by omega)]
      · rw [if_neg (by omega), if_neg hc]
  · rw [if_neg hx]
    refine list8_ext (by rw [ovlB_len, ovlB_len]) fun i hi => ?_
    rw [ovlB_len] at hi
    rw [ovlB_get hi, ovlB_get hi]
    dsimp only
    rw [l1, l0]
    by_cases hc : p.at_ ≤ at_ + (i : Int) ∧ at_ + (i : Int) < p.at_ + (k : Nat)
    · rw [if_pos (by omega), if_pos hc]
      simp only [List.getD_eq_getElem?_getD, List.getElem?_take]
      rw [if_pos (by omega), if_pos (by omega)]
    · rw [if_neg (by omega), if_neg hc]
/-- what Load tells -/
def loadT (V : List UInt8) (M : MemM) (P : List PtM) (at_ n : Int) : List UInt8 := if inM M at_ n = true then ovl at_ ((V.drop at_.toNat).take n.toNat) P else []
/-- what Store says and leaves -/
def okT (M : MemM) (P : List PtM) (at_ : Int) (n : Nat) : Bool := decide (n ≤ 256 ∧ P.length < 64 ∧ 0 ≤ at_ ∧ at_ + n ≤ M.V.length)
def putT (M : MemM) (P : List PtM) (at_ : Int) (d : List UInt8) : List PtM := if okT M P at_ d.length = true then P ++ [⟨at_, d⟩] else P
def errT (M : MemM) (P : List PtM) (at_ : Int) (n : Nat) : Int := if okT M P at_ n = true then 0 else 1
/-- what Commit says and leaves -/
def comE (M : MemM) (P : List PtM) : Int := if P = [] then 0 else appE M 512 512 P
def comM (M : MemM) (P : List PtM) : MemM := if P = [] then M else if appE M 512 512 P = 0 then redoM (appM M 512 512 P) 512 512 else M
def comP (M : MemM) (P : List PtM) : List PtM := if P = [] then [] else if appE M 512 512 P = 0 then [] else P
/-- patches that a transaction keeps -/
structure TxOk (M : MemM) (P : List PtM) : Prop where
  n : P.length ≤ 64
  i : ∀ p ∈ P, 0 ≤ p.at_ ∧ p.at_ + p.d.length ≤ M.V.length ∧ p.d.length ≤ 256
theorem TxOk.nil (M : MemM) : TxOk M [] := ⟨Nat.zero_le _, fun p hp => by cases hp⟩
theorem TxOk.put {M : MemM} {P : List PtM} (h : TxOk M P) (at_ : Int) (d : List UInt8) : TxOk M (putT M P at_ d) := by
  unfold putT
  split
  · next q =>
    unfold okT at q
    rw [decide_eq_true_iff] at q
    refine ⟨by rw [List.length_append]; show P.length + 1 ≤ _; omega, fun p hp => ?_⟩
    rcases List.mem_append.1 hp with z | z
    · exact h.i p z
    · rw [List.mem_singleton.1 z]; dsimp only; omega
  · exact h
theorem TxOk.pts {M : MemM} {P : List PtM} (h : TxOk M P) (hl : M.V.length ≤ 1048576) : okPts P ∧ (∀ p ∈ P, p.d.length ≤ 1000000) := by
  refine ⟨fun p hp => ?_, fun p hp => ?_⟩
  · have := h.i p hp; unfold okI; omega
  · have := h.i p hp; omega
theorem comM_len (M : MemM) (P : List PtM) : (comM M P).V.length = M.V.length := by
  unfold comM; split
  · rfl
  · split
    · rw [redoM_len, appM_len]
    · rfl
theorem TxOk.congr {M M' : MemM} {P : List PtM} (h : TxOk M P) (e : M'.V.length = M.V.length) : TxOk M' P := ⟨h.n, fun p hp => by rw [e]; exact h.i p hp⟩
theorem TxOk.com {M : MemM} {P : List PtM} (h : TxOk M P) : TxOk (comM M P) (comP M P) := by
  refine TxOk.congr (M := M) ?_ (comM_len M P)
  unfold comP; split
  · exact TxOk.nil M
  · split
    · exact TxOk.nil M
    · exact h
end Go.Proofs.YtcackliabemecaaGreatDoor
/- txn.New, Drop. -/
namespace Go.Proofs.YtcackliabemecaaGreatDoor
open Go.RowKit
set_option linter.unusedSimpArgs false
set_option linter.unusedVariables false
set_option maxRecDepth 100000

def txC (g lg : Nat) (ta : Option Addr) (n tc : Nat) : List Value := [.pointer (some ⟨g, 0, none⟩), .pointer (some ⟨lg, 0, none⟩), .slice ta n tc]
set_option maxHeartbeats 4000000 in
theorem newT_any (w : World) (g lg : Nat) : Calls Tryz.prog 18 #[.pointer (some ⟨g, 0, none⟩), .pointer (some ⟨lg, 0, none⟩)] w fun e w' => ∃ tg, e = .returned (.pointer (some ⟨tg, 0, none⟩)) ∧ Blk w' tg 69 (txC g lg none 0 0) ∧ w.heap.size ≤ tg ∧ Below w.heap.size w w' := by
  go_enter Tryz.func18, Tryz.ntmps18
  go_wp2
  go_ret
  exact ⟨_, rfl, blk_newO rfl _ _, Nat.le_refl _, albO w _⟩
theorem loadPtsP {w : World} {g off : Nat} {q : Option Addr} {n c : Nat} (h : w.cell? ⟨g, off, none⟩ = some (.slice q n c)) : (Instr.loadAt 44 (.pointer (some ⟨g, off, none⟩))).run Tryz.prog w = .ok (.slice q n c) w := by
  have u3 := Tryz.underlying44
  have a3 := Tryz.isAgg44
  have z3 := Tryz.sizeOf44
  go_simp
set_option maxHeartbeats 4000000 in
theorem drop_any {w : World} {tg g lg n tc : Nat} {ta : Option Addr} (h : Blk w tg 69 (txC g lg ta n tc)) : Calls Tryz.prog 12 #[.pointer (some ⟨tg, 0, none⟩)] w fun e w' => (∃ x, e = .returned x) ∧ Blk w' tg 69 (txC g lg none 0 0) ∧ Turns (fun k => k = tg) w w' := by
  have c2 : w.cell? ⟨tg, 2, none⟩ = some (.slice ta n tc) := h.cell (i := 2) (by show 2 < 3; omega)
  have f2 := h.frozen 2
  have HB := hid h
  go_enter Tryz.func12, Tryz.ntmps12
  go_wp2
  go_end0
  exact ⟨⟨_, rfl⟩, HB.out.set 2 _, (Turns.refl (fun k => k = tg) w).setCell (p := ⟨tg, 2, none⟩) rfl _⟩
theorem ownPt_empty (w : World) : OwnPt (w.alloc (.cells #[] 47)) w.heap.size (some ⟨w.heap.size, 0, none⟩) 0 [] := by
  refine ⟨rfl, .inr ⟨w.heap.size, 0, #[], rfl, Nat.le_refl _, ?_, Nat.le_refl _, Nat.zero_le _, rfl, rfl⟩⟩
  exact heap_alloc_new w _
set_option maxHeartbeats 2000000 in
theorem clonePts_any {w : World} {a : Option Addr} {c : Nat} {P : List PtM} (h : RowPt w a c P) (hl : P.length ≤ 1000) :
    Calls Tryz.prog 34 #[.slice a P.length c] w fun e w' => ∃ la lc, e = .returned (.slice la P.length lc) ∧ OwnPt w' w.heap.size la lc P ∧ Below w.heap.size w w' := by
  have qT : ∀ (w : World) (a : Option Addr) (n c n' c' : Nat), (binOp .eql 44 (.slice a n c) (.slice none n' c')).run Tryz.prog w = .ok (.bool a.isNone) w := fun w a n c n' c' => Lib.run_eql_slice_nil w _ _ a n c n' c' Tryz.underlying44
  cases a with
  | none =>
    have hc : c = 0 := h.2.2.2.1 rfl
    have hl : P = [] := List.eq_nil_of_length_eq_zero (by have := h.2.1; omega)
    subst hl
    clear h hc
    go_enter Tryz.func34, Tryz.ntmps34
    go_wp2
    go_ret
    exact ⟨none, 0, rfl, Own.nil _ _ _ _, Below.refl _ _⟩
  | some ad =>
    have HO := hid (ownPt_empty w)
    have HR := hid (h.mono (albO w (.cells #[] 47)))
    have B0 := hid (albO w (.cells #[] 47))
    clear h
    go_enter Tryz.func34, Tryz.ntmps34
    go_wp2_with (at_builtin; (refine wpl_append rfl (.tmp 5) (.tmp 6) rfl EPt w.heap.size rfl rfl HO.out HR.out (pts_one P) (by show (0 + _) * 24 ≤ _; omega) (by show 0 + _ ≤ _; omega) (by simp) ?_); intro a2 c2 w2 o2 g2 b2; have O2 := hid o2; have B2 := hid (B0.out.trans b2); clear o2 g2 b2)
    go_ret
    exact ⟨a2, c2, by simp, by have := O2.out; simpa using this, B2.out⟩
set_option maxHeartbeats 2000000 in
theorem patches_any {w : World} {tg g lg tc : Nat} {ta : Option Addr} {P : List PtM} (h : Blk w tg 69 (txC g lg ta P.length tc)) (hr : RowPt w ta tc P) (hl : P.length ≤ 1000) :
    Calls Tryz.prog 15 #[.pointer (some ⟨tg, 0, none⟩)] w fun e w' => ∃ la lc, e = .returned (.slice la P.length lc) ∧ OwnPt w' w.heap.size la lc P ∧ Below w.heap.size w w' := by
  have c2 : w.cell? ⟨tg, 2, none⟩ = some (.slice ta P.length tc) := h.cell (i := 2) (by show 2 < 3; omega)
  have HC := hid (clonePts_any hr hl)
  clear h hr
  go_enter Tryz.func15, Tryz.ntmps15
  go_wp2_with (go_at_call 34; refine HC.out.mono ?_; rintro e w1 ⟨la, lc, rfl, o1, b1⟩; have O1 := hid o1; have B1 := hid b1; clear o1 b1)
  go_ret
  exact ⟨la, lc, rfl, O1.out, B1.out⟩
section
variable {P : Program} {ops : Array Oper} {Q : Exit → Act → World → Prop} {md : Region.Mode} {S : World → Prop} {oi : Oper} {fuel : Nat} {listed : Array Bool} {a : Act} {w : World} {N : Nat} {l : List (Nat × Value)} {d : Nat} {v0 v : Value}
theorem tk0 (hS : S w) (h : Kn N l a) (i k : Nat) (hi : ops[i]? = some oi) (hd : oi.dst = some d) (hdN : decide (d < N) = true) (hf : l.all (fun x => !(x.1 == d)) = true) (hr : (Region.noSelect ops && Region.free md ops listed i && (Region.ready md ops listed).contains i) = true) (hQ : ∀ c a w v, Q (.panic c) (a.put oi.dst v) w → Q (.panic c) a w) (hg : oi.guard = none) (hm : l.find? (fun y => y.1 == k) = some (k, v0))
    (hrun : ∀ w1, S w1 → a.eval (.tmp k) = v0 → (execOp a.eval oi).run P w1 = .ok (.value v) w1) (K : ∀ a', Kn N ((d, v) :: l) a' → wpAnyH P md ops Q S fuel (listed.setIfInBounds i true) a' w) : wpAnyH P md ops Q S (fuel + 1) listed a w := by
  rw [Bool.and_eq_true, Bool.and_eq_true] at hr
  exact wpk_take hS h i hi hd (of_decide_eq_true hdN) (fr hf) hr.1.1 hr.1.2 hr.2 hQ v (Or.inl ⟨wanted_none hg, fun w1 hSw => hrun w1 hSw (h.ev k hm)⟩) K
theorem tkm (hS : S w) (h : Kn N l a) (i k : Nat) (hi : ops[i]? = some oi) (hd : oi.dst = some d) (hdN : decide (d < N) = true) (hf : l.all (fun x => !(x.1 == d)) = true) (hr : (Region.noSelect ops && Region.free md ops listed i && (Region.ready md ops listed).contains i) = true) (hQ : ∀ c a w v, Q (.panic c) (a.put oi.dst v) w → Q (.panic c) a w) (hg : oi.guard = none)
    (ho : ∀ ρ : Operand → Value, execOp ρ oi = pure (.value (ρ (.tmp k)))) (hm : l.find? (fun y => y.1 == k) = some (k, v0)) (K : ∀ a', Kn N ((d, v0) :: l) a' → wpAnyH P md ops Q S fuel (listed.setIfInBounds i true) a' w) : wpAnyH P md ops Q S (fuel + 1) listed a w :=
  tk0 hS h i k hi hd hdN hf hr hQ hg hm (fun w1 _ e => by rw [ho, e]; rfl) K
theorem tkn {p : Addr} (hS : S w) (h : Kn N l a) (i k : Nat) (hi : ops[i]? = some oi) (hd : oi.dst = some d) (hdN : decide (d < N) = true) (hf : l.all (fun x => !(x.1 == d)) = true) (hr : (Region.noSelect ops && Region.free md ops listed i && (Region.ready md ops listed).contains i) = true) (hQ : ∀ c a w v, Q (.panic c) (a.put oi.dst v) w → Q (.panic c) a w) (hg : oi.guard = none)
    (ho : oi.op = .nilCheck (.tmp k)) (hm : l.find? (fun y => y.1 == k) = some (k, .pointer (some p))) (K : ∀ a', Kn N ((d, .pointer (some p)) :: l) a' → wpAnyH P md ops Q S fuel (listed.setIfInBounds i true) a' w) : wpAnyH P md ops Q S (fuel + 1) listed a w :=
  tk0 hS h i k hi hd hdN hf hr hQ hg hm (fun w1 _ e => by unfold execOp; rw [ho]; simp only [e]; rfl) K
theorem tkf {T : TypeId} {f : Nat} (hS : S w) (h : Kn N l a) (i k : Nat) (hi : ops[i]? = some oi) (hd : oi.dst = some d) (hdN : decide (d < N) = true) (hf : l.all (fun x => !(x.1 == d)) = true) (hr : (Region.noSelect ops && Region.free md ops listed i && (Region.ready md ops listed).contains i) = true) (hQ : ∀ c a w v, Q (.panic c) (a.put oi.dst v) w → Q (.panic c) a w) (hg : oi.guard = none)
    (ho : oi.op = .fieldAddr T (.tmp k) f) (hm : l.find? (fun y => y.1 == k) = some (k, v0)) (hfa : ∀ w, (Instr.fieldAt T v0 f).run P w = .ok v w) (K : ∀ a', Kn N ((d, v) :: l) a' → wpAnyH P md ops Q S fuel (listed.setIfInBounds i true) a' w) : wpAnyH P md ops Q S (fuel + 1) listed a w :=
  tk0 hS h i k hi hd hdN hf hr hQ hg hm (fun w1 _ e => by unfold execOp; rw [ho]; simp only [e]; exact run_v (hfa w1)) K
theorem tkl {T : TypeId} (hS : S w) (h : Kn N l a) (i k : Nat) (hi : ops[i]? = some oi) (hd : oi.dst = some d) (hdN : decide (d < N) = true) (hf : l.all (fun x => !(x.1 == d)) = true) (hr : (Region.noSelect ops && Region.free md ops listed i && (Region.ready md ops listed).contains i) = true) (hQ : ∀ c a w v, Q (.panic c) (a.put oi.dst v) w → Q (.panic c) a w) (hg : oi.guard = none)
    (ho : oi.op = .load T (.tmp k)) (hm : l.find? (fun y => y.1 == k) = some (k, v0)) (hld : ∀ w1, S w1 → (Instr.loadAt T v0).run P w1 = .ok v w1) (K : ∀ a', Kn N ((d, v) :: l) a' → wpAnyH P md ops Q S fuel (listed.setIfInBounds i true) a' w) : wpAnyH P md ops Q S (fuel + 1) listed a w :=
  tk0 hS h i k hi hd hdN hf hr hQ hg hm (fun w1 hSw e => by unfold execOp; rw [ho]; simp only [e]; exact run_v (hld w1 hSw)) K
end
end Go.Proofs.YtcackliabemecaaGreatDoor
