/- Merged: PlgTn PlgTo. -/
import Derived.Test.YtkhhoognemjibaaGreatDoorPlgPx
/- A crash within Append: pure. -/
namespace Go.Proofs.YtkhhoognemjibaaGreatDoor
open Go.RowKit
set_option linter.unusedSimpArgs false
set_option linter.unusedVariables false
set_option maxRecDepth 100000

theorem crash_mix {M : MemM} (h : M.ok) (P : List Int) : ∃ f : Nat → Bool, ∀ i, i < M.V.length → (crashM M P).V.getD i 0 = if f (i / 8) then M.V.getD i 0 else M.D.getD i 0 := by
  refine ⟨selF (dirtyL M) P (dirtyL M).length, fun i hi => ?_⟩
  show (crashD M P).getD i 0 = _
  unfold crashD
  exact mixF_get _ _ _ (by rw [h.1]; exact hi)
theorem agree {V V' : List UInt8} {u : Nat} (hl : V.length = 1024) (hl' : V'.length = 1024) (hE : endL V 512 512 = u) (hu : u ≤ 504) (h : ∀ i, i < 520 + u → V'.getD i 0 = V.getD i 0) : logR V' 512 512 = logR V 512 512 := by
  have sl : ∀ a n, a + n ≤ 520 + u → (V'.drop a).take n = (V.drop a).take n := by
    intro a n han
    refine list8_ext ?_ fun i hi => ?_
    · rw [List.length_take, List.length_take, List.length_drop, List.length_drop, hl, hl']
    · rw [List.length_take, List.length_drop] at hi
      have e : ∀ Z : List UInt8, ((Z.drop a).take n).getD i 0 = Z.getD (a + i) 0 := fun Z => by
        simp only [List.getD_eq_getElem?_getD, List.getElem?_take, List.getElem?_drop, if_pos (show i < n by omega)]
      rw [e, e, h _ (by omega)]
  have e1 : endL V' 512 512 = endL V 512 512 := by
    unfold endL
    rw [sl 512 8 (by omega)]
  have e2 : bodyL V' 512 512 = bodyL V 512 512 := by
    unfold bodyL
    rw [e1, hE, sl (512 + 8) u (by omega)]
  unfold logR
  rw [e2]
def T1 (N : MemM) (u : Nat) (eb : List UInt8) (k : Nat) : MemM := if 0 < k then storeM N (520 + u) eb else N
def T2 (N : MemM) (u : Nat) (eb : List UInt8) (k : Nat) : MemM := if 1 < k then flushM (T1 N u eb k) (520 + u) eb.length else T1 N u eb k
def T3 (N : MemM) (u : Nat) (eb : List UInt8) (k : Nat) : MemM := if 2 < k then fenceM (T2 N u eb k) else T2 N u eb k
def T4 (N : MemM) (u : Nat) (eb : List UInt8) (k : Nat) : MemM := if 3 < k then storeM (T3 N u eb k) 512 (le 8 (u + eb.length)) else T3 N u eb k
def T5 (N : MemM) (u : Nat) (eb : List UInt8) (k : Nat) : MemM := if 4 < k then flushM (T4 N u eb k) 512 8 else T4 N u eb k
def T6 (N : MemM) (u : Nat) (eb : List UInt8) (k : Nat) : MemM := if 5 < k then fenceM (T5 N u eb k) else T5 N u eb k
theorem storeM_V (M : MemM) (q : Nat) (b : List UInt8) : (storeM M q b).V = splice M.V q b := by unfold storeM; rfl
theorem storeM_D (M : MemM) (q : Nat) (b : List UInt8) : (storeM M q b).D = M.D := by unfold storeM; rfl
theorem flushM_V (M : MemM) (q n : Nat) : (flushM M q n).V = M.V := by unfold flushM; rfl
theorem flushM_D (M : MemM) (q n : Nat) : (flushM M q n).D = M.D := by unfold flushM; rfl
theorem T1_len {N : MemM} {u : Nat} {eb : List UInt8} (hl : N.V.length = 1024) (hf : u + eb.length ≤ 504) (k : Nat) : (T1 N u eb k).V.length = 1024 := by
  unfold T1; split
  · rw [storeM_V, length_splice _ _ _ (by omega), hl]
  · exact hl
theorem T2_len {N : MemM} {u : Nat} {eb : List UInt8} (hl : N.V.length = 1024) (hf : u + eb.length ≤ 504) (k : Nat) : (T2 N u eb k).V.length = 1024 := by
  unfold T2; split
  · rw [flushM_V]; exact T1_len hl hf k
  · exact T1_len hl hf k
theorem T3_len {N : MemM} {u : Nat} {eb : List UInt8} (hl : N.V.length = 1024) (hf : u + eb.length ≤ 504) (k : Nat) : (T3 N u eb k).V.length = 1024 := by
  unfold T3; split
  · rw [fenceM_V]; exact T2_len hl hf k
  · exact T2_len hl hf k
theorem T4_len {N : MemM} {u : Nat} {eb : List UInt8} (hl : N.V.length = 1024) (hf : u + eb.length ≤ 504) (k : Nat) : (T4 N u eb k).V.length = 1024 := by
  have h3 := T3_len hl hf k
  unfold T4; split
  · rw [storeM_V, length_splice _ _ _ (by rw [le_length]; omega), h3]
  · exact h3
theorem T5_len {N : MemM} {u : Nat} {eb : List UInt8} (hl : N.V.length = 1024) (hf : u + eb.length ≤ 504) (k : Nat) : (T5 N u eb k).V.length = 1024 := by
  unfold T5; split
  · rw [flushM_V]; exact T4_len hl hf k
  · exact T4_len hl hf k
theorem T6_len {N : MemM} {u : Nat} {eb : List UInt8} (hl : N.V.length = 1024) (hf : u + eb.length ≤ 504) (k : Nat) : (T6 N u eb k).V.length = 1024 := by
  unfold T6; split
  · rw [fenceM_V]; exact T5_len hl hf k
  · exact T5_len hl hf k
theorem torn {N : MemM} {u : Nat} {eb : List UInt8} {C : List PtM} (hok : N.ok) (hD : N.D = N.V) (hl : N.V.length = 1024) (hE : endL N.V 512 512 = u) (hu : (logR N.V 512 512).2 = u) (hC : encOk C = true) (heb : encL C = eb) (hf : u + eb.length ≤ 504) (k : Nat) (hk : k ≤ 6) (P : List Int) :
    (logR (crashM (T6 N u eb k) P).V 512 512).1 = (logR N.V 512 512).1 ∧ k < 6 ∨ (logR (crashM (T6 N u eb k) P).V 512 512).1 = (logR N.V 512 512).1 ++ [C] ∧ 3 < k := by
  have hq : 520 + u + eb.length ≤ N.V.length := by omega
  have hlog : LogOk 512 512 N := ⟨by omega, by omega, by omega, by omega⟩
  -- the record stored and fenced
  have w1 : fenceM (flushM (storeM N (520 + u) eb) (520 + u) eb.length) = writeM N [⟨((520 + u : Nat) : Int), eb⟩] := (writeM_one hq).symm
  obtain ⟨M3, hM3⟩ : ∃ M, M = writeM N [⟨((520 + u : Nat) : Int), eb⟩] := ⟨_, rfl⟩
  have ok3 : M3.ok := by rw [hM3]; exact writeM_ok hok _
  have D3 : M3.D = M3.V := by rw [hM3]; exact writeM_D hok (warm_of hD) _
  have V3 : M3.V = splice N.V (520 + u) eb := by rw [hM3, writeM_V]; exact app_V hq
  have l3 : M3.V.length = 1024 := by rw [V3, length_splice _ _ _ hq, hl]
  have far : ∀ i, i < 520 + u → M3.V.getD i 0 = N.V.getD i 0 := fun i hi => by rw [V3, getD_splice _ _ _ hq, if_neg (by omega)]
  have s3 : logR M3.V 512 512 = logR N.V 512 512 := agree hl l3 hE (by omega) far
  have hset : setM M3 512 ((u + eb.length : Nat) : Int) = fenceM (flushM (storeM M3 512 (le 8 (u + eb.length))) 512 8) := by
    unfold setM
    rw [putF8, show ((512 : Nat) : Int) = ((512 : Nat) : Int) from rfl, writeM_one (by rw [le_length]; omega), le_length]
  have Vset : (setM M3 512 ((u + eb.length : Nat) : Int)).V = splice M3.V 512 (le 8 (u + eb.length)) := setM_V (by omega)
  have sset : (logR (splice M3.V 512 (le 8 (u + eb.length))) 512 512).1 = (logR N.V 512 512).1 ++ [C] := by
    have z := logR_append (at_ := 512) (size := 512) hlog hC hu heb (by omega)
    rw [← Vset, hM3]
    exact congrArg (fun x => x.1) z
  match k, hk with
  | 0, _ =>
    have e : T6 N u eb 0 = N := rfl
    rw [e, (crash_same hok hD P).1]
    exact .inl ⟨rfl, by omega⟩
  | 1, _ =>
    have e : T6 N u eb 1 = storeM N (520 + u) eb := rfl
    obtain ⟨f, hc⟩ := crash_mix (storeM_ok hok hq) P
    rw [e]
    rw [storeM_V, storeM_D, length_splice _ _ _ hq] at hc
    refine .inl ⟨congrArg (fun x => x.1) (agree hl (by rw [crashM_len (storeM_ok hok hq), storeM_V, length_splice _ _ _ hq, hl]) hE (by omega) fun i hi => ?_), by omega⟩
    rw [hc i (by omega)]
    split
    · rw [getD_splice _ _ _ hq, if_neg (by omega)]
    · rw [hD]
  | 2, _ =>
    have e : T6 N u eb 2 = flushM (storeM N (520 + u) eb) (520 + u) eb.length := rfl
    have ok2 := flushM_ok (storeM_ok hok hq) (520 + u) eb.length
    obtain ⟨f, hc⟩ := crash_mix ok2 P
    rw [e]
    rw [flushM_V, flushM_D, storeM_V, storeM_D, length_splice _ _ _ hq] at hc
    refine .inl ⟨congrArg (fun x => x.1) (agree hl (by rw [crashM_len ok2, flushM_V, storeM_V, length_splice _ _ _ hq, hl]) hE (by omega) fun i hi => ?_), by omega⟩
    rw [hc i (by omega)]
    split
    · rw [getD_splice _ _ _ hq, if_neg (by omega)]
    · rw [hD]
  | 3, _ =>
    have e : T6 N u eb 3 = M3 := by rw [hM3]; exact w1
    rw [e, (crash_same ok3 D3 P).1, s3]
    exact .inl ⟨rfl, by omega⟩
  | 4, _ =>
    have e : T6 N u eb 4 = storeM M3 512 (le 8 (u + eb.length)) := by rw [hM3, ← w1]; rfl
    have ok4 := storeM_ok ok3 (at_ := 512) (b := le 8 (u + eb.length)) (by rw [le_length]; omega)
    obtain ⟨f, hc⟩ := crash_mix ok4 P
    have hcl := crashM_len ok4 P
    rw [e]
    rw [storeM_V, storeM_D, length_splice _ _ _ (by rw [le_length]; omega), D3] at hc
    rw [storeM_V, length_splice _ _ _ (by rw [le_length]; omega)] at hcl
    by_cases hf64 : f 64 = true
    · have ev : (crashM (storeM M3 512 (le 8 (u + eb.length))) P).V = splice M3.V 512 (le 8 (u + eb.length)) := by
        refine list8_ext (by rw [hcl, length_splice _ _ _ (by rw [le_length]; omega)]) fun i hi => ?_
        rw [length_splice _ _ _ (by rw [le_length]; omega)] at hi
        rw [hc i hi, getD_splice _ _ _ (by rw [le_length]; omega), le_length]
        by_cases h64 : 512 ≤ i ∧ i < 512 + 8
        · rw [if_pos h64, show i / 8 = 64 by omega, if_pos hf64]
        · rw [if_neg h64]; split <;> rfl
      rw [ev, sset]
      exact .inr ⟨rfl, by omega⟩
    · have ev : (crashM (storeM M3 512 (le 8 (u + eb.length))) P).V = M3.V := by
        refine list8_ext hcl fun i hi => ?_
        rw [hc i hi, getD_splice _ _ _ (by rw [le_length]; omega), le_length]
        by_cases h64 : 512 ≤ i ∧ i < 512 + 8
        · rw [show i / 8 = 64 by omega, if_neg hf64]
        · rw [if_neg h64]; split <;> rfl
      rw [ev, s3]
      exact .inl ⟨rfl, by omega⟩
  | 5, _ =>
    have e : T6 N u eb 5 = flushM (storeM M3 512 (le 8 (u + eb.length))) 512 8 := by rw [hM3, ← w1]; rfl
    have ok5 := flushM_ok (storeM_ok ok3 (at_ := 512) (b := le 8 (u + eb.length)) (by rw [le_length]; omega)) 512 8
    obtain ⟨f, hc⟩ := crash_mix ok5 P
    have hcl := crashM_len ok5 P
    rw [e]
    rw [flushM_V, flushM_D, storeM_V, storeM_D, length_splice _ _ _ (by rw [le_length]; omega), D3] at hc
    rw [flushM_V, storeM_V, length_splice _ _ _ (by rw [le_length]; omega)] at hcl
    by_cases hf64 : f 64 = true
    · have ev : (crashM (flushM (storeM M3 512 (le 8 (u + eb.length))) 512 8) P).V = splice M3.V 512 (le 8 (u + eb.length)) := by
        refine list8_ext (by rw [hcl, length_splice _ _ _ (by rw [le_length]; omega)]) fun i hi => ?_
        rw [length_splice _ _ _ (by rw [le_length]; omega)] at hi
        rw [hc i hi, getD_splice _ _ _ (by rw [le_length]; omega), le_length]
        by_cases h64 : 512 ≤ i ∧ i < 512 + 8
        · rw [if_pos h64, show i / 8 = 64 by omega, if_pos hf64]
        · rw [if_neg h64]; split <;> rfl
      rw [ev, sset]
      exact .inr ⟨rfl, by omega⟩
    · have ev : (crashM (flushM (storeM M3 512 (le 8 (u + eb.length))) 512 8) P).V = M3.V := by
        refine list8_ext hcl fun i hi => ?_
        rw [hc i hi, getD_splice _ _ _ (by rw [le_length]; omega), le_length]
        by_cases h64 : 512 ≤ i ∧ i < 512 + 8
        · rw [show i / 8 = 64 by omega, if_neg hf64]
        · rw [if_neg h64]; split <;> rfl
      rw [ev, s3]
      exact .inl ⟨rfl, by omega⟩
  | 6, _ =>
    have e : T6 N u eb 6 = setM M3 512 ((u + eb.length : Nat) : Int) := by rw [hset, hM3, ← w1]; rfl
    have okS : (setM M3 512 ((u + eb.length : Nat) : Int)).ok := writeM_ok ok3 _
    rw [e, (crash_same okS (setM_D ok3 D3 _ _) P).1, Vset, sset]
    exact .inr ⟨rfl, by omega⟩
end Go.Proofs.YtkhhoognemjibaaGreatDoor
/- PlogTorn. (genPlgTo.py) -/
namespace Go.Proofs.YtkhhoognemjibaaGreatDoor
open Go.RowKit
set_option linter.unusedSimpArgs false
set_option linter.unusedVariables false
set_option maxRecDepth 100000

def dApp (ad : Option Addr) (cc : Nat) (L : List PtM) : DeedT := ⟨0, ad, cc, L, 0, none, 0, [], none, 0, []⟩
theorem buildDeed (ad : Option Addr) (cc : Nat) (L : List PtM) (w : World) : (Instr.build 30 #[(0, .int .i64 0), (1, .slice ad L.length cc)]).run Tryz.prog w = .ok (.agg (deedC (dApp ad cc L)).toArray) w := by
  have u3 := Tryz.underlying30
  have z3 := Tryz.sizeOf30
  unfold deedC dApp
  go_simp
theorem dApp_in {w : World} {ad : Option Addr} {cc : Nat} {L : List PtM} (r : RowPt w ad cc L) (k : inPts L) : DeedIn w (dApp ad cc L) := ⟨r, k, Row.nil _ _, Row.nil _ _, (fun y hy => by cases hy), (by unfold i64B; show _ ≤ (0 : Int) ∧ (0 : Int) ≤ _; omega)⟩
theorem below_cell8 {B : Nat} {w w' : World} (b : Below B w w') {x : Addr} {v : Value} (hx : x.block < B) (h : w.cell? x = some v) : w'.cell? x = some v := by
  have hb := b.block x.block hx
  unfold World.cell? at *
  rw [hb]
  exact h
theorem end_app {M : MemM} {at_ size : Nat} (hok : LogOk at_ size M) (L : List PtM) (h : endL M.V at_ size = (logR M.V at_ size).2) : endL (appM M at_ size L).V at_ size = (logR (appM M at_ size L).V at_ size).2 := by
  rw [logR_app hok]
  unfold appE appM
  by_cases he : encE L = 0
  · by_cases hf : size - 8 < (logR M.V at_ size).2 + (encL L).length
    · rw [if_neg (fun q => q.2 hf), if_pos he, if_pos hf, if_neg (by omega)]; exact h
    · rw [if_pos ⟨he, hf⟩, if_pos he, if_neg hf, if_pos rfl]
      exact endL_setM (logOk_congr hok (writeM_len _ _)) (by omega)
  · rw [if_neg (fun q => he q.1), if_neg he, if_neg he]; exact h
theorem run_negI {o : Oper} {x : Operand} (ho : o.op = .unOp .neg 3 x) {ρ : Operand → Value} {n : Int} (hx : ρ x = .int .i64 n) (h1 : -9223372036854775808 ≤ -n) (h2 : -n ≤ 9223372036854775807) (w : World) : (execOp ρ o).run Tryz.prog w = .ok (.value (.int .i64 (-n))) w := by
  unfold execOp
  rw [ho]
  simp only [hx]
  have u3 := Tryz.underlying3
  have a3 := Tryz.isAgg3
  have z3 := Tryz.sizeOf3
  have e1 : IntKind.i64.wrap (-n) = -n := IntWalk.i64_in _ (by omega)
  go_simp
theorem store_okP {w : World} {g v d p : Nat} {M : MemM} (h : MemP w g v d p M) (q : Nat) (a : Option Addr) (c : Nat) (b : List UInt8) (hr : RowB w a c b) (hl : q + b.length ≤ M.V.length) :
    Calls Tryz.prog 21 #[.pointer (some ⟨g, 0, none⟩), .int .i64 (q : Int), .slice a b.length c] w fun e w' => e = .returned (.int .i64 0) ∧ MemP w' g v d p (storeM M q b) ∧ Turns (fun k => k = v ∨ k = p) w w' := by
  have hV := h.1.2.2.2.2
  refine (store_any h q (by omega) a c b hr).mono ?_
  intro e w' z
  unfold StoreP at z
  rw [if_pos (inM_mk hl)] at z
  exact z
theorem flush_okP {w : World} {g v d p : Nat} {M : MemM} (h : MemP w g v d p M) (q n : Nat) (hl : q + n ≤ M.V.length) :
    Calls Tryz.prog 10 #[.pointer (some ⟨g, 0, none⟩), .int .i64 (q : Int), .int .i64 (n : Int)] w fun e w' => e = .returned (.int .i64 0) ∧ MemP w' g v d p (flushM M q n) ∧ Turns (fun k => k = p) w w' := by
  have hV := h.1.2.2.2.2
  refine (flush_any h q n (by omega) (by omega)).mono ?_
  intro e w' z
  unfold FlushP at z
  rw [if_pos (inM_mk hl)] at z
  exact z
theorem remI7 (x y : Operand) (n : Int) (k : Nat) (h0 : 0 ≤ n) (hk : k = (n % 7).toNat) (w : World) : (do eqGuard .rem 3 x y (.int .i64 n) (.int .i64 7); binOp .rem 3 (.int .i64 n) (.int .i64 7) : Sem Value).run Tryz.prog w = .ok (.int .i64 (k : Int)) w := by
  have u3 := Tryz.underlying3
  have a3 := Tryz.isAgg3
  have z3 := Tryz.sizeOf3
  have e0 : n.tmod 7 = (k : Int) := by rw [Int.tmod_eq_emod_of_nonneg h0, hk, Int.toNat_of_nonneg (by omega)]
  have e1 : IntKind.i64.wrap (k : Int) = (k : Int) := IntWalk.i64_in _ (by omega)
  go_simp
theorem put8_any (n : Nat) (h : n ≤ 1000000) (w : World) : Calls Tryz.prog 20 #[.slice none 0 0, .int .i64 ((n : Nat) : Int), .int .i64 8] w fun e w' => ∃ x y, e = .returned (.slice x (le 8 n).length y) ∧ OwnB w' w.heap.size x y (le 8 n) ∧ Below w.heap.size w w' := by
  have z := putRef_any none 0 [] ((n : Nat) : Int) 8 w (Row.nil _ _) (by simp) (by omega)
  rw [putF8] at z
  exact z

set_option maxHeartbeats 16000000 in
theorem PlogTorn_walk (w : World) (a : Option Addr) (c : Nat) (rs : List (Option Addr × Nat × List PtM)) (hrs : RecsIn w a c rs) (pa : Option Addr) (pc : Nat) (X : List PtM) (hX : RowPt w pa pc X) (kX : inPts X) (st : Int) (wst : (Lit.int .i64 st).wf = true) (ia : Option Addr) (ic : Nat) (I : List Int) (hI : RowI w ia ic I) (hIok : intsOk I) :
    Calls Tryz.prog 5 #[.slice a rs.length c, .slice pa X.length pc, .int .i64 st, .slice ia I.length ic] w fun e w' => e = .returned (.bool true) ∧ Below w.heap.size w w' := by
  have HRS := hid hrs; have HPX := hid hX; have HIS := hid hI
  have hstI : i64B st := i64_bd wst
  obtain ⟨C, hC⟩ : ∃ C, cutP 6 40 X = C := ⟨_, rfl⟩
  have okC : okPts C := by rw [← hC]; exact cutP_ok kX.1
  have lenC : C.length ≤ 6 := by rw [← hC]; exact cutP_len _ _ _
  have hL9x : X.length ≤ 9223372036854775807 := Nat.le_trans kX.2.2 (by unfold maxLen; omega)
  clear hrs hX hI
  go_enter Tryz.func5, Tryz.ntmps5
  iterate 3 go_step
  refine wpk_enter (N := 185) (l := [(0, .slice a rs.length c), (1, .slice pa X.length pc), (2, .int .i64 st), (3, .slice ia I.length ic)]) ⟨rfl, (by intro x hx; simp only [List.mem_cons, List.not_mem_nil, or_false] at hx; rcases hx with rfl | rfl | rfl | rfl <;> rfl), rfl⟩ fun a2 h1 => ?_
  refine wv h1 rfl rfl rfl rfl (.bool false) rfl fun a4 h3 => ?_
  iterate 5 go_step
  refine wpk_call h3 (wanted_none rfl) rfl (by decide) (fr rfl) (fun args => callP_20 args _) rfl #[] (by simp) (R := fun v' w' => ∃ K : PK, v' = .pointer (some ⟨K.pp, 0, none⟩) ∧ PairP w' w.heap.size K mem0 ∧ Below w.heap.size w w') ((beginPair_any w).mono fun e w' q => by obtain ⟨K, q1, q2, q3⟩ := q; exact ⟨_, q1, K, rfl, q2, q3⟩) fun a6 v0 w0 r0 h5 => ?_
  obtain ⟨K, rfl, hp0, hb0⟩ := r0; have HP0 := hid hp0; have HB0 := hid hb0; clear hp0 hb0
  refine wmk h5 rfl rfl rfl rfl 21 rfl (fun _ => rfl) fun a8 h7 => ?_
  have h9 := h7.subs (l' := [(9, _), (8, _), (0, _), (1, _), (2, _), (3, _)]) rfl
  clear h7
  iterate 6 go_step
  refine wmk h9 rfl rfl rfl rfl 9 rfl (fun _ => rfl) fun a11 h10 => ?_
  refine wv h10 rfl rfl rfl rfl (.bool false) (by unfold execOp; simp only [h10.ev 22 rfl]; exact run_v (eqPnP _ _ _ _)) fun a13 h12 => ?_
  have h14 := h12.subs (l' := [(23, _), (9, _), (8, _), (0, _), (1, _), (2, _), (3, _)]) rfl
  clear h12
  iterate 3 go_step
  refine wp_cond (t := false) (h14.ev 23 rfl) ?_
  simp only [Bool.false_eq_true, if_false]
  have h15 := h14.subs (l' := [(9, _), (8, _), (0, _), (1, _), (2, _), (3, _)]) rfl
  clear h14
  iterate 3 go_step
  refine wp_join (J := fun a' w' => ∃ M : MemM, M.V.length = 1024 ∧ M.D = M.V ∧ endL M.V 512 512 = (logR M.V 512 512).2 ∧ Kn 185 [(9, .pointer (some ⟨K.pp, 0, none⟩)), (1, .slice pa X.length pc), (2, .int .i64 st), (3, .slice ia I.length ic)] a' ∧ Sides w' w.heap.size K M M ∧ Below w.heap.size w w') ?_ ?_
  case refine_1 =>
    iterate 3 go_step
    refine wv h15 rfl rfl rfl rfl (.int .i64 0) rfl fun a17 h16 => ?_
    iterate 4 go_step
    have h18 := h16.subs (l' := [(10, _), (9, _), (0, _), (1, _), (2, _), (3, _)]) rfl
    clear h16
    refine wp_loop (I := fun a' w' => ∃ (i : Nat) (M : MemM), i ≤ rs.length ∧ i ≤ 4 ∧ M.V.length = 1024 ∧ M.D = M.V ∧ endL M.V 512 512 = (logR M.V 512 512).2 ∧ Kn 185 [(10, .int .i64 (i : Int)), (9, .pointer (some ⟨K.pp, 0, none⟩)), (0, .slice a rs.length c), (1, .slice pa X.length pc), (2, .int .i64 st), (3, .slice ia I.length ic)] a' ∧ PairP w' w.heap.size K M ∧ Below w.heap.size w w') (μ := fun a' _ => rs.length - (intOf (a'.eval (.tmp 10))).toNat) ⟨0, mem0, by omega, by omega, mem0_len, mem0_D, (by rw [endL0, logR0]), h18, HP0.out, HB0.out⟩ ?_
    clear HP0 HB0 h18
    rintro aL aw ⟨i, M, hi, hi4, hlenM, hMD, hME, hK, hpa, hba⟩
    have HPa := hid hpa; have HBa := hid hba; clear hpa hba
    by_cases hlt : i < rs.length ∧ i < 4
    case pos =>
      obtain ⟨hltL, hltN⟩ := hlt
      have hd0 : decide ((i : Int) < (rs.length : Int)) = true := decide_eq_true (by omega)
      have hd1 : decide ((i : Int) < 4) = true := decide_eq_true (by omega)
      obtain ⟨pb, po, ad, cc, L, ha0, hpb, hcell, hrow, hin, _⟩ := recsIn_at HRS.out hltL
      iterate 4 go_step
      refine wmk hK rfl rfl rfl rfl 10 rfl (fun _ => rfl) fun a20 h19 => ?_
      refine wmk h19 rfl rfl rfl rfl 0 rfl (fun _ => rfl) fun a22 h21 => ?_
      refine wv h21 rfl rfl rfl rfl (.int .i64 (rs.length : Int)) (run_lenRP rfl (h21.ev 25 rfl) _) fun a24 h23 => ?_
      refine wv h23 rfl rfl rfl rfl (.bool true) (by unfold execOp; simp only [h23.ev 24 rfl, h23.ev 26 rfl]; exact run_v (ltIP _ _ _ _ _ hd0)) fun a26 h25 => ?_
      refine wmk h25 rfl rfl rfl rfl 27 rfl (fun _ => rfl) fun a28 h27 => ?_
      refine wpk_val h27 (by rw [wanted_of (g := 4) (want := true) (b := true) rfl (h27.yields (prev := 28) rfl (by simp))]; rfl) rfl (by decide) (fr rfl) (.int .i64 (i : Int)) (by unfold execOp; simp only [h27.ev 10 rfl]; rfl) fun a30 h29 => ?_
      refine wpk_val h29 (by rw [wanted_of (g := 4) (want := true) (b := true) rfl (h29.yields (prev := 28) rfl (by simp))]; rfl) rfl (by decide) (fr rfl) (.bool true) (by unfold execOp; simp only [h29.ev 29 rfl]; exact run_v (ltIP _ _ _ _ _ hd1)) fun a32 h31 => ?_
      refine wv h31 rfl rfl rfl rfl (.bool true) (run_pick rfl (h31.ev 28 rfl) (by rw [if_pos rfl]; exact h31.ev 30 rfl)) fun a34 h33 => ?_
      have h35 := h33.subs (l' := [(31, _), (10, _), (9, _), (0, _), (1, _), (2, _), (3, _)]) rfl
      clear h33
      iterate 3 go_step
      refine wp_cond (t := true) (h35.ev 31 rfl) ?_
      simp only [if_true]
      have h36 := h35.subs (l' := [(10, _), (9, _), (0, _), (1, _), (2, _), (3, _)]) rfl
      clear h35
      iterate 6 go_step
      refine wmk h36 rfl rfl rfl rfl 9 rfl (fun _ => rfl) fun a38 h37 => ?_
      refine wmk h37 rfl rfl rfl rfl 0 rfl (fun _ => rfl) fun a40 h39 => ?_
      refine wmk h39 rfl rfl rfl rfl 10 rfl (fun _ => rfl) fun a42 h41 => ?_
      refine wv h41 rfl rfl rfl rfl (.pointer (some ⟨pb, po + i, none⟩)) (by unfold execOp; simp only [h41.ev 35 rfl, h41.ev 36 rfl]; exact run_v (by rw [ha0]; exact ixRP pb po _ c i hltL _)) fun a44 h43 => ?_
      refine wv h43 rfl rfl rfl rfl (.slice ad L.length cc) (by unfold execOp; simp only [h43.ev 37 rfl]; exact run_v (loadRP (below_cell8 HBa.out hpb hcell))) fun a46 h45 => ?_
      refine wv h45 rfl rfl rfl rfl (.agg (deedC (dApp ad cc L)).toArray) (by unfold execOp; simp only [List.map_toArray, List.map_cons, List.map_nil, h45.ev 38 rfl]; exact run_v (buildDeed _ _ _ _)) fun a48 h47 => ?_
      refine wpk_call h47 (wanted_none rfl) rfl (by decide) (fr rfl) (fun args => callP_1007 args _) rfl #[.pointer (some ⟨K.pp, 0, none⟩), .agg (deedC (dApp ad cc L)).toArray] (by simp only [List.map_toArray, List.map_cons, List.map_nil, h47.ev 34 rfl, h47.ev 39 rfl]) (R := fun v' w' => ∃ M1 : MemM, v' = .bool true ∧ PairP w' w.heap.size K M1 ∧ M1.V.length = M.V.length ∧ Below w.heap.size w w' ∧ M1 = appM M 512 512 (cutP 6 40 L)) ((does_any HPa.out HBa.out hlenM (dApp ad cc L) (dApp_in hrow hin)).mono fun e w' q => by obtain ⟨M1, q1, q2, q3, q4, q5⟩ := q; exact ⟨_, q1, M1, rfl, q2, q3, q4, q5 rfl⟩) fun a50 v1 w1 r1 h49 => ?_
      obtain ⟨M1, rfl, hp1, hl1, hb1, hm1⟩ := r1; have hlen1 : M1.V.length = 1024 := hl1.trans hlenM; have HP1 := hid hp1; have HB1 := hid hb1; clear hp1 hb1 hl1
      have h51 := h49.subs (l' := [(10, _), (9, _), (0, _), (1, _), (2, _), (3, _)]) rfl
      clear h49
      iterate 4 go_step
      refine wmk h51 rfl rfl rfl rfl 10 rfl (fun _ => rfl) fun a53 h52 => ?_
      refine wv h52 rfl rfl rfl rfl (.int .i64 ((i + 1 : Nat) : Int)) (by unfold execOp; simp only [h52.ev 32 rfl]; exact run_v (addIP _ _ i (by omega) _)) fun a55 h54 => ?_
      have h56 := h54.subs (l' := [(33, _), (32, _), (9, _), (0, _), (1, _), (2, _), (3, _)]) rfl
      clear h54
      refine wmk h56 rfl rfl rfl rfl 33 rfl (fun _ => rfl) fun a58 h57 => ?_
      have h59 := h57.subs (l' := [(10, _), (9, _), (0, _), (1, _), (2, _), (3, _)]) rfl
      clear h57
      iterate 2 go_step
      refine ⟨⟨i + 1, M1, by omega, by omega, hlen1, by rw [hm1]; exact appM_D HPa.out.l.m.1 hMD _ _ _, by rw [hm1]; exact end_app (logOk_of hlenM) _ hME, h59.subs rfl, HP1.out, HB1.out⟩, ?_⟩
      rw [h59.ev 10 rfl, hK.ev 10 rfl]; simp [intOf]; omega
    by_cases hltL : i < rs.length
    case pos =>
      have hd0 : decide ((i : Int) < (rs.length : Int)) = true := decide_eq_true (by omega)
      have hd1 : decide ((i : Int) < 4) = false := decide_eq_false (by omega)
      iterate 4 go_step
      refine wmk hK rfl rfl rfl rfl 10 rfl (fun _ => rfl) fun a61 h60 => ?_
      refine wmk h60 rfl rfl rfl rfl 0 rfl (fun _ => rfl) fun a63 h62 => ?_
      refine wv h62 rfl rfl rfl rfl (.int .i64 (rs.length : Int)) (run_lenRP rfl (h62.ev 25 rfl) _) fun a65 h64 => ?_
      refine wv h64 rfl rfl rfl rfl (.bool true) (by unfold execOp; simp only [h64.ev 24 rfl, h64.ev 26 rfl]; exact run_v (ltIP _ _ _ _ _ hd0)) fun a67 h66 => ?_
      refine wmk h66 rfl rfl rfl rfl 27 rfl (fun _ => rfl) fun a69 h68 => ?_
      refine wpk_val h68 (by rw [wanted_of (g := 4) (want := true) (b := true) rfl (h68.yields (prev := 28) rfl (by simp))]; rfl) rfl (by decide) (fr rfl) (.int .i64 (i : Int)) (by unfold execOp; simp only [h68.ev 10 rfl]; rfl) fun a71 h70 => ?_
      refine wpk_val h70 (by rw [wanted_of (g := 4) (want := true) (b := true) rfl (h70.yields (prev := 28) rfl (by simp))]; rfl) rfl (by decide) (fr rfl) (.bool false) (by unfold execOp; simp only [h70.ev 29 rfl]; exact run_v (ltIP _ _ _ _ _ hd1)) fun a73 h72 => ?_
      refine wv h72 rfl rfl rfl rfl (.bool false) (run_pick rfl (h72.ev 28 rfl) (by rw [if_pos rfl]; exact h72.ev 30 rfl)) fun a75 h74 => ?_
      have h76 := h74.subs (l' := [(31, _), (10, _), (9, _), (0, _), (1, _), (2, _), (3, _)]) rfl
      clear h74
      iterate 3 go_step
      refine wp_cond (t := false) (h76.ev 31 rfl) ?_
      simp only [Bool.false_eq_true, if_false]
      have h77 := h76.subs (l' := [(10, _), (9, _), (0, _), (1, _), (2, _), (3, _)]) rfl
      clear h76
      iterate 4 go_step
      exact ⟨M, hlenM, hMD, hME, h77.subs rfl, Sides.of HPa.out, HBa.out⟩
    have hd0 : decide ((i : Int) < (rs.length : Int)) = false := decide_eq_false (by omega)
    iterate 4 go_step
    refine wmk hK rfl rfl rfl rfl 10 rfl (fun _ => rfl) fun a79 h78 => ?_
    refine wmk h78 rfl rfl rfl rfl 0 rfl (fun _ => rfl) fun a81 h80 => ?_
    refine wv h80 rfl rfl rfl rfl (.int .i64 (rs.length : Int)) (run_lenRP rfl (h80.ev 25 rfl) _) fun a83 h82 => ?_
    refine wv h82 rfl rfl rfl rfl (.bool false) (by unfold execOp; simp only [h82.ev 24 rfl, h82.ev 26 rfl]; exact run_v (ltIP _ _ _ _ _ hd0)) fun a85 h84 => ?_
    refine wmk h84 rfl rfl rfl rfl 27 rfl (fun _ => rfl) fun a87 h86 => ?_
    refine wpk_skip h86 (by rw [wanted_of (g := 4) (want := true) (b := false) rfl (h86.yields (prev := 28) rfl (by simp))]; rfl) rfl (by decide) (fr rfl) fun a89 h88 => ?_
    refine wpk_skip h88 (by rw [wanted_of (g := 4) (want := true) (b := false) rfl (h88.yields (prev := 28) rfl (by simp))]; rfl) rfl (by decide) (fr rfl) fun a91 h90 => ?_
    refine wv h90 rfl rfl rfl rfl (.bool false) (run_pick rfl (h90.ev 28 rfl) rfl) fun a93 h92 => ?_
    have h94 := h92.subs (l' := [(31, _), (10, _), (9, _), (0, _), (1, _), (2, _), (3, _)]) rfl
    clear h92
    iterate 3 go_step
    refine wp_cond (t := false) (h94.ev 31 rfl) ?_
    simp only [Bool.false_eq_true, if_false]
    have h95 := h94.subs (l' := [(10, _), (9, _), (0, _), (1, _), (2, _), (3, _)]) rfl
    clear h94
    iterate 4 go_step
    exact ⟨M, hlenM, hMD, hME, h95.subs rfl, Sides.of HPa.out, HBa.out⟩
  clear HP0 HB0
  rintro aq wq ⟨M, hlenM, hMD, hME, hQ, hs, hb⟩
  have HSa := hid hs; have HBa := hid hb; clear hs hb
  obtain ⟨u, hu⟩ : ∃ u, (logR M.V 512 512).2 = u := ⟨_, rfl⟩
  have hul : u ≤ 504 := by rw [← hu]; exact logR_u M.V 512 512
  rw [hu] at hME
  obtain ⟨eb, heb⟩ : ∃ y, encL C = y := ⟨_, rfl⟩
  obtain ⟨ee, hee⟩ : ∃ y, encE C = y := ⟨_, rfl⟩
  have hel : eb.length ≤ 20000 := by rw [← heb]; exact encL_len
  iterate 2 go_step
  refine wmk hQ rfl rfl rfl rfl 1 rfl (fun _ => rfl) fun a97 h96 => ?_
  refine wpk_call h96 (wanted_none rfl) rfl (by decide) (fr rfl) (fun args => callP_21 args _) rfl #[.slice pa X.length pc] (by simp only [List.map_toArray, List.map_cons, List.map_nil, h96.ev 41 rfl]) (R := fun v' w' => ∃ la lc, v' = .slice la (cutP 6 40 X).length lc ∧ OwnPt w' wq.heap.size la lc (cutP 6 40 X) ∧ Below wq.heap.size wq w') ((little_any (HPX.out.below HBa.out) hL9x).mono fun e w' q => by obtain ⟨x, y, q1, q2⟩ := q; exact ⟨_, q1, x, y, rfl, q2⟩) fun a99 v7 w7 r7 h98 => ?_
  obtain ⟨la, lc, rfl, o7, b7⟩ := r7; rw [hC] at o7 h98; have HS7 := hid (HSa.out.mono b7); have HB7 := hid (kept_trans HBa.out b7); have hlt7 := sides_lt HSa.out; have R7 := hid o7; clear b7 o7
  have h100 := h98.subs (l' := [(42, _), (41, _), (9, _), (2, _), (3, _)]) rfl
  clear h98
  refine wmk h100 rfl rfl rfl rfl 42 rfl (fun _ => rfl) fun a102 h101 => ?_
  have h103 := h101.subs (l' := [(1, _), (9, _), (2, _), (3, _)]) rfl
  clear h101
  iterate 5 go_step
  refine wmk h103 rfl rfl rfl rfl 9 rfl (fun _ => rfl) fun a105 h104 => ?_
  refine wv h104 rfl rfl rfl rfl (.pointer (some ⟨K.pp, 0, none⟩)) (by unfold execOp; simp only [h104.ev 44 rfl]; exact rfl) fun a107 h106 => ?_
  refine wv h106 rfl rfl rfl rfl (.pointer (some ⟨K.pp, 3, none⟩)) (by unfold execOp; simp only [h106.ev 45 rfl]; exact run_v (fa_50_0_3 (K.pp) _)) fun a109 h108 => ?_
  refine wv h108 rfl rfl rfl rfl (.pointer (some ⟨K.lr, 0, none⟩)) (by unfold execOp; simp only [h108.ev 46 rfl]; exact run_v (loadLR (HS7.out.b.cell (i := 3) (by show 3 < 4; omega)))) fun a111 h110 => ?_
  refine wpk_call h110 (wanted_none rfl) rfl (by decide) (fr rfl) (fun args => callP_56 args _) rfl #[.pointer (some ⟨K.lr, 0, none⟩)] (by simp only [List.map_toArray, List.map_cons, List.map_nil, h110.ev 47 rfl]) (R := fun v' w' => ∃ ra rc rs, v' = .tuple #[.slice ra rs.length rc, .int .i64 ((logR M.V 512 512).2 : Int)] ∧ rs.map (·.2.2) = (logR M.V 512 512).1 ∧ RecsP w' w7.heap.size ra rc rs ∧ Below w7.heap.size w7 w') (readR_any HS7.out.r (logOk_of hlenM)) fun a113 v8 w8 r8 h112 => ?_
  obtain ⟨ra1, rc1, rs1, rfl, hm1, hr1, b8⟩ := r8; rw [hu] at h112; have HS8 := hid (HS7.out.mono b8); have HB8 := hid (kept_trans HB7.out b8); have R8 := hid (Own.mono R7.out b8); have HR1 := hid hr1; have HM1 := hid hm1; have hlt8 : ∀ k, K.all k → k < w7.heap.size := sides_lt HS7.out; have hn1 : rs1.length ≤ 1000 := by have z := congrArg List.length hm1; rw [List.length_map] at z; have z2 := logR_n M.V 512 512; omega
  clear b8 hr1 hm1
  refine wmk h112 rfl rfl rfl rfl 48 rfl (fun _ => rfl) fun a115 h114 => ?_
  refine wv h114 rfl rfl rfl rfl (.slice ra1 rs1.length rc1) (by unfold execOp; simp only [h114.ev 43 rfl]; exact rfl) fun a117 h116 => ?_
  refine wv h116 rfl rfl rfl rfl (.int .i64 (u : Int)) (by unfold execOp; simp only [h116.ev 43 rfl]; exact rfl) fun a119 h118 => ?_
  refine wmk h118 rfl rfl rfl rfl 49 rfl (fun _ => rfl) fun a121 h120 => ?_
  refine wmk h120 rfl rfl rfl rfl 50 rfl (fun _ => rfl) fun a123 h122 => ?_
  have h124 := h122.subs (l' := [(12, _), (11, _), (1, _), (9, _), (2, _), (3, _)]) rfl
  clear h122
  iterate 5 go_step
  refine wmk h124 rfl rfl rfl rfl 1 rfl (fun _ => rfl) fun a126 h125 => ?_
  refine wpk_call h125 (wanted_none rfl) rfl (by decide) (fr rfl) (fun args => callP_11 args _) rfl #[.slice la C.length lc] (by simp only [List.map_toArray, List.map_cons, List.map_nil, h125.ev 52 rfl]) (R := fun v' w' => ∃ ba bc, v' = .tuple #[.slice ba (encL C).length bc, .int .i64 (encE C)] ∧ OwnB w' w8.heap.size ba bc (encL C) ∧ Below w8.heap.size w8 w') ((encodeR_any R8.out.row okC (by omega)).mono fun e w' q => by obtain ⟨x, y, q1, q2, q3⟩ := q; exact ⟨_, q1, x, y, rfl, q2, q3⟩) fun a128 v9 w9 r9 h127 => ?_
  obtain ⟨ba, bc, rfl, o9, b9⟩ := r9; rw [heb] at o9 h127; rw [hee] at h127; have HS9 := hid (HS8.out.mono b9); have HB9 := hid (kept_trans HB8.out b9); have R9 := hid (Own.mono R8.out b9); have HR1 := hid (HR1.out.mono b9); have HE9 := hid o9; have hlt9 : ∀ k, K.all k → k < w8.heap.size := sides_lt HS8.out; clear b9 o9
  refine wmk h127 rfl rfl rfl rfl 53 rfl (fun _ => rfl) fun a130 h129 => ?_
  refine wv h129 rfl rfl rfl rfl (.slice ba eb.length bc) (by unfold execOp; simp only [h129.ev 51 rfl]; exact rfl) fun a132 h131 => ?_
  refine wv h131 rfl rfl rfl rfl (.int .i64 ee) (by unfold execOp; simp only [h131.ev 51 rfl]; exact rfl) fun a134 h133 => ?_
  refine wmk h133 rfl rfl rfl rfl 54 rfl (fun _ => rfl) fun a136 h135 => ?_
  refine wmk h135 rfl rfl rfl rfl 55 rfl (fun _ => rfl) fun a138 h137 => ?_
  have h139 := h137.subs (l' := [(14, _), (13, _), (12, _), (11, _), (1, _), (9, _), (2, _), (3, _)]) rfl
  clear h137
  iterate 4 go_step
  by_cases he : ee = 0
  case neg =>
    have hbad : (ee != 0) = true := by simp [bne, he]
    iterate 2 go_step
    refine wmk h139 rfl rfl rfl rfl 14 rfl (fun _ => rfl) fun a141 h140 => ?_
    refine wv h140 rfl rfl rfl rfl (.bool true) (by unfold execOp; simp only [h140.ev 56 rfl]; exact run_v (neEP _ _ _ _ _ hbad)) fun a143 h142 => ?_
    refine wmk h142 rfl rfl rfl rfl 57 rfl (fun _ => rfl) fun a145 h144 => ?_
    refine wpk_skip h144 (by rw [wanted_of (g := 2) (want := false) (b := true) rfl (h144.yields (prev := 58) rfl (by simp))]; rfl) rfl (by decide) (fr rfl) fun a147 h146 => ?_
    refine wpk_skip h146 (by rw [wanted_of (g := 2) (want := false) (b := true) rfl (h146.yields (prev := 58) rfl (by simp))]; rfl) rfl (by decide) (fr rfl) fun a149 h148 => ?_
    refine wpk_skip h148 (by rw [wanted_of (g := 2) (want := false) (b := true) rfl (h148.yields (prev := 58) rfl (by simp))]; rfl) rfl (by decide) (fr rfl) fun a151 h150 => ?_
    refine wpk_skip h150 (by rw [wanted_of (g := 2) (want := false) (b := true) rfl (h150.yields (prev := 58) rfl (by simp))]; rfl) rfl (by decide) (fr rfl) fun a153 h152 => ?_
    refine wpk_skip h152 (by rw [wanted_of (g := 2) (want := false) (b := true) rfl (h152.yields (prev := 58) rfl (by simp))]; rfl) rfl (by decide) (fr rfl) fun a155 h154 => ?_
    refine wv h154 rfl rfl rfl rfl (.bool true) (run_pick rfl (h154.ev 58 rfl) rfl) fun a157 h156 => ?_
    have h158 := h156.subs (l' := [(64, _), (14, _), (13, _), (12, _), (11, _), (1, _), (9, _), (2, _), (3, _)]) rfl
    clear h156
    iterate 3 go_step
    refine wp_cond (t := true) (h158.ev 64 rfl) ?_
    simp only [if_true]
    have h159 := h158.subs (l' := [(14, _), (13, _), (12, _), (11, _), (1, _), (9, _), (2, _), (3, _)]) rfl
    clear h158
    iterate 2 go_step
    refine wpk_call h159 (wanted_none rfl) rfl (by decide) (fr rfl) (fun args => callP_13 args _) rfl #[] (by simp) (R := fun v' w' => v' = .bool true ∧ Below w9.heap.size w9 w') ((lives08_any _).mono fun e w' q => ⟨_, q.1, rfl, q.2⟩) fun a161 vx wx rx h160 => ?_
    obtain ⟨rfl, bx⟩ := rx; have HBx := hid (kept_trans HB9.out bx); clear bx
    refine wmk h160 rfl rfl rfl rfl 65 rfl (fun _ => rfl) fun a163 h162 => ?_
    have h164 := h162.subs (l' := [(8, _), (14, _), (13, _), (12, _), (11, _), (1, _), (9, _), (2, _), (3, _)]) rfl
    clear h162
    iterate 4 go_step
    simp only [Exit.then, Exit.inBlock]
    exact bodyPost_ret (results_tmp1 rfl (h164.known (8, .bool true) (by simp))) h164.defs ⟨rfl, HBx.out⟩
  have hbad : (ee != 0) = false := by rw [he]; rfl
  by_cases hfit : u + eb.length ≤ 504
  case neg =>
    have hfull : decide ((504 : Int) < ((u + eb.length : Nat) : Int)) = true := decide_eq_true (by omega)
    iterate 2 go_step
    refine wmk h139 rfl rfl rfl rfl 14 rfl (fun _ => rfl) fun a166 h165 => ?_
    refine wv h165 rfl rfl rfl rfl (.bool false) (by unfold execOp; simp only [h165.ev 56 rfl]; exact run_v (neEP _ _ _ _ _ hbad)) fun a168 h167 => ?_
    refine wmk h167 rfl rfl rfl rfl 57 rfl (fun _ => rfl) fun a170 h169 => ?_
    refine wpk_val h169 (by rw [wanted_of (g := 2) (want := false) (b := false) rfl (h169.yields (prev := 58) rfl (by simp))]; rfl) rfl (by decide) (fr rfl) (.int .i64 (u : Int)) (by unfold execOp; simp only [h169.ev 12 rfl]; rfl) fun a172 h171 => ?_
    refine wpk_val h171 (by rw [wanted_of (g := 2) (want := false) (b := false) rfl (h171.yields (prev := 58) rfl (by simp))]; rfl) rfl (by decide) (fr rfl) (.slice ba eb.length bc) (by unfold execOp; simp only [h171.ev 13 rfl]; rfl) fun a174 h173 => ?_
    refine wpk_val h173 (by rw [wanted_of (g := 2) (want := false) (b := false) rfl (h173.yields (prev := 58) rfl (by simp))]; rfl) rfl (by decide) (fr rfl) (.int .i64 (eb.length : Int)) (run_lenBP rfl (h173.ev 60 rfl) _) fun a176 h175 => ?_
    refine wpk_val h175 (by rw [wanted_of (g := 2) (want := false) (b := false) rfl (h175.yields (prev := 58) rfl (by simp))]; rfl) rfl (by decide) (fr rfl) (.int .i64 ((u + eb.length : Nat) : Int)) (by unfold execOp; simp only [h175.ev 59 rfl, h175.ev 61 rfl]; exact run_v (addNP _ _ _ _ _ (by omega) (by omega) (by omega) _)) fun a178 h177 => ?_
    refine wpk_val h177 (by rw [wanted_of (g := 2) (want := false) (b := false) rfl (h177.yields (prev := 58) rfl (by simp))]; rfl) rfl (by decide) (fr rfl) (.bool true) (by unfold execOp; simp only [h177.ev 62 rfl]; exact run_v (gtIP _ _ _ _ _ hfull)) fun a180 h179 => ?_
    refine wv h179 rfl rfl rfl rfl (.bool true) (run_pick rfl (h179.ev 58 rfl) (by rw [if_neg (by simp)]; exact h179.ev 63 rfl)) fun a182 h181 => ?_
    have h183 := h181.subs (l' := [(64, _), (14, _), (13, _), (12, _), (11, _), (1, _), (9, _), (2, _), (3, _)]) rfl
    clear h181
    iterate 3 go_step
    refine wp_cond (t := true) (h183.ev 64 rfl) ?_
    simp only [if_true]
    have h184 := h183.subs (l' := [(14, _), (13, _), (12, _), (11, _), (1, _), (9, _), (2, _), (3, _)]) rfl
    clear h183
    iterate 2 go_step
    refine wpk_call h184 (wanted_none rfl) rfl (by decide) (fr rfl) (fun args => callP_13 args _) rfl #[] (by simp) (R := fun v' w' => v' = .bool true ∧ Below w9.heap.size w9 w') ((lives08_any _).mono fun e w' q => ⟨_, q.1, rfl, q.2⟩) fun a186 vx wx rx h185 => ?_
    obtain ⟨rfl, bx⟩ := rx; have HBx := hid (kept_trans HB9.out bx); clear bx
    refine wmk h185 rfl rfl rfl rfl 65 rfl (fun _ => rfl) fun a188 h187 => ?_
    have h189 := h187.subs (l' := [(8, _), (14, _), (13, _), (12, _), (11, _), (1, _), (9, _), (2, _), (3, _)]) rfl
    clear h187
    iterate 4 go_step
    simp only [Exit.then, Exit.inBlock]
    exact bodyPost_ret (results_tmp1 rfl (h189.known (8, .bool true) (by simp))) h189.defs ⟨rfl, HBx.out⟩
  have hfull : decide ((504 : Int) < ((u + eb.length : Nat) : Int)) = false := decide_eq_false (by omega)
  have hCok : encOk C = true := Classical.byContradiction fun q => absurd (hee.symm.trans (if_neg q)) (by omega)
  iterate 2 go_step
  refine wmk h139 rfl rfl rfl rfl 14 rfl (fun _ => rfl) fun a191 h190 => ?_
  refine wv h190 rfl rfl rfl rfl (.bool false) (by unfold execOp; simp only [h190.ev 56 rfl]; exact run_v (neEP _ _ _ _ _ hbad)) fun a193 h192 => ?_
  refine wmk h192 rfl rfl rfl rfl 57 rfl (fun _ => rfl) fun a195 h194 => ?_
  refine wpk_val h194 (by rw [wanted_of (g := 2) (want := false) (b := false) rfl (h194.yields (prev := 58) rfl (by simp))]; rfl) rfl (by decide) (fr rfl) (.int .i64 (u : Int)) (by unfold execOp; simp only [h194.ev 12 rfl]; rfl) fun a197 h196 => ?_
  refine wpk_val h196 (by rw [wanted_of (g := 2) (want := false) (b := false) rfl (h196.yields (prev := 58) rfl (by simp))]; rfl) rfl (by decide) (fr rfl) (.slice ba eb.length bc) (by unfold execOp; simp only [h196.ev 13 rfl]; rfl) fun a199 h198 => ?_
  refine wpk_val h198 (by rw [wanted_of (g := 2) (want := false) (b := false) rfl (h198.yields (prev := 58) rfl (by simp))]; rfl) rfl (by decide) (fr rfl) (.int .i64 (eb.length : Int)) (run_lenBP rfl (h198.ev 60 rfl) _) fun a201 h200 => ?_
  refine wpk_val h200 (by rw [wanted_of (g := 2) (want := false) (b := false) rfl (h200.yields (prev := 58) rfl (by simp))]; rfl) rfl (by decide) (fr rfl) (.int .i64 ((u + eb.length : Nat) : Int)) (by unfold execOp; simp only [h200.ev 59 rfl, h200.ev 61 rfl]; exact run_v (addNP _ _ _ _ _ (by omega) (by omega) (by omega) _)) fun a203 h202 => ?_
  refine wpk_val h202 (by rw [wanted_of (g := 2) (want := false) (b := false) rfl (h202.yields (prev := 58) rfl (by simp))]; rfl) rfl (by decide) (fr rfl) (.bool false) (by unfold execOp; simp only [h202.ev 62 rfl]; exact run_v (gtIP _ _ _ _ _ hfull)) fun a205 h204 => ?_
  refine wv h204 rfl rfl rfl rfl (.bool false) (run_pick rfl (h204.ev 58 rfl) (by rw [if_neg (by simp)]; exact h204.ev 63 rfl)) fun a207 h206 => ?_
  have h208 := h206.subs (l' := [(64, _), (14, _), (13, _), (12, _), (11, _), (1, _), (9, _), (2, _), (3, _)]) rfl
  clear h206
  iterate 3 go_step
  refine wp_cond (t := false) (h208.ev 64 rfl) ?_
  simp only [Bool.false_eq_true, if_false]
  have h209 := h208.subs (l' := [(14, _), (13, _), (12, _), (11, _), (1, _), (9, _), (2, _), (3, _)]) rfl
  clear h208
  iterate 3 go_step
  have h210 := h209.subs (l' := [(9, _), (1, _), (2, _), (3, _), (11, _), (12, _), (13, _)]) rfl
  clear h209
  obtain ⟨st2, hst2⟩ : ∃ y : Int, y = (if st < 0 then -(st + 1) else st) := ⟨_, rfl⟩
  have hst2b : 0 ≤ st2 ∧ st2 ≤ 9223372036854775807 := by rw [hst2]; unfold i64B at hstI; split <;> omega
  unfold i64B at hstI
  refine wp_join (J := fun a' w' => Kn 185 [(9, .pointer (some ⟨K.pp, 0, none⟩)), (1, .slice la C.length lc), (2, .int .i64 st2), (3, .slice ia I.length ic), (11, .slice ra1 rs1.length rc1), (12, .int .i64 (u : Int)), (13, .slice ba eb.length bc)] a' ∧ w9 = w') ?_ ?_
  case refine_1 =>
    by_cases hn : st < 0
    · have hneg : decide (st < 0) = true := decide_eq_true hn
      rw [if_pos hn] at hst2
      iterate 3 go_step
      refine wmk h210 rfl rfl rfl rfl 2 rfl (fun _ => rfl) fun a212 h211 => ?_
      refine wv h211 rfl rfl rfl rfl (.bool true) (by unfold execOp; simp only [h211.ev 66 rfl]; exact run_v (ltIP _ _ _ _ _ hneg)) fun a214 h213 => ?_
      have h215 := h213.subs (l' := [(67, _), (9, _), (1, _), (2, _), (3, _), (11, _), (12, _), (13, _)]) rfl
      clear h213
      iterate 3 go_step
      refine wp_cond (t := true) (h215.ev 67 rfl) ?_
      simp only [if_true]
      have h216 := h215.subs (l' := [(9, _), (1, _), (2, _), (3, _), (11, _), (12, _), (13, _)]) rfl
      clear h215
      go_step
      refine wmk h216 rfl rfl rfl rfl 2 rfl (fun _ => rfl) fun a218 h217 => ?_
      refine wv h217 rfl rfl rfl rfl (.int .i64 (st + 1)) (by unfold execOp; simp only [h217.ev 68 rfl]; exact run_v (addNP _ _ _ _ _ rfl (by omega) (by omega) _)) fun a220 h219 => ?_
      refine wv h219 rfl rfl rfl rfl (.int .i64 (-(st + 1))) (run_negI rfl (h219.ev 69 rfl) (by omega) (by omega) _) fun a222 h221 => ?_
      have h223 := h221.subs (l' := [(70, _), (69, _), (68, _), (9, _), (1, _), (3, _), (11, _), (12, _), (13, _)]) rfl
      clear h221
      refine wmk h223 rfl rfl rfl rfl 70 rfl (fun _ => rfl) fun a225 h224 => ?_
      have h226 := h224.subs (l' := [(2, _), (9, _), (1, _), (3, _), (11, _), (12, _), (13, _)]) rfl
      clear h224
      iterate 2 go_step
      rw [← hst2] at h226
      exact ⟨h226.subs rfl, rfl⟩
    · have hneg : decide (st < 0) = false := decide_eq_false hn
      rw [if_neg hn] at hst2
      iterate 3 go_step
      refine wmk h210 rfl rfl rfl rfl 2 rfl (fun _ => rfl) fun a228 h227 => ?_
      refine wv h227 rfl rfl rfl rfl (.bool false) (by unfold execOp; simp only [h227.ev 66 rfl]; exact run_v (ltIP _ _ _ _ _ hneg)) fun a230 h229 => ?_
      have h231 := h229.subs (l' := [(67, _), (9, _), (1, _), (2, _), (3, _), (11, _), (12, _), (13, _)]) rfl
      clear h229
      iterate 3 go_step
      refine wp_cond (t := false) (h231.ev 67 rfl) ?_
      simp only [Bool.false_eq_true, if_false]
      have h232 := h231.subs (l' := [(9, _), (1, _), (2, _), (3, _), (11, _), (12, _), (13, _)]) rfl
      clear h231
      iterate 2 go_step
      rw [← hst2] at h232
      exact ⟨h232.subs rfl, rfl⟩
  rintro aj1 wj1 ⟨hQ1, rfl⟩
  clear hst2
  obtain ⟨k, hkst⟩ : ∃ k : Nat, k = (st2 % 7).toNat := ⟨_, rfl⟩
  have hk6' : k ≤ 6 := by omega
  have hst0 := hst2b.1
  iterate 2 go_step
  refine wmk hQ1 rfl rfl rfl rfl 2 rfl (fun _ => rfl) fun a234 h233 => ?_
  refine wv h233 rfl rfl rfl rfl (.int .i64 (k : Int)) (by unfold execOp; simp only [h233.ev 71 rfl]; exact run_v (remI7 _ _ _ _ hst0 hkst _)) fun a236 h235 => ?_
  refine wmk h235 rfl rfl rfl rfl 72 rfl (fun _ => rfl) fun a238 h237 => ?_
  have h239 := h237.subs (l' := [(15, _), (9, _), (1, _), (2, _), (3, _), (11, _), (12, _), (13, _)]) rfl
  clear h237
  iterate 3 go_step
  obtain ⟨wj, hwj⟩ : ∃ y, y = w9 := ⟨_, rfl⟩
  rw [← hwj] at HS9 HB9 R9 HR1 HE9 ⊢; clear hwj
  have HSj := HS9; have HBj := HB9; have Rj := R9; have HR1j := HR1; have HEj := HE9
  iterate 2 go_step
  refine wmk h239 rfl rfl rfl rfl 12 rfl (fun _ => rfl) fun a241 h240 => ?_
  refine wmk h240 rfl rfl rfl rfl 13 rfl (fun _ => rfl) fun a243 h242 => ?_
  refine wv h242 rfl rfl rfl rfl (.int .i64 (eb.length : Int)) (run_lenBP rfl (h242.ev 74 rfl) _) fun a245 h244 => ?_
  refine wv h244 rfl rfl rfl rfl (.int .i64 ((u + eb.length : Nat) : Int)) (by unfold execOp; simp only [h244.ev 73 rfl, h244.ev 75 rfl]; exact run_v (addNP _ _ _ _ _ (by omega) (by omega) (by omega) _)) fun a247 h246 => ?_
  refine wpk_call h246 (wanted_none rfl) rfl (by decide) (fr rfl) (fun args => callP_35 args _) rfl #[.slice none 0 0, .int .i64 ((u + eb.length : Nat) : Int), .int .i64 8] (by simp only [List.map_toArray, List.map_cons, List.map_nil, h246.ev 76 rfl]; rfl) (R := fun v' w' => ∃ x y, v' = .slice x (le 8 (u + eb.length)).length y ∧ OwnB w' wj.heap.size x y (le 8 (u + eb.length)) ∧ Below wj.heap.size wj w') ((put8_any (u + eb.length) (by omega) wj).mono fun e w' q => by obtain ⟨x, y, q1, q2, q3⟩ := q; exact ⟨_, q1, x, y, rfl, q2, q3⟩) fun a249 v16 w16 r16 h248 => ?_
  obtain ⟨ea, ec, rfl, o16, b16⟩ := r16; have HSx := hid (HSj.out.mono b16); have HBx0 := hid (kept_trans HBj.out b16); have Rx := hid (Own.mono Rj.out b16); have HR1x := hid (HR1j.out.mono b16); have HEx := hid (Own.mono HEj.out b16); have HNx := hid o16; have hltx : ∀ k, K.all k → k < wj.heap.size := sides_lt HSj.out; clear b16 o16
  refine wmk h248 rfl rfl rfl rfl 77 rfl (fun _ => rfl) fun a251 h250 => ?_
  have h252 := h250.subs (l' := [(16, _), (15, _), (9, _), (1, _), (2, _), (3, _), (11, _), (12, _), (13, _)]) rfl
  clear h250
  iterate 3 go_step
  have h253 := h252.subs (l' := [(9, _), (1, _), (3, _), (11, _), (12, _), (13, _), (15, _), (16, _)]) rfl
  clear h252
  have TLx : Hid (Turns (XM K.v K.d K.p) w16 w16) := hid (Turns.refl _ _)
  have LLx : Hid (LogP w16 K.lg K.g K.v K.d K.p 512 512 M) := hid HSx.out.l
  have HSc := hid (HSx.out.left LLx.out TLx.out); have HEc := hid (TLx.out.own HEx.out (by intro k hk; exact hlt9 k (.inl hk))); have HNc := hid (TLx.out.own HNx.out (by intro k hk; exact hltx k (.inl hk)))
  obtain ⟨wc, hwc⟩ : ∃ y, y = w16 := ⟨_, rfl⟩
  have Tc : Hid (Turns (XM K.v K.d K.p) w16 wc) := hid (by rw [hwc]; exact Turns.refl _ _)
  rw [← hwc] at HSc HEc HNc ⊢
  clear hwc
  refine wp_join (J := fun a' w' => Kn 185 [(9, .pointer (some ⟨K.pp, 0, none⟩)), (1, .slice la C.length lc), (3, .slice ia I.length ic), (11, .slice ra1 rs1.length rc1), (12, .int .i64 (u : Int)), (13, .slice ba eb.length bc), (15, .int .i64 (k : Int)), (16, .slice ea (le 8 (u + eb.length)).length ec)] a' ∧ LogP w' K.lg K.g K.v K.d K.p 512 512 (T1 M u eb k) ∧ Turns (XM K.v K.d K.p) w16 w') ?_ ?_
  case refine_1 =>
    by_cases hk1 : 0 < k
    · have hkc : decide ((0 : Int) < (k : Int)) = true := decide_eq_true (by omega)
      iterate 3 go_step
      refine wmk h253 rfl rfl rfl rfl 15 rfl (fun _ => rfl) fun a255 h254 => ?_
      refine wv h254 rfl rfl rfl rfl (.bool true) (by unfold execOp; simp only [h254.ev 78 rfl]; exact run_v (gtIP _ _ _ _ _ hkc)) fun a257 h256 => ?_
      have h258 := h256.subs (l' := [(79, _), (9, _), (1, _), (3, _), (11, _), (12, _), (13, _), (15, _), (16, _)]) rfl
      clear h256
      iterate 3 go_step
      refine wp_cond (t := true) (h258.ev 79 rfl) ?_
      simp only [if_true]
      have h259 := h258.subs (l' := [(9, _), (1, _), (3, _), (11, _), (12, _), (13, _), (15, _), (16, _)]) rfl
      clear h258
      go_step
      refine wmk h259 rfl rfl rfl rfl 9 rfl (fun _ => rfl) fun a261 h260 => ?_
      refine wv h260 rfl rfl rfl rfl (.pointer (some ⟨K.pp, 0, none⟩)) (by unfold execOp; simp only [h260.ev 80 rfl]; exact rfl) fun a263 h262 => ?_
      refine wv h262 rfl rfl rfl rfl (.pointer (some ⟨K.pp, 0, none⟩)) (by unfold execOp; simp only [h262.ev 81 rfl]; exact run_v (fa_50_0_0 (K.pp) _)) fun a265 h264 => ?_
      refine wv h264 rfl rfl rfl rfl (.pointer (some ⟨K.g, 0, none⟩)) (by unfold execOp; simp only [h264.ev 82 rfl]; exact run_v (loadMP (HSc.out.b.cell (i := 0) (by show 0 < 4; omega)))) fun a267 h266 => ?_
      refine wmk h266 rfl rfl rfl rfl 12 rfl (fun _ => rfl) fun a269 h268 => ?_
      refine wv h268 rfl rfl rfl rfl (.int .i64 ((520 + u : Nat) : Int)) (by unfold execOp; simp only [h268.ev 84 rfl]; exact run_v (addNP _ _ _ _ _ (by omega) (by omega) (by omega) _)) fun a271 h270 => ?_
      refine wmk h270 rfl rfl rfl rfl 13 rfl (fun _ => rfl) fun a273 h272 => ?_
      refine wpk_call h272 (wanted_none rfl) rfl (by decide) (fr rfl) (fun args => callP_23 args _) rfl #[.pointer (some ⟨K.g, 0, none⟩), .int .i64 ((520 + u : Nat) : Int), .slice ba eb.length bc] (by simp only [List.map_toArray, List.map_cons, List.map_nil, h272.ev 83 rfl, h272.ev 85 rfl, h272.ev 86 rfl]) (R := fun v' w' => LogP w' K.lg K.g K.v K.d K.p 512 512 (storeM (M) (520 + u) eb) ∧ Turns (XM K.v K.d K.p) wc w') ((store_okP HSc.out.l.m (520 + u) ba bc eb (HEc.out).row (by rw [hlenM]; omega)).mono fun e w' q => by obtain ⟨q1, q2, q3⟩ := q; exact ⟨_, q1, HSc.out.l.next q2 q3 (by intro k hk; rcases hk with e | e; exact .inl e; exact .inr (.inr e)), q3.mono (by intro k hk; rcases hk with e | e; exact .inl e; exact .inr (.inr e))⟩) fun a275 vt1 wt1 rt1 h274 => ?_
      have h276 := h274.subs (l' := [(9, _), (1, _), (3, _), (11, _), (12, _), (13, _), (15, _), (16, _)]) rfl
      clear h274
      iterate 2 go_step
      exact ⟨h276.subs rfl, by unfold T1; rw [if_pos hk1]; exact rt1.1, Tc.out.trans rt1.2⟩
    · have hkc : decide ((0 : Int) < (k : Int)) = false := decide_eq_false (by omega)
      iterate 3 go_step
      refine wmk h253 rfl rfl rfl rfl 15 rfl (fun _ => rfl) fun a278 h277 => ?_
      refine wv h277 rfl rfl rfl rfl (.bool false) (by unfold execOp; simp only [h277.ev 78 rfl]; exact run_v (gtIP _ _ _ _ _ hkc)) fun a280 h279 => ?_
      have h281 := h279.subs (l' := [(79, _), (9, _), (1, _), (3, _), (11, _), (12, _), (13, _), (15, _), (16, _)]) rfl
      clear h279
      iterate 3 go_step
      refine wp_cond (t := false) (h281.ev 79 rfl) ?_
      simp only [Bool.false_eq_true, if_false]
      have h282 := h281.subs (l' := [(9, _), (1, _), (3, _), (11, _), (12, _), (13, _), (15, _), (16, _)]) rfl
      clear h281
      iterate 2 go_step
      exact ⟨h282.subs rfl, by unfold T1; rw [if_neg hk1]; exact HSc.out.l, Tc.out⟩
  clear HSc HEc HNc Tc
  rintro ak1 wk1 ⟨hK1, ll1, tt1⟩
  have LL1 := hid ll1; have TT1 := hid tt1; clear ll1 tt1
  have HSc := hid (HSx.out.left LL1.out TT1.out); have HEc := hid (TT1.out.own HEx.out (by intro k hk; exact hlt9 k (.inl hk))); have HNc := hid (TT1.out.own HNx.out (by intro k hk; exact hltx k (.inl hk)))
  obtain ⟨wc, hwc⟩ : ∃ y, y = wk1 := ⟨_, rfl⟩
  rw [← hwc] at HSc HEc HNc LL1 TT1 ⊢
  have Tc := TT1
  clear hwc
  refine wp_join (J := fun a' w' => Kn 185 [(9, .pointer (some ⟨K.pp, 0, none⟩)), (1, .slice la C.length lc), (3, .slice ia I.length ic), (11, .slice ra1 rs1.length rc1), (12, .int .i64 (u : Int)), (13, .slice ba eb.length bc), (15, .int .i64 (k : Int)), (16, .slice ea (le 8 (u + eb.length)).length ec)] a' ∧ LogP w' K.lg K.g K.v K.d K.p 512 512 (T2 M u eb k) ∧ Turns (XM K.v K.d K.p) w16 w') ?_ ?_
  case refine_1 =>
    by_cases hk2 : 1 < k
    · have hkc : decide ((1 : Int) < (k : Int)) = true := decide_eq_true (by omega)
      iterate 3 go_step
      refine wmk hK1 rfl rfl rfl rfl 15 rfl (fun _ => rfl) fun a284 h283 => ?_
      refine wv h283 rfl rfl rfl rfl (.bool true) (by unfold execOp; simp only [h283.ev 88 rfl]; exact run_v (gtIP _ _ _ _ _ hkc)) fun a286 h285 => ?_
      have h287 := h285.subs (l' := [(89, _), (9, _), (1, _), (3, _), (11, _), (12, _), (13, _), (15, _), (16, _)]) rfl
      clear h285
      iterate 3 go_step
      refine wp_cond (t := true) (h287.ev 89 rfl) ?_
      simp only [if_true]
      have h288 := h287.subs (l' := [(9, _), (1, _), (3, _), (11, _), (12, _), (13, _), (15, _), (16, _)]) rfl
      clear h287
      go_step
      refine wmk h288 rfl rfl rfl rfl 9 rfl (fun _ => rfl) fun a290 h289 => ?_
      refine wv h289 rfl rfl rfl rfl (.pointer (some ⟨K.pp, 0, none⟩)) (by unfold execOp; simp only [h289.ev 90 rfl]; exact rfl) fun a292 h291 => ?_
      refine wv h291 rfl rfl rfl rfl (.pointer (some ⟨K.pp, 0, none⟩)) (by unfold execOp; simp only [h291.ev 91 rfl]; exact run_v (fa_50_0_0 (K.pp) _)) fun a294 h293 => ?_
      refine wv h293 rfl rfl rfl rfl (.pointer (some ⟨K.g, 0, none⟩)) (by unfold execOp; simp only [h293.ev 92 rfl]; exact run_v (loadMP (HSc.out.b.cell (i := 0) (by show 0 < 4; omega)))) fun a296 h295 => ?_
      refine wmk h295 rfl rfl rfl rfl 12 rfl (fun _ => rfl) fun a298 h297 => ?_
      refine wv h297 rfl rfl rfl rfl (.int .i64 ((520 + u : Nat) : Int)) (by unfold execOp; simp only [h297.ev 94 rfl]; exact run_v (addNP _ _ _ _ _ (by omega) (by omega) (by omega) _)) fun a300 h299 => ?_
      refine wmk h299 rfl rfl rfl rfl 13 rfl (fun _ => rfl) fun a302 h301 => ?_
      refine wv h301 rfl rfl rfl rfl (.int .i64 (eb.length : Int)) (run_lenBP rfl (h301.ev 96 rfl) _) fun a304 h303 => ?_
      refine wpk_call h303 (wanted_none rfl) rfl (by decide) (fr rfl) (fun args => callP_76 args _) rfl #[.pointer (some ⟨K.g, 0, none⟩), .int .i64 ((520 + u : Nat) : Int), .int .i64 (eb.length : Int)] (by simp only [List.map_toArray, List.map_cons, List.map_nil, h303.ev 93 rfl, h303.ev 95 rfl, h303.ev 97 rfl]) (R := fun v' w' => LogP w' K.lg K.g K.v K.d K.p 512 512 (flushM (T1 M u eb k) (520 + u) eb.length) ∧ Turns (XM K.v K.d K.p) wc w') ((flush_okP HSc.out.l.m (520 + u) eb.length (by rw [(T1_len hlenM hfit k)]; omega)).mono fun e w' q => by obtain ⟨q1, q2, q3⟩ := q; exact ⟨_, q1, HSc.out.l.next q2 q3 (by intro k hk; exact .inr (.inr hk)), q3.mono (by intro k hk; exact .inr (.inr hk))⟩) fun a306 vt2 wt2 rt2 h305 => ?_
      have h307 := h305.subs (l' := [(9, _), (1, _), (3, _), (11, _), (12, _), (13, _), (15, _), (16, _)]) rfl
      clear h305
      iterate 2 go_step
      exact ⟨h307.subs rfl, by unfold T2; rw [if_pos hk2]; exact rt2.1, Tc.out.trans rt2.2⟩
    · have hkc : decide ((1 : Int) < (k : Int)) = false := decide_eq_false (by omega)
      iterate 3 go_step
      refine wmk hK1 rfl rfl rfl rfl 15 rfl (fun _ => rfl) fun a309 h308 => ?_
      refine wv h308 rfl rfl rfl rfl (.bool false) (by unfold execOp; simp only [h308.ev 88 rfl]; exact run_v (gtIP _ _ _ _ _ hkc)) fun a311 h310 => ?_
      have h312 := h310.subs (l' := [(89, _), (9, _), (1, _), (3, _), (11, _), (12, _), (13, _), (15, _), (16, _)]) rfl
      clear h310
      iterate 3 go_step
      refine wp_cond (t := false) (h312.ev 89 rfl) ?_
      simp only [Bool.false_eq_true, if_false]
      have h313 := h312.subs (l' := [(9, _), (1, _), (3, _), (11, _), (12, _), (13, _), (15, _), (16, _)]) rfl
      clear h312
      iterate 2 go_step
      exact ⟨h313.subs rfl, by unfold T2; rw [if_neg hk2]; exact HSc.out.l, Tc.out⟩
  clear HSc HEc HNc Tc
  rintro ak2 wk2 ⟨hK2, ll2, tt2⟩
  have LL2 := hid ll2; have TT2 := hid tt2; clear ll2 tt2
  have HSc := hid (HSx.out.left LL2.out TT2.out); have HEc := hid (TT2.out.own HEx.out (by intro k hk; exact hlt9 k (.inl hk))); have HNc := hid (TT2.out.own HNx.out (by intro k hk; exact hltx k (.inl hk)))
  obtain ⟨wc, hwc⟩ : ∃ y, y = wk2 := ⟨_, rfl⟩
  rw [← hwc] at HSc HEc HNc LL2 TT2 ⊢
  have Tc := TT2
  clear hwc
  refine wp_join (J := fun a' w' => Kn 185 [(9, .pointer (some ⟨K.pp, 0, none⟩)), (1, .slice la C.length lc), (3, .slice ia I.length ic), (11, .slice ra1 rs1.length rc1), (12, .int .i64 (u : Int)), (13, .slice ba eb.length bc), (15, .int .i64 (k : Int)), (16, .slice ea (le 8 (u + eb.length)).length ec)] a' ∧ LogP w' K.lg K.g K.v K.d K.p 512 512 (T3 M u eb k) ∧ Turns (XM K.v K.d K.p) w16 w') ?_ ?_
  case refine_1 =>
    by_cases hk3 : 2 < k
    · have hkc : decide ((2 : Int) < (k : Int)) = true := decide_eq_true (by omega)
      iterate 3 go_step
      refine wmk hK2 rfl rfl rfl rfl 15 rfl (fun _ => rfl) fun a315 h314 => ?_
      refine wv h314 rfl rfl rfl rfl (.bool true) (by unfold execOp; simp only [h314.ev 99 rfl]; exact run_v (gtIP _ _ _ _ _ hkc)) fun a317 h316 => ?_
      have h318 := h316.subs (l' := [(100, _), (9, _), (1, _), (3, _), (11, _), (12, _), (13, _), (15, _), (16, _)]) rfl
      clear h316
      iterate 3 go_step
      refine wp_cond (t := true) (h318.ev 100 rfl) ?_
      simp only [if_true]
      have h319 := h318.subs (l' := [(9, _), (1, _), (3, _), (11, _), (12, _), (13, _), (15, _), (16, _)]) rfl
      clear h318
      go_step
      refine wmk h319 rfl rfl rfl rfl 9 rfl (fun _ => rfl) fun a321 h320 => ?_
      refine wv h320 rfl rfl rfl rfl (.pointer (some ⟨K.pp, 0, none⟩)) (by unfold execOp; simp only [h320.ev 101 rfl]; exact rfl) fun a323 h322 => ?_
      refine wv h322 rfl rfl rfl rfl (.pointer (some ⟨K.pp, 0, none⟩)) (by unfold execOp; simp only [h322.ev 102 rfl]; exact run_v (fa_50_0_0 (K.pp) _)) fun a325 h324 => ?_
      refine wv h324 rfl rfl rfl rfl (.pointer (some ⟨K.g, 0, none⟩)) (by unfold execOp; simp only [h324.ev 103 rfl]; exact run_v (loadMP (HSc.out.b.cell (i := 0) (by show 0 < 4; omega)))) fun a327 h326 => ?_
      refine wpk_call h326 (wanted_none rfl) rfl (by decide) (fr rfl) (fun args => callP_75 args _) rfl #[.pointer (some ⟨K.g, 0, none⟩)] (by simp only [List.map_toArray, List.map_cons, List.map_nil, h326.ev 104 rfl]) (R := fun v' w' => LogP w' K.lg K.g K.v K.d K.p 512 512 (fenceM (T2 M u eb k)) ∧ Turns (XM K.v K.d K.p) wc w') ((fence_any HSc.out.l.m).mono fun e w' q => by obtain ⟨⟨y, q1⟩, q2, q3⟩ := q; exact ⟨y, q1, HSc.out.l.next q2 q3 (by intro k hk; exact .inr hk), q3.mono (by intro k hk; exact .inr hk)⟩) fun a329 vt3 wt3 rt3 h328 => ?_
      have h330 := h328.subs (l' := [(9, _), (1, _), (3, _), (11, _), (12, _), (13, _), (15, _), (16, _)]) rfl
      clear h328
      iterate 2 go_step
      exact ⟨h330.subs rfl, by unfold T3; rw [if_pos hk3]; exact rt3.1, Tc.out.trans rt3.2⟩
    · have hkc : decide ((2 : Int) < (k : Int)) = false := decide_eq_false (by omega)
      iterate 3 go_step
      refine wmk hK2 rfl rfl rfl rfl 15 rfl (fun _ => rfl) fun a332 h331 => ?_
      refine wv h331 rfl rfl rfl rfl (.bool false) (by unfold execOp; simp only [h331.ev 99 rfl]; exact run_v (gtIP _ _ _ _ _ hkc)) fun a334 h333 => ?_
      have h335 := h333.subs (l' := [(100, _), (9, _), (1, _), (3, _), (11, _), (12, _), (13, _), (15, _), (16, _)]) rfl
      clear h333
      iterate 3 go_step
      refine wp_cond (t := false) (h335.ev 100 rfl) ?_
      simp only [Bool.false_eq_true, if_false]
      have h336 := h335.subs (l' := [(9, _), (1, _), (3, _), (11, _), (12, _), (13, _), (15, _), (16, _)]) rfl
      clear h335
      iterate 2 go_step
      exact ⟨h336.subs rfl, by unfold T3; rw [if_neg hk3]; exact HSc.out.l, Tc.out⟩
  clear HSc HEc HNc Tc
  rintro ak3 wk3 ⟨hK3, ll3, tt3⟩
  have LL3 := hid ll3; have TT3 := hid tt3; clear ll3 tt3
  have HSc := hid (HSx.out.left LL3.out TT3.out); have HEc := hid (TT3.out.own HEx.out (by intro k hk; exact hlt9 k (.inl hk))); have HNc := hid (TT3.out.own HNx.out (by intro k hk; exact hltx k (.inl hk)))
  obtain ⟨wc, hwc⟩ : ∃ y, y = wk3 := ⟨_, rfl⟩
  rw [← hwc] at HSc HEc HNc LL3 TT3 ⊢
  have Tc := TT3
  clear hwc
  refine wp_join (J := fun a' w' => Kn 185 [(9, .pointer (some ⟨K.pp, 0, none⟩)), (1, .slice la C.length lc), (3, .slice ia I.length ic), (11, .slice ra1 rs1.length rc1), (12, .int .i64 (u : Int)), (13, .slice ba eb.length bc), (15, .int .i64 (k : Int)), (16, .slice ea (le 8 (u + eb.length)).length ec)] a' ∧ LogP w' K.lg K.g K.v K.d K.p 512 512 (T4 M u eb k) ∧ Turns (XM K.v K.d K.p) w16 w') ?_ ?_
  case refine_1 =>
    by_cases hk4 : 3 < k
    · have hkc : decide ((3 : Int) < (k : Int)) = true := decide_eq_true (by omega)
      iterate 3 go_step
      refine wmk hK3 rfl rfl rfl rfl 15 rfl (fun _ => rfl) fun a338 h337 => ?_
      refine wv h337 rfl rfl rfl rfl (.bool true) (by unfold execOp; simp only [h337.ev 106 rfl]; exact run_v (gtIP _ _ _ _ _ hkc)) fun a340 h339 => ?_
      have h341 := h339.subs (l' := [(107, _), (9, _), (1, _), (3, _), (11, _), (12, _), (13, _), (15, _), (16, _)]) rfl
      clear h339
      iterate 3 go_step
      refine wp_cond (t := true) (h341.ev 107 rfl) ?_
      simp only [if_true]
      have h342 := h341.subs (l' := [(9, _), (1, _), (3, _), (11, _), (12, _), (13, _), (15, _), (16, _)]) rfl
      clear h341
      go_step
      refine wmk h342 rfl rfl rfl rfl 9 rfl (fun _ => rfl) fun a344 h343 => ?_
      refine wv h343 rfl rfl rfl rfl (.pointer (some ⟨K.pp, 0, none⟩)) (by unfold execOp; simp only [h343.ev 108 rfl]; exact rfl) fun a346 h345 => ?_
      refine wv h345 rfl rfl rfl rfl (.pointer (some ⟨K.pp, 0, none⟩)) (by unfold execOp; simp only [h345.ev 109 rfl]; exact run_v (fa_50_0_0 (K.pp) _)) fun a348 h347 => ?_
      refine wv h347 rfl rfl rfl rfl (.pointer (some ⟨K.g, 0, none⟩)) (by unfold execOp; simp only [h347.ev 110 rfl]; exact run_v (loadMP (HSc.out.b.cell (i := 0) (by show 0 < 4; omega)))) fun a350 h349 => ?_
      refine wmk h349 rfl rfl rfl rfl 16 rfl (fun _ => rfl) fun a352 h351 => ?_
      refine wpk_call h351 (wanted_none rfl) rfl (by decide) (fr rfl) (fun args => callP_23 args _) rfl #[.pointer (some ⟨K.g, 0, none⟩), .int .i64 512, .slice ea (le 8 (u + eb.length)).length ec] (by simp only [List.map_toArray, List.map_cons, List.map_nil, h351.ev 111 rfl, h351.ev 112 rfl]; rfl) (R := fun v' w' => LogP w' K.lg K.g K.v K.d K.p 512 512 (storeM (T3 M u eb k) 512 (le 8 (u + eb.length))) ∧ Turns (XM K.v K.d K.p) wc w') ((store_okP HSc.out.l.m 512 ea ec (le 8 (u + eb.length)) (HNc.out).row (by rw [(T3_len hlenM hfit k), le_length]; omega)).mono fun e w' q => by obtain ⟨q1, q2, q3⟩ := q; exact ⟨_, q1, HSc.out.l.next q2 q3 (by intro k hk; rcases hk with e | e; exact .inl e; exact .inr (.inr e)), q3.mono (by intro k hk; rcases hk with e | e; exact .inl e; exact .inr (.inr e))⟩) fun a354 vt4 wt4 rt4 h353 => ?_
      have h355 := h353.subs (l' := [(9, _), (1, _), (3, _), (11, _), (12, _), (13, _), (15, _), (16, _)]) rfl
      clear h353
      iterate 2 go_step
      exact ⟨h355.subs rfl, by unfold T4; rw [if_pos hk4]; exact rt4.1, Tc.out.trans rt4.2⟩
    · have hkc : decide ((3 : Int) < (k : Int)) = false := decide_eq_false (by omega)
      iterate 3 go_step
      refine wmk hK3 rfl rfl rfl rfl 15 rfl (fun _ => rfl) fun a357 h356 => ?_
      refine wv h356 rfl rfl rfl rfl (.bool false) (by unfold execOp; simp only [h356.ev 106 rfl]; exact run_v (gtIP _ _ _ _ _ hkc)) fun a359 h358 => ?_
      have h360 := h358.subs (l' := [(107, _), (9, _), (1, _), (3, _), (11, _), (12, _), (13, _), (15, _), (16, _)]) rfl
      clear h358
      iterate 3 go_step
      refine wp_cond (t := false) (h360.ev 107 rfl) ?_
      simp only [Bool.false_eq_true, if_false]
      have h361 := h360.subs (l' := [(9, _), (1, _), (3, _), (11, _), (12, _), (13, _), (15, _), (16, _)]) rfl
      clear h360
      iterate 2 go_step
      exact ⟨h361.subs rfl, by unfold T4; rw [if_neg hk4]; exact HSc.out.l, Tc.out⟩
  clear HSc HEc HNc Tc
  rintro ak4 wk4 ⟨hK4, ll4, tt4⟩
  have LL4 := hid ll4; have TT4 := hid tt4; clear ll4 tt4
  have HSc := hid (HSx.out.left LL4.out TT4.out); have HEc := hid (TT4.out.own HEx.out (by intro k hk; exact hlt9 k (.inl hk))); have HNc := hid (TT4.out.own HNx.out (by intro k hk; exact hltx k (.inl hk)))
  obtain ⟨wc, hwc⟩ : ∃ y, y = wk4 := ⟨_, rfl⟩
  rw [← hwc] at HSc HEc HNc LL4 TT4 ⊢
  have Tc := TT4
  clear hwc
  refine wp_join (J := fun a' w' => Kn 185 [(9, .pointer (some ⟨K.pp, 0, none⟩)), (1, .slice la C.length lc), (3, .slice ia I.length ic), (11, .slice ra1 rs1.length rc1), (12, .int .i64 (u : Int)), (13, .slice ba eb.length bc), (15, .int .i64 (k : Int)), (16, .slice ea (le 8 (u + eb.length)).length ec)] a' ∧ LogP w' K.lg K.g K.v K.d K.p 512 512 (T5 M u eb k) ∧ Turns (XM K.v K.d K.p) w16 w') ?_ ?_
  case refine_1 =>
    by_cases hk5 : 4 < k
    · have hkc : decide ((4 : Int) < (k : Int)) = true := decide_eq_true (by omega)
      iterate 3 go_step
      refine wmk hK4 rfl rfl rfl rfl 15 rfl (fun _ => rfl) fun a363 h362 => ?_
      refine wv h362 rfl rfl rfl rfl (.bool true) (by unfold execOp; simp only [h362.ev 114 rfl]; exact run_v (gtIP _ _ _ _ _ hkc)) fun a365 h364 => ?_
      have h366 := h364.subs (l' := [(115, _), (9, _), (1, _), (3, _), (11, _), (12, _), (13, _), (15, _), (16, _)]) rfl
      clear h364
      iterate 3 go_step
      refine wp_cond (t := true) (h366.ev 115 rfl) ?_
      simp only [if_true]
      have h367 := h366.subs (l' := [(9, _), (1, _), (3, _), (11, _), (12, _), (13, _), (15, _), (16, _)]) rfl
      clear h366
      go_step
      refine wmk h367 rfl rfl rfl rfl 9 rfl (fun _ => rfl) fun a369 h368 => ?_
      refine wv h368 rfl rfl rfl rfl (.pointer (some ⟨K.pp, 0, none⟩)) (by unfold execOp; simp only [h368.ev 116 rfl]; exact rfl) fun a371 h370 => ?_
      refine wv h370 rfl rfl rfl rfl (.pointer (some ⟨K.pp, 0, none⟩)) (by unfold execOp; simp only [h370.ev 117 rfl]; exact run_v (fa_50_0_0 (K.pp) _)) fun a373 h372 => ?_
      refine wv h372 rfl rfl rfl rfl (.pointer (some ⟨K.g, 0, none⟩)) (by unfold execOp; simp only [h372.ev 118 rfl]; exact run_v (loadMP (HSc.out.b.cell (i := 0) (by show 0 < 4; omega)))) fun a375 h374 => ?_
      refine wpk_call h374 (wanted_none rfl) rfl (by decide) (fr rfl) (fun args => callP_76 args _) rfl #[.pointer (some ⟨K.g, 0, none⟩), .int .i64 512, .int .i64 8] (by simp only [List.map_toArray, List.map_cons, List.map_nil, h374.ev 119 rfl]; rfl) (R := fun v' w' => LogP w' K.lg K.g K.v K.d K.p 512 512 (flushM (T4 M u eb k) 512 8) ∧ Turns (XM K.v K.d K.p) wc w') ((flush_okP HSc.out.l.m 512 8 (by rw [(T4_len hlenM hfit k)]; omega)).mono fun e w' q => by obtain ⟨q1, q2, q3⟩ := q; exact ⟨_, q1, HSc.out.l.next q2 q3 (by intro k hk; exact .inr (.inr hk)), q3.mono (by intro k hk; exact .inr (.inr hk))⟩) fun a377 vt5 wt5 rt5 h376 => ?_
      have h378 := h376.subs (l' := [(9, _), (1, _), (3, _), (11, _), (12, _), (13, _), (15, _), (16, _)]) rfl
      clear h376
      iterate 2 go_step
      exact ⟨h378.subs rfl, by unfold T5; rw [if_pos hk5]; exact rt5.1, Tc.out.trans rt5.2⟩
    · have hkc : decide ((4 : Int) < (k : Int)) = false := decide_eq_false (by omega)
      iterate 3 go_step
      refine wmk hK4 rfl rfl rfl rfl 15 rfl (fun _ => rfl) fun a380 h379 => ?_
      refine wv h379 rfl rfl rfl rfl (.bool false) (by unfold execOp; simp only [h379.ev 114 rfl]; exact run_v (gtIP _ _ _ _ _ hkc)) fun a382 h381 => ?_
      have h383 := h381.subs (l' := [(115, _), (9, _), (1, _), (3, _), (11, _), (12, _), (13, _), (15, _), (16, _)]) rfl
      clear h381
      iterate 3 go_step
      refine wp_cond (t := false) (h383.ev 115 rfl) ?_
      simp only [Bool.false_eq_true, if_false]
      have h384 := h383.subs (l' := [(9, _), (1, _), (3, _), (11, _), (12, _), (13, _), (15, _), (16, _)]) rfl
      clear h383
      iterate 2 go_step
      exact ⟨h384.subs rfl, by unfold T5; rw [if_neg hk5]; exact HSc.out.l, Tc.out⟩
  clear HSc HEc HNc Tc
  rintro ak5 wk5 ⟨hK5, ll5, tt5⟩
  have LL5 := hid ll5; have TT5 := hid tt5; clear ll5 tt5
  have HSc := hid (HSx.out.left LL5.out TT5.out); have HEc := hid (TT5.out.own HEx.out (by intro k hk; exact hlt9 k (.inl hk))); have HNc := hid (TT5.out.own HNx.out (by intro k hk; exact hltx k (.inl hk)))
  obtain ⟨wc, hwc⟩ : ∃ y, y = wk5 := ⟨_, rfl⟩
  rw [← hwc] at HSc HEc HNc LL5 TT5 ⊢
  have Tc := TT5
  clear hwc
  refine wp_join (J := fun a' w' => Kn 185 [(9, .pointer (some ⟨K.pp, 0, none⟩)), (1, .slice la C.length lc), (3, .slice ia I.length ic), (11, .slice ra1 rs1.length rc1), (12, .int .i64 (u : Int)), (13, .slice ba eb.length bc), (15, .int .i64 (k : Int)), (16, .slice ea (le 8 (u + eb.length)).length ec)] a' ∧ LogP w' K.lg K.g K.v K.d K.p 512 512 (T6 M u eb k) ∧ Turns (XM K.v K.d K.p) w16 w') ?_ ?_
  case refine_1 =>
    by_cases hk6 : 5 < k
    · have hkc : decide ((5 : Int) < (k : Int)) = true := decide_eq_true (by omega)
      iterate 3 go_step
      refine wmk hK5 rfl rfl rfl rfl 15 rfl (fun _ => rfl) fun a386 h385 => ?_
      refine wv h385 rfl rfl rfl rfl (.bool true) (by unfold execOp; simp only [h385.ev 121 rfl]; exact run_v (gtIP _ _ _ _ _ hkc)) fun a388 h387 => ?_
      have h389 := h387.subs (l' := [(122, _), (9, _), (1, _), (3, _), (11, _), (12, _), (13, _), (15, _), (16, _)]) rfl
      clear h387
      iterate 3 go_step
      refine wp_cond (t := true) (h389.ev 122 rfl) ?_
      simp only [if_true]
      have h390 := h389.subs (l' := [(9, _), (1, _), (3, _), (11, _), (12, _), (13, _), (15, _), (16, _)]) rfl
      clear h389
      go_step
      refine wmk h390 rfl rfl rfl rfl 9 rfl (fun _ => rfl) fun a392 h391 => ?_
      refine wv h391 rfl rfl rfl rfl (.pointer (some ⟨K.pp, 0, none⟩)) (by unfold execOp; simp only [h391.ev 123 rfl]; exact rfl) fun a394 h393 => ?_
      refine wv h393 rfl rfl rfl rfl (.pointer (some ⟨K.pp, 0, none⟩)) (by unfold execOp; simp only [h393.ev 124 rfl]; exact run_v (fa_50_0_0 (K.pp) _)) fun a396 h395 => ?_
      refine wv h395 rfl rfl rfl rfl (.pointer (some ⟨K.g, 0, none⟩)) (by unfold execOp; simp only [h395.ev 125 rfl]; exact run_v (loadMP (HSc.out.b.cell (i := 0) (by show 0 < 4; omega)))) fun a398 h397 => ?_
      refine wpk_call h397 (wanted_none rfl) rfl (by decide) (fr rfl) (fun args => callP_75 args _) rfl #[.pointer (some ⟨K.g, 0, none⟩)] (by simp only [List.map_toArray, List.map_cons, List.map_nil, h397.ev 126 rfl]) (R := fun v' w' => LogP w' K.lg K.g K.v K.d K.p 512 512 (fenceM (T5 M u eb k)) ∧ Turns (XM K.v K.d K.p) wc w') ((fence_any HSc.out.l.m).mono fun e w' q => by obtain ⟨⟨y, q1⟩, q2, q3⟩ := q; exact ⟨y, q1, HSc.out.l.next q2 q3 (by intro k hk; exact .inr hk), q3.mono (by intro k hk; exact .inr hk)⟩) fun a400 vt6 wt6 rt6 h399 => ?_
      have h401 := h399.subs (l' := [(9, _), (1, _), (3, _), (11, _), (12, _), (13, _), (15, _), (16, _)]) rfl
      clear h399
      iterate 2 go_step
      exact ⟨h401.subs rfl, by unfold T6; rw [if_pos hk6]; exact rt6.1, Tc.out.trans rt6.2⟩
    · have hkc : decide ((5 : Int) < (k : Int)) = false := decide_eq_false (by omega)
      iterate 3 go_step
      refine wmk hK5 rfl rfl rfl rfl 15 rfl (fun _ => rfl) fun a403 h402 => ?_
      refine wv h402 rfl rfl rfl rfl (.bool false) (by unfold execOp; simp only [h402.ev 121 rfl]; exact run_v (gtIP _ _ _ _ _ hkc)) fun a405 h404 => ?_
      have h406 := h404.subs (l' := [(122, _), (9, _), (1, _), (3, _), (11, _), (12, _), (13, _), (15, _), (16, _)]) rfl
      clear h404
      iterate 3 go_step
      refine wp_cond (t := false) (h406.ev 122 rfl) ?_
      simp only [Bool.false_eq_true, if_false]
      have h407 := h406.subs (l' := [(9, _), (1, _), (3, _), (11, _), (12, _), (13, _), (15, _), (16, _)]) rfl
      clear h406
      iterate 2 go_step
      exact ⟨h407.subs rfl, by unfold T6; rw [if_neg hk6]; exact HSc.out.l, Tc.out⟩
  clear HSc HEc HNc Tc
  rintro ak6 wk6 ⟨hK6, ll6, tt6⟩
  have LL6 := hid ll6; have TT6 := hid tt6; clear ll6 tt6
  have HSp := hid (HSx.out.left LL6.out TT6.out); have HBp := hid (sides_belowL HSx.out HBx0.out TT6.out); have Rp := hid (TT6.out.own Rx.out (by intro k hk; exact hlt7 k (.inl hk))); have HR1p := hid (HR1x.out.turns TT6.out (by intro k hk; exact hlt8 k (.inl hk)))
  obtain ⟨wp, hwp⟩ : ∃ y, y = wk6 := ⟨_, rfl⟩
  rw [← hwp] at HSp HBp Rp HR1p ⊢; clear hwp
  obtain ⟨J, hJ⟩ : ∃ J, J = I.take 200 := ⟨_, rfl⟩
  have HJ : Hid (RowI w ia ic J) := hid (by rw [hJ]; exact rowI_take HIS.out 200)
  have hJok : intsOk J := fun y hy => hIok y (List.mem_of_mem_take (by rw [← hJ]; exact hy))
  have h408 := hK6.subs (l' := [(9, _), (1, _), (3, _), (11, _), (15, _)]) rfl
  clear hK6
  refine wp_join (J := fun a' w' => Kn 185 [(9, .pointer (some ⟨K.pp, 0, none⟩)), (1, .slice la C.length lc), (3, .slice ia J.length ic), (11, .slice ra1 rs1.length rc1), (15, .int .i64 (k : Int))] a' ∧ wp = w') ?_ ?_
  case refine_1 =>
    by_cases hp2 : 200 < I.length
    · have hbig : decide ((200 : Int) < (I.length : Int)) = true := decide_eq_true (by omega)
      iterate 3 go_step
      refine wmk h408 rfl rfl rfl rfl 3 rfl (fun _ => rfl) fun a410 h409 => ?_
      refine wv h409 rfl rfl rfl rfl (.int .i64 (I.length : Int)) (run_lenIS rfl (h409.ev 128 rfl) _) fun a412 h411 => ?_
      refine wv h411 rfl rfl rfl rfl (.bool true) (by unfold execOp; simp only [h411.ev 129 rfl]; exact run_v (gtIP _ _ _ _ _ hbig)) fun a414 h413 => ?_
      have h415 := h413.subs (l' := [(130, _), (9, _), (1, _), (3, _), (11, _), (15, _)]) rfl
      clear h413
      iterate 3 go_step
      refine wp_cond (t := true) (h415.ev 130 rfl) ?_
      simp only [if_true]
      have h416 := h415.subs (l' := [(9, _), (1, _), (3, _), (11, _), (15, _)]) rfl
      clear h415
      go_step
      refine wmk h416 rfl rfl rfl rfl 3 rfl (fun _ => rfl) fun a418 h417 => ?_
      refine wv h417 rfl rfl rfl rfl (.slice ia 200 ic) (by unfold execOp; simp only [Option.map_some, Option.map_none, h417.ev 131 rfl]; exact run_v (sliceHI HIS.out 200 (by omega) _)) fun a420 h419 => ?_
      have h421 := h419.subs (l' := [(132, _), (131, _), (9, _), (1, _), (11, _), (15, _)]) rfl
      clear h419
      refine wmk h421 rfl rfl rfl rfl 132 rfl (fun _ => rfl) fun a423 h422 => ?_
      have h424 := h422.subs (l' := [(3, _), (9, _), (1, _), (11, _), (15, _)]) rfl
      clear h422
      iterate 2 go_step
      have hJl : J.length = 200 := by rw [hJ, List.length_take]; omega
      rw [← hJl] at h424
      exact ⟨h424.subs rfl, rfl⟩
    · have hbig : decide ((200 : Int) < (I.length : Int)) = false := decide_eq_false (by omega)
      iterate 3 go_step
      refine wmk h408 rfl rfl rfl rfl 3 rfl (fun _ => rfl) fun a426 h425 => ?_
      refine wv h425 rfl rfl rfl rfl (.int .i64 (I.length : Int)) (run_lenIS rfl (h425.ev 128 rfl) _) fun a428 h427 => ?_
      refine wv h427 rfl rfl rfl rfl (.bool false) (by unfold execOp; simp only [h427.ev 129 rfl]; exact run_v (gtIP _ _ _ _ _ hbig)) fun a430 h429 => ?_
      have h431 := h429.subs (l' := [(130, _), (9, _), (1, _), (3, _), (11, _), (15, _)]) rfl
      clear h429
      iterate 3 go_step
      refine wp_cond (t := false) (h431.ev 130 rfl) ?_
      simp only [Bool.false_eq_true, if_false]
      have h432 := h431.subs (l' := [(9, _), (1, _), (3, _), (11, _), (15, _)]) rfl
      clear h431
      iterate 2 go_step
      have hJl : J.length = I.length := by rw [hJ, List.length_take]; omega
      rw [← hJl] at h432
      exact ⟨h432.subs rfl, rfl⟩
  rintro aj2 wj2 ⟨hQ2, rfl⟩
  iterate 2 go_step
  refine wmk hQ2 rfl rfl rfl rfl 9 rfl (fun _ => rfl) fun a434 h433 => ?_
  refine wv h433 rfl rfl rfl rfl (.pointer (some ⟨K.pp, 0, none⟩)) (by unfold execOp; simp only [h433.ev 133 rfl]; exact rfl) fun a436 h435 => ?_
  refine wv h435 rfl rfl rfl rfl (.pointer (some ⟨K.pp, 0, none⟩)) (by unfold execOp; simp only [h435.ev 134 rfl]; exact run_v (fa_50_0_0 (K.pp) _)) fun a438 h437 => ?_
  refine wv h437 rfl rfl rfl rfl (.pointer (some ⟨K.g, 0, none⟩)) (by unfold execOp; simp only [h437.ev 135 rfl]; exact run_v (loadMP (HSp.out.b.cell (i := 0) (by show 0 < 4; omega)))) fun a440 h439 => ?_
  refine wmk h439 rfl rfl rfl rfl 3 rfl (fun _ => rfl) fun a442 h441 => ?_
  refine wpk_call h441 (wanted_none rfl) rfl (by decide) (fr rfl) (fun args => callP_24 args _) rfl #[.pointer (some ⟨K.g, 0, none⟩), .slice ia J.length ic] (by simp only [List.map_toArray, List.map_cons, List.map_nil, h441.ev 136 rfl, h441.ev 137 rfl]) (R := fun v' w' => LogP w' K.lg K.g K.v K.d K.p 512 512 (crashM (T6 M u eb k) J) ∧ Turns (XM K.v K.d K.p) wp w') ((crash_any HSp.out.l.m J ia ic (HJ.out.below HBp.out) hJok (fun hn k hk => by obtain ⟨off, e⟩ := hk; have z := rowLt HJ.out hn e; have f := HSp.out.f; unfold PK.from at f; omega)).mono fun e w' q => by obtain ⟨⟨y, q1⟩, q2, q3⟩ := q; exact ⟨y, q1, HSp.out.l.next q2 q3 (by intro k hk; exact hk), q3⟩) fun a444 v31 w31 r31 h443 => ?_
  have HS31 := hid (HSp.out.left r31.1 r31.2); have HB31 := hid (sides_belowL HSp.out HBp.out r31.2); have R31 := hid (r31.2.own Rp.out (by intro k hk; exact hlt7 k (.inl hk))); have HR1 := hid (HR1p.out.turns r31.2 (by intro k hk; exact hlt8 k (.inl hk)))
  have hlc : (crashM (T6 M u eb k) J).V.length = 1024 := by rw [crashM_len HSp.out.l.m.1]; exact T6_len hlenM hfit k
  clear r31
  have h445 := h443.subs (l' := [(9, _), (1, _), (3, _), (11, _), (15, _)]) rfl
  clear h443
  iterate 5 go_step
  refine wmk h445 rfl rfl rfl rfl 9 rfl (fun _ => rfl) fun a447 h446 => ?_
  refine wv h446 rfl rfl rfl rfl (.pointer (some ⟨K.pp, 0, none⟩)) (by unfold execOp; simp only [h446.ev 139 rfl]; exact rfl) fun a449 h448 => ?_
  refine wv h448 rfl rfl rfl rfl (.pointer (some ⟨K.pp, 1, none⟩)) (by unfold execOp; simp only [h448.ev 140 rfl]; exact run_v (fa_50_0_1 (K.pp) _)) fun a451 h450 => ?_
  refine wv h450 rfl rfl rfl rfl (.pointer (some ⟨K.lg, 0, none⟩)) (by unfold execOp; simp only [h450.ev 141 rfl]; exact run_v (loadLP (HS31.out.b.cell (i := 1) (by show 1 < 4; omega)))) fun a453 h452 => ?_
  refine wpk_call h452 (wanted_none rfl) rfl (by decide) (fr rfl) (fun args => callP_29 args _) rfl #[.pointer (some ⟨K.lg, 0, none⟩)] (by simp only [List.map_toArray, List.map_cons, List.map_nil, h452.ev 142 rfl]) (R := fun v' w' => ∃ ra rc rs, v' = .slice ra rs.length rc ∧ rs.map (·.2.2) = (logR (crashM (T6 M u eb k) J).V 512 512).1 ∧ RecsP w' w31.heap.size ra rc rs ∧ Below w31.heap.size w31 w') ((records_any HS31.out.l (logOk_of hlc)).mono fun e w' q => by obtain ⟨x, y, z, q1, q2⟩ := q; exact ⟨_, q1, x, y, z, rfl, q2⟩) fun a455 v32 w32 r32 h454 => ?_
  obtain ⟨ra3, rc3, rs3, rfl, hm3, hr3, b32⟩ := r32; have HB32 := hid (kept_trans HB31.out b32); have R32 := hid (Own.mono R31.out b32); have HR1 := hid (HR1.out.mono b32); have HR3 := hid hr3; have HM3a := hid hm3; clear b32 hr3 hm3
  refine wmk h454 rfl rfl rfl rfl 143 rfl (fun _ => rfl) fun a457 h456 => ?_
  have h458 := h456.subs (l' := [(17, _), (9, _), (1, _), (3, _), (11, _), (15, _)]) rfl
  clear h456
  iterate 3 go_step
  have htn := torn HSa.out.l.m.1 hMD hlenM hME hu hCok heb hfit k hk6' J
  rcases htn with ⟨hm, hk5⟩ | ⟨hm, hk3⟩
  · have HM3 : Hid (rs3.map (·.2.2) = (logR M.V 512 512).1) := hid (HM3a.out.trans hm)
    have hln : rs3.length = rs1.length := by have z := congrArg List.length (HM3.out.trans HM1.out.symm); simpa using z
    have hnn : ((rs1.length : Int) != ((rs1.length + 1 : Nat) : Int)) = true := by simp only [bne_iff_ne, ne_eq]; omega
    have hk6 : decide ((k : Int) < 6) = true := decide_eq_true (by omega)
    iterate 2 go_step
    refine wmk h458 rfl rfl rfl rfl 17 rfl (fun _ => rfl) fun a460 h459 => ?_
    refine wmk h459 rfl rfl rfl rfl 11 rfl (fun _ => rfl) fun a462 h461 => ?_
    rw [hln] at h461
    refine wpk_call h461 (wanted_none rfl) rfl (by decide) (fr rfl) (fun args => callP_58 args _) rfl #[.slice ra3 rs1.length rc3, .slice ra1 rs1.length rc1] (by simp only [List.map_toArray, List.map_cons, List.map_nil, h461.ev 144 rfl, h461.ev 145 rfl]) (R := fun v' w' => v' = .bool true ∧ Below w32.heap.size w32 w') ((sameRecs_eqn rs1.length HR3.out HR1.out (HM3.out.trans HM1.out.symm) hln rfl (by omega) (fun L hL => by rw [HM1.out] at hL; exact Nat.le_trans (logR_ok hL).2.2 (by omega))).mono fun e w' q => ⟨_, q.1, rfl, q.2⟩) fun a464 v41 w41 r41 h463 => ?_
    obtain ⟨rfl, b41⟩ := r41; have HB41 := hid (kept_trans HB32.out b41); have R32 := hid (Own.mono R32.out b41); have HR1 := hid (HR1.out.mono b41); have HR3 := hid (HR3.out.mono b41); clear b41
    refine wmk h463 rfl rfl rfl rfl 146 rfl (fun _ => rfl) fun a466 h465 => ?_
    have h467 := h465.subs (l' := [(18, _), (17, _), (9, _), (1, _), (3, _), (11, _), (15, _)]) rfl
    clear h465
    iterate 6 go_step
    refine wmk h467 rfl rfl rfl rfl 17 rfl (fun _ => rfl) fun a469 h468 => ?_
    refine wv h468 rfl rfl rfl rfl (.int .i64 (rs1.length : Int)) (run_lenRP rfl (h468.ev 147 rfl) _) fun a471 h470 => ?_
    refine wmk h470 rfl rfl rfl rfl 11 rfl (fun _ => rfl) fun a473 h472 => ?_
    refine wv h472 rfl rfl rfl rfl (.int .i64 (rs1.length : Int)) (run_lenRP rfl (h472.ev 149 rfl) _) fun a475 h474 => ?_
    refine wv h474 rfl rfl rfl rfl (.int .i64 ((rs1.length + 1 : Nat) : Int)) (by unfold execOp; simp only [h474.ev 150 rfl]; exact run_v (addIP _ _ rs1.length (by omega) _)) fun a477 h476 => ?_
    refine wv h476 rfl rfl rfl rfl (.bool true) (by unfold execOp; simp only [h476.ev 148 rfl, h476.ev 151 rfl]; exact run_v (neqIP _ _ _ _ _ hnn)) fun a479 h478 => ?_
    have h480 := h478.subs (l' := [(152, _), (18, _), (17, _), (9, _), (1, _), (3, _), (11, _), (15, _)]) rfl
    clear h478
    iterate 3 go_step
    refine wp_cond (t := true) (h480.ev 152 rfl) ?_
    simp only [if_true]
    have h481 := h480.subs (l' := [(18, _), (17, _), (9, _), (1, _), (3, _), (11, _), (15, _)]) rfl
    clear h480
    iterate 2 go_step
    refine wmk h481 rfl rfl rfl rfl 18 rfl (fun _ => rfl) fun a483 h482 => ?_
    refine wmk h482 rfl rfl rfl rfl 153 rfl (fun _ => rfl) fun a485 h484 => ?_
    refine wpk_val h484 (by rw [wanted_of (g := 1) (want := true) (b := true) rfl (h484.yields (prev := 154) rfl (by simp))]; rfl) rfl (by decide) (fr rfl) (.int .i64 (k : Int)) (by unfold execOp; simp only [h484.ev 15 rfl]; rfl) fun a487 h486 => ?_
    refine wpk_val h486 (by rw [wanted_of (g := 1) (want := true) (b := true) rfl (h486.yields (prev := 154) rfl (by simp))]; rfl) rfl (by decide) (fr rfl) (.bool true) (by unfold execOp; simp only [h486.ev 155 rfl]; exact run_v (ltIP _ _ _ _ _ hk6)) fun a489 h488 => ?_
    refine wv h488 rfl rfl rfl rfl (.bool true) (run_pick rfl (h488.ev 154 rfl) (by rw [if_pos rfl]; exact h488.ev 156 rfl)) fun a491 h490 => ?_
    refine wmk h490 rfl rfl rfl rfl 157 rfl (fun _ => rfl) fun a493 h492 => ?_
    refine wpk_call h492 (by rw [wanted_of (g := 5) (want := true) (b := true) rfl (h492.yields (prev := 158) rfl (by simp))]; rfl) rfl (by decide) (fr rfl) (fun args => callP_13 args _) rfl #[] (by simp) (R := fun v' w' => v' = .bool true ∧ Below w41.heap.size w41 w') ((lives08_any _).mono fun e w' q => ⟨_, q.1, rfl, q.2⟩) fun a495 vx wx rx h494 => ?_
    obtain ⟨rfl, bx⟩ := rx; have HBx := hid (kept_trans HB41.out bx); clear bx
    refine wv h494 rfl rfl rfl rfl (.bool true) (run_pick rfl (h494.ev 158 rfl) (by rw [if_pos rfl]; exact h494.ev 159 rfl)) fun a497 h496 => ?_
    refine wmk h496 rfl rfl rfl rfl 160 rfl (fun _ => rfl) fun a499 h498 => ?_
    have h500 := h498.subs (l' := [(8, _), (18, _), (17, _), (9, _), (1, _), (3, _), (11, _), (15, _)]) rfl
    clear h498
    iterate 4 go_step
    simp only [Exit.then, Exit.inBlock]
    exact bodyPost_ret (results_tmp1 rfl (h500.known (8, .bool true) (by simp))) h500.defs ⟨rfl, HBx.out⟩
  · have HM3 : Hid (rs3.map (·.2.2) = (logR M.V 512 512).1 ++ [C]) := hid (HM3a.out.trans hm)
    have hln : rs3.length = rs1.length + 1 := by have z := congrArg List.length (HM3.out.trans (by rw [← HM1.out])); simpa using z
    have hnn : ((rs3.length : Int) != ((rs1.length + 1 : Nat) : Int)) = false := by rw [hln]; simp
    have hkc : decide ((3 : Int) < (k : Int)) = true := decide_eq_true (by omega)
    iterate 2 go_step
    refine wmk h458 rfl rfl rfl rfl 17 rfl (fun _ => rfl) fun a502 h501 => ?_
    refine wmk h501 rfl rfl rfl rfl 11 rfl (fun _ => rfl) fun a504 h503 => ?_
    refine wpk_call h503 (wanted_none rfl) rfl (by decide) (fr rfl) (fun args => callP_58 args _) rfl #[.slice ra3 rs3.length rc3, .slice ra1 rs1.length rc1] (by simp only [List.map_toArray, List.map_cons, List.map_nil, h503.ev 144 rfl, h503.ev 145 rfl]) (R := fun v' w' => v' = .bool false ∧ Below w32.heap.size w32 w') ((sameRecs_ne (by omega)).mono fun e w' q => ⟨_, q.1, rfl, q.2 ▸ Below.refl _ _⟩) fun a506 v41 w41 r41 h505 => ?_
    obtain ⟨rfl, b41⟩ := r41; have HB41 := hid (kept_trans HB32.out b41); have R32 := hid (Own.mono R32.out b41); have HR1 := hid (HR1.out.mono b41); have HR3 := hid (HR3.out.mono b41); clear b41
    refine wmk h505 rfl rfl rfl rfl 146 rfl (fun _ => rfl) fun a508 h507 => ?_
    have h509 := h507.subs (l' := [(18, _), (17, _), (9, _), (1, _), (3, _), (11, _), (15, _)]) rfl
    clear h507
    iterate 6 go_step
    refine wmk h509 rfl rfl rfl rfl 17 rfl (fun _ => rfl) fun a511 h510 => ?_
    refine wv h510 rfl rfl rfl rfl (.int .i64 (rs3.length : Int)) (run_lenRP rfl (h510.ev 147 rfl) _) fun a513 h512 => ?_
    refine wmk h512 rfl rfl rfl rfl 11 rfl (fun _ => rfl) fun a515 h514 => ?_
    refine wv h514 rfl rfl rfl rfl (.int .i64 (rs1.length : Int)) (run_lenRP rfl (h514.ev 149 rfl) _) fun a517 h516 => ?_
    refine wv h516 rfl rfl rfl rfl (.int .i64 ((rs1.length + 1 : Nat) : Int)) (by unfold execOp; simp only [h516.ev 150 rfl]; exact run_v (addIP _ _ rs1.length (by omega) _)) fun a519 h518 => ?_
    refine wv h518 rfl rfl rfl rfl (.bool false) (by unfold execOp; simp only [h518.ev 148 rfl, h518.ev 151 rfl]; exact run_v (neqIP _ _ _ _ _ hnn)) fun a521 h520 => ?_
    have h522 := h520.subs (l' := [(152, _), (18, _), (17, _), (9, _), (1, _), (3, _), (11, _), (15, _)]) rfl
    clear h520
    iterate 3 go_step
    refine wp_cond (t := false) (h522.ev 152 rfl) ?_
    simp only [Bool.false_eq_true, if_false]
    have h523 := h522.subs (l' := [(18, _), (17, _), (9, _), (1, _), (3, _), (11, _), (15, _)]) rfl
    clear h522
    iterate 5 go_step
    refine wmk h523 rfl rfl rfl rfl 17 rfl (fun _ => rfl) fun a525 h524 => ?_
    refine wmk h524 rfl rfl rfl rfl 11 rfl (fun _ => rfl) fun a527 h526 => ?_
    refine wv h526 rfl rfl rfl rfl (.int .i64 (rs1.length : Int)) (run_lenRP rfl (h526.ev 162 rfl) _) fun a529 h528 => ?_
    refine wv h528 rfl rfl rfl rfl (.slice ra3 rs1.length rc3) (by unfold execOp; simp only [Option.map_some, Option.map_none, h528.ev 161 rfl, h528.ev 163 rfl]; exact run_v (sliceHR HR3.out rs1.length (by omega) _)) fun a531 h530 => ?_
    refine wmk h530 rfl rfl rfl rfl 11 rfl (fun _ => rfl) fun a533 h532 => ?_
    refine wpk_call h532 (wanted_none rfl) rfl (by decide) (fr rfl) (fun args => callP_58 args _) rfl #[.slice ra3 rs1.length rc3, .slice ra1 rs1.length rc1] (by simp only [List.map_toArray, List.map_cons, List.map_nil, h532.ev 164 rfl, h532.ev 165 rfl]) (R := fun v' w' => v' = .bool true ∧ Below w41.heap.size w41 w') ((sameRecs_eqn rs1.length (HR3.out.take rs1.length) HR1.out (by rw [List.map_take, HM3.out, ← HM1.out, ← List.length_map (f := fun r : Option Addr × Nat × List PtM => r.2.2), List.take_left]) (by rw [List.length_take]; omega) rfl (by omega) (fun L hL => by rw [HM1.out] at hL; exact Nat.le_trans (logR_ok hL).2.2 (by omega))).mono fun e w' q => ⟨_, q.1, rfl, q.2⟩) fun a535 v42 w42 r42 h534 => ?_
    obtain ⟨rfl, b42⟩ := r42; have HB42 := hid (kept_trans HB41.out b42); have R32 := hid (Own.mono R32.out b42); have HR1 := hid (HR1.out.mono b42); have HR3 := hid (HR3.out.mono b42); clear b42
    refine wmk h534 rfl rfl rfl rfl 166 rfl (fun _ => rfl) fun a537 h536 => ?_
    have h538 := h536.subs (l' := [(19, _), (18, _), (17, _), (9, _), (1, _), (3, _), (11, _), (15, _)]) rfl
    clear h536
    iterate 5 go_step
    refine wmk h538 rfl rfl rfl rfl 17 rfl (fun _ => rfl) fun a540 h539 => ?_
    refine wmk h539 rfl rfl rfl rfl 11 rfl (fun _ => rfl) fun a542 h541 => ?_
    refine wv h541 rfl rfl rfl rfl (.int .i64 (rs1.length : Int)) (run_lenRP rfl (h541.ev 168 rfl) _) fun a544 h543 => ?_
    obtain ⟨qb, qo, ad, cc, L9, hq0, hqc, hqr, hql⟩ := recs_at HR3.out (j := rs1.length) (by omega)
    have hL9 : C = L9 := by rw [HM3.out, ← HM1.out, List.getElem?_append_right (by rw [List.length_map]; exact Nat.le_refl _), List.length_map, Nat.sub_self] at hql; injection hql with e
    subst hL9
    refine wv h543 rfl rfl rfl rfl (.pointer (some ⟨qb, qo + rs1.length, none⟩)) (by unfold execOp; simp only [h543.ev 167 rfl, h543.ev 169 rfl]; exact run_v (by rw [hq0]; exact ixRP qb qo _ rc3 rs1.length (by omega) _)) fun a546 h545 => ?_
    refine wv h545 rfl rfl rfl rfl (.slice ad C.length cc) (by unfold execOp; simp only [h545.ev 170 rfl]; exact run_v (loadRP hqc)) fun a548 h547 => ?_
    refine wmk h547 rfl rfl rfl rfl 1 rfl (fun _ => rfl) fun a550 h549 => ?_
    refine wpk_call h549 (wanted_none rfl) rfl (by decide) (fr rfl) (fun args => callP_16 args _) rfl #[.slice ad C.length cc, .slice la C.length lc] (by simp only [List.map_toArray, List.map_cons, List.map_nil, h549.ev 171 rfl, h549.ev 172 rfl]) (R := fun v' w' => v' = .bool true ∧ Below w42.heap.size w42 w') ((samePts_eq hqr R32.out.row (by omega)).mono fun e w' q => ⟨_, q.1, rfl, q.2⟩) fun a552 v50 w50 r50 h551 => ?_
    obtain ⟨rfl, b50⟩ := r50; have HB50 := hid (kept_trans HB42.out b50); clear b50
    refine wmk h551 rfl rfl rfl rfl 173 rfl (fun _ => rfl) fun a554 h553 => ?_
    have h555 := h553.subs (l' := [(20, _), (19, _), (18, _), (17, _), (9, _), (1, _), (3, _), (11, _), (15, _)]) rfl
    clear h553
    iterate 5 go_step
    refine wmk h555 rfl rfl rfl rfl 19 rfl (fun _ => rfl) fun a557 h556 => ?_
    refine wmk h556 rfl rfl rfl rfl 174 rfl (fun _ => rfl) fun a559 h558 => ?_
    refine wpk_val h558 (by rw [wanted_of (g := 1) (want := true) (b := true) rfl (h558.yields (prev := 175) rfl (by simp))]; rfl) rfl (by decide) (fr rfl) (.bool true) (by unfold execOp; simp only [h558.ev 20 rfl]; rfl) fun a561 h560 => ?_
    refine wv h560 rfl rfl rfl rfl (.bool true) (run_pick rfl (h560.ev 175 rfl) (by rw [if_pos rfl]; exact h560.ev 176 rfl)) fun a563 h562 => ?_
    refine wmk h562 rfl rfl rfl rfl 177 rfl (fun _ => rfl) fun a565 h564 => ?_
    refine wpk_val h564 (by rw [wanted_of (g := 4) (want := true) (b := true) rfl (h564.yields (prev := 178) rfl (by simp))]; rfl) rfl (by decide) (fr rfl) (.int .i64 (k : Int)) (by unfold execOp; simp only [h564.ev 15 rfl]; rfl) fun a567 h566 => ?_
    refine wpk_val h566 (by rw [wanted_of (g := 4) (want := true) (b := true) rfl (h566.yields (prev := 178) rfl (by simp))]; rfl) rfl (by decide) (fr rfl) (.bool true) (by unfold execOp; simp only [h566.ev 179 rfl]; exact run_v (gtIP _ _ _ _ _ hkc)) fun a569 h568 => ?_
    refine wv h568 rfl rfl rfl rfl (.bool true) (run_pick rfl (h568.ev 178 rfl) (by rw [if_pos rfl]; exact h568.ev 180 rfl)) fun a571 h570 => ?_
    refine wmk h570 rfl rfl rfl rfl 181 rfl (fun _ => rfl) fun a573 h572 => ?_
    refine wpk_call h572 (by rw [wanted_of (g := 8) (want := true) (b := true) rfl (h572.yields (prev := 182) rfl (by simp))]; rfl) rfl (by decide) (fr rfl) (fun args => callP_13 args _) rfl #[] (by simp) (R := fun v' w' => v' = .bool true ∧ Below w50.heap.size w50 w') ((lives08_any _).mono fun e w' q => ⟨_, q.1, rfl, q.2⟩) fun a575 vx wx rx h574 => ?_
    obtain ⟨rfl, bx⟩ := rx; have HBx := hid (kept_trans HB50.out bx); clear bx
    refine wv h574 rfl rfl rfl rfl (.bool true) (run_pick rfl (h574.ev 182 rfl) (by rw [if_pos rfl]; exact h574.ev 183 rfl)) fun a577 h576 => ?_
    refine wmk h576 rfl rfl rfl rfl 184 rfl (fun _ => rfl) fun a579 h578 => ?_
    have h580 := h578.subs (l' := [(8, _), (20, _), (19, _), (18, _), (17, _), (9, _), (1, _), (3, _), (11, _), (15, _)]) rfl
    clear h578
    iterate 4 go_step
    exact bodyPost_ret (results_tmp1 rfl (h580.known (8, .bool true) (by simp))) h580.defs ⟨rfl, HBx.out⟩
end Go.Proofs.YtkhhoognemjibaaGreatDoor
