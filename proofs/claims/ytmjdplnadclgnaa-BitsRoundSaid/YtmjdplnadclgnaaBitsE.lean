import Derived.Test.YtmjdplnadclgnaaBitsD
import Derived.Test.YtmjdplnadclgnaaBitsX
namespace Go.Proofs.Ytmjdplnadclgnaa
open Go.RowKit Go.WideShapes
set_option linter.unusedSimpArgs false
set_option linter.unusedVariables false

/-! a map's bytes -/
theorem blk_rowB {w : World} {g : Nat} {e : TypeId} {xs : List UInt8} (h : Blk w g e (xs.map byteV)) (hl : xs.length = 16) : RowB w (some ⟨g, 0, none⟩) 16 xs := by
  refine ⟨by simp, by omega, by unfold maxLen; omega, fun h => by (cases h), fun _ => ⟨g, 0, rfl, h.lt, fun j u hu => ?_⟩⟩
  have := blk_range h j u hu
  exact this

set_option maxHeartbeats 1000000 in
theorem mbytes_any (xs : List UInt8) (w : World) (hx : xs.length = 16) :
    Calls Try.prog 13 #[.agg (mapC xs)] w fun e w' => RetB w xs e w' := by
  have K0 : Blk (w.alloc (.cells (mapC xs) 24)) w.heap.size 24 (xs.map byteV) := heap_alloc_new w _
  have R0 := blk_rowB K0 hx
  have B0 : Below w.heap.size w (w.alloc (.cells (mapC xs) 24)) := (Below.refl _ w).alloc (Nat.le_refl _) _
  rw [← hx] at R0
  go_enter Try.func13, Try.ntmps13
  go_wp2_with (first
    | (at_builtin; refine wpl_append rfl (.const (.slice none 0 0)) (.tmp 3) rfl E8 w.heap.size rfl (by first | rfl | (rw [← hx]; rfl)) (Own.nil _ _ _ _) R0 (byteV_one xs) (by omega) (by omega) (by simp) ?_; intro a1 c1 w1 o1 g1 b1))
  go_ret
  refine ⟨a1, c1, ?_, ?_, B0.trans b1⟩
  · first | rfl | (rw [hx]; rfl)
  · simpa [OwnB] using o1

theorem results_map2 {fn : Func} {c u : Tmp} (h : fn.results = #[.cell c 24, .tmp u]) {tmps : Array Value} {w : World} {g : Nat} {xs : List UInt8} (hc : tmps.getD c undef = .pointer (some ⟨g, 0, none⟩)) {e : TypeId} (hb : Blk w g e (xs.map byteV)) (hl : xs.length = 16) :
    (results fn tmps).run Try.prog w = .ok (.tuple #[.agg (mapC xs), tmps.getD u undef]) w := by
  have hv := run_loadVar_mid (P := Try.prog) w g 0 24 (xs.map byteV) _ (blk_range hb) Try.underlying24 rfl (by rw [infoM]; simp [hl])
  have hc' : tmps[c]?.getD undef = .pointer (some ⟨g, 0, none⟩) := by simpa using hc
  simp [results, h, hc', asAddr, hv, mapC]

/-- a map out of readable bytes -/
theorem wpl_loadR {w : World} {ops : Array Oper} {rest : List Oper} {o : Oper} {act : Act} {Q : Exit → Act → World → Prop} (hgd : o.guard = none) (x : Operand)
    (ho : o.op = .load 24 x) (b off : Nat) (hx : act.eval x = .pointer (some ⟨b, off, none⟩)) (xs : List UInt8) (hl : xs.length = 16) {c : Nat} (hr : RowB w (some ⟨b, off, none⟩) c xs)
    (h : wpList Try.prog ops Q rest (act.put o.dst (.agg (mapC xs))) w) : wpList Try.prog ops Q (o :: rest) act w :=
  wpList_load_mid hgd 24 x ho b off hx (xs.map byteV) _ (fun j v hv => by
    obtain ⟨b', off', e, _, hc⟩ := hr.at (by omega)
    cases e
    exact hc j v hv) Try.underlying24 rfl (by rw [infoM]; simp [hl]) h

theorem run_arrayM (a : Option Addr) (c : Nat) (w : World) : (Instr.arrayAt 24 (.slice a 16 c)).run Try.prog w = .ok (.pointer a) w := by
  simp [Instr.arrayAt, run_underlying Try.underlying24]

def readM (xs : List UInt8) : List UInt8 := if xs.length < 16 then zeros16 else xs.take 16
def readE (xs : List UInt8) : Int := if xs.length < 16 then 3 else 0
theorem readM_length (xs : List UInt8) : (readM xs).length = 16 := by
  unfold readM; split
  · rfl
  · simp; omega

set_option maxHeartbeats 1000000 in
theorem mread_any (a : Option Addr) (c : Nat) (xs : List UInt8) (w : World) (ha : RowB w a c xs) :
    Calls Try.prog 10 #[.slice a xs.length c] w fun e w' => e = .returned (.tuple #[.agg (mapC (readM xs)), .int .i64 (readE xs)]) ∧ Below w.heap.size w w' := by
  have hl := rowB_len ha
  have hcap : xs.length ≤ c := ha.2.1
  have N0 : Blk (w.alloc (.cells (mapC zeros16) 24)) w.heap.size 24 (zeros16.map byteV) := heap_alloc_new w _
  have B0 : Below w.heap.size w (w.alloc (.cells (mapC zeros16) 24)) := (Below.refl _ w).alloc (Nat.le_refl _) _
  have hr := Row.alloc ha (.cells (mapC zeros16) 24)
  rw [← zero16] at N0 B0 hr
  by_cases h : xs.length < 16
  · have h1 : readM xs = zeros16 := if_pos h
    have h2 : readE xs = 3 := if_pos h
    rw [h1, h2]
    go_enter Try.func10, Try.ntmps10
    go_wp2_with (first
      | ((with_reducible refine wpl_storeM rfl _ _ rfl w.heap.size rfl zeros16 ?hy rfl N0 rfl ?_); (case hy => rfl); intro w3 k3 g3))
    refine bodyPost_ret (results_map2 rfl rfl k3 rfl) rfl ⟨rfl, ?_⟩
    exact B0.grown g3 B0.size (fun k hk => by cases hk; omega)
  · have h1 : readM xs = xs.take 16 := if_neg h
    have h2 : readE xs = 0 := if_neg h
    rw [h1, h2]
    obtain ⟨b, off, rfl, hb, _⟩ := ha.bytes (by omega)
    have hr := rowB_take hr 16
    have hl16 : (xs.take 16).length = 16 := by simp; omega
    have h16 : ¬ ((xs.length : Int) < 16) := by omega
    have h16' : (16 : Nat) ≤ c := by omega
    have harr := run_arrayM (some ⟨b, off, none⟩) c
    generalize xs.take 16 = ys at *
    go_enter Try.func10, Try.ntmps10
    go_wp2_with (first
      | (with_reducible refine wpl_loadR rfl _ rfl b off rfl ys hl16 hr ?_)
      | (with_reducible refine wpl_storeM rfl _ _ rfl w.heap.size rfl ys rfl hl16 N0 rfl ?_; intro w3 k3 g3))
    refine bodyPost_ret (results_map2 rfl rfl k3 hl16) rfl ⟨rfl, ?_⟩
    exact B0.grown g3 B0.size (fun k hk => by cases hk; omega)

/-! the truths of a map -/
def truthsV (xs : List UInt8) (n : Nat) : List Value := (List.range n).map fun k => Value.bool (bitB xs k)
theorem truthsV_length (xs : List UInt8) (n : Nat) : (truthsV xs n).length = n := by simp [truthsV]
theorem truthsV_succ (xs : List UInt8) (n : Nat) : truthsV xs (n + 1) = truthsV xs n ++ [.bool (bitB xs n)] := by
  simp [truthsV, List.range_succ]
theorem EBo : ElemT Try.prog 32 4 1 1 := elemT Try.underlying32 (z := .bool false) (by kernel_rfl) rfl (by omega)

set_option maxHeartbeats 4000000 in
set_option maxRecDepth 100000 in
theorem truthsRef_any (a : Option Addr) (c : Nat) (xs : List UInt8) (w : World) (ha : RowB w a c xs) (hx : xs.length = 16) :
    Calls Try.prog 25 #[.slice a 16 c] w fun e w' => ∃ a' c', e = .returned (.slice a' 128 c') ∧ Own w' w.heap.size 4 1 a' 128 c' (truthsV xs 128) ∧ Below w.heap.size w w' := by
  obtain ⟨b, off, rfl, hb, hcell⟩ := ha.bytes (by omega)
  rw [hx] at hcell
  clear ha
  go_enter Try.func25, Try.ntmps25
  go_wp2_with fail
  go_loopw [3, 4] (fun l i wr => ∃ (j : Nat) (a' : Option Addr) (c' : Nat), j ≤ 16 ∧ i = .int .i64 j ∧ l = .slice a' (8 * j : Nat) c' ∧ Own wr w.heap.size 4 1 a' (8 * j) c' (truthsV xs (8 * j)) ∧ Below w.heap.size w wr)
    (fun _ i _ => 16 - (intOf i).toNat)
  case atStart => exact ⟨0, none, 0, by omega, rfl, rfl, Own.nil _ _ _ _, Below.refl _ _⟩
  case round =>
    obtain ⟨j, a', c', hj, rfl, rfl, ho, br⟩ := hrel
    by_cases hlt : j < 16
    · have cj := (br.cell (p := ⟨b, off + j, none⟩) hb).trans (hcell j hlt)
      have hb8 := bAt_lt xs j
      have hltd : decide ((j : Int) < 16) = true := decide_eq_true (by omega)
      go_wp2_with fail
      go_loopw [3, 5, 6] (fun l x i wr => ∃ (m : Nat) (a' : Option Addr) (c' : Nat), m ≤ 8 ∧ i = .int .i64 m ∧ x = .int .i64 (bAt xs j / 2 ^ m : Nat) ∧ l = .slice a' (8 * j + m : Nat) c' ∧ Own wr w.heap.size 4 1 a' (8 * j + m) c' (truthsV xs (8 * j + m)) ∧ Below w.heap.size w wr)
        (fun _ _ i _ => 8 - (intOf i).toNat)
      case atStart => exact ⟨0, a', c', by omega, rfl, by simp, rfl, ho, br⟩
      case round =>
        obtain ⟨m, a1, c1, hm, rfl, rfl, rfl, ho, br⟩ := hrel
        by_cases hlt2 : m < 8
        · have hbit : (((bAt xs j / 2 ^ m % 2 : Nat) : Int) == 1) = bitB xs (8 * j + m) := by
            unfold bitB
            rw [show (8 * j + m) / 8 = j by omega, show (8 * j + m) % 8 = m by omega, Nat.testBit_eq_decide_div_mod_eq]
            by_cases h : bAt xs j / 2 ^ m % 2 = 1
            · simp [h]
            · have : bAt xs j / 2 ^ m % 2 = 0 := by omega
              simp [this]
          have hhalf : bAt xs j / 2 ^ (m + 1) = bAt xs j / 2 ^ m / 2 := by rw [Nat.div_div_eq_div_mul, Nat.pow_succ]
          have hq : bAt xs j / 2 ^ m ≤ bAt xs j := Nat.div_le_self _ _
          have htv := truthsV_succ xs (8 * j + m)
          have HT := hid htv; have HH := hid hhalf; have HB := hid hbit
          clear hhalf htv hbit cj
          generalize bAt xs j / 2 ^ m = q at *
          have d1 : (q : Int).tmod 2 = ((q % 2 : Nat) : Int) := rfl
          have d2 : (q : Int).tdiv 2 = ((q / 2 : Nat) : Int) := rfl
          have e1 : IntKind.i64.wrap ((q % 2 : Nat) : Int) = (q % 2 : Nat) := IntWalk.i64_in _ (by omega)
          have e2 : IntKind.i64.wrap ((q / 2 : Nat) : Int) = (q / 2 : Nat) := IntWalk.i64_in _ (by omega)
          generalize q % 2 = qm at *
          generalize q / 2 = qh at *
          go_wp2_with (first
            | (at_builtin; rw [HB.out]; refine wpl_append rfl (.tmp 20) (.tmp 24) rfl EBo w.heap.size rfl rfl (ho.alloc _) (row_new1 _ _ _) (by simp [Value.oneCell']) (by omega) (by omega) (by have := br.size; simp; omega) ?_; intro a2 c2 w2 o2 g2 b2))
          go_roundw
          case rel => exact ⟨m + 1, a2, c2, by omega, by go_num, by rw [HH.out], rfl, by rw [← Nat.add_assoc, HT.out]; exact o2, (br.alloc br.size _).trans b2⟩
          case measure => simp [intOf]; omega
        · obtain rfl : m = 8 := by omega
          go_wp2_with fail
          go_roundw
          case rel => exact ⟨j + 1, a1, c1, by omega, by go_num, by rw [show 8 * (j + 1) = 8 * j + 8 by omega], by rw [show 8 * (j + 1) = 8 * j + 8 by omega]; exact ho, br⟩
          case measure => simp [intOf]; omega
    · obtain rfl : j = 16 := by omega
      go_wp2_with fail
      go_ret
      exact ⟨a', c', rfl, ho, br⟩

end Go.Proofs.Ytmjdplnadclgnaa
