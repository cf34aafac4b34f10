import Derived.Test.YtmjdplnadclgnaaLib
import Derived.Deep.MidRow
import Derived.OpenShut
import Derived.Deep.RegionWith
import Derived.Laws.BitsAllLaws
namespace Go.Proofs.Ytmjdplnadclgnaa
open Go.RowKit Go.WideShapes
set_option linter.unusedSimpArgs false
set_option linter.unusedVariables false

/-- the cells of a map of 16 bytes -/
def mapC (xs : List UInt8) : Array Value := (xs.map byteV).toArray
theorem mapC_size (xs : List UInt8) : (mapC xs).size = xs.length := by simp [mapC]
theorem mapC_list (xs : List UInt8) : (mapC xs).toList = xs.map byteV := rfl
theorem mapC_one (xs : List UInt8) : (mapC xs).all (·.oneCell') = true := all_oneCell_toArray (byteV_one xs)

theorem grown_set' {w w' : World} {h : Nat} (g : w.grownBy w' (some h)) (i : Nat) (v : Value) : w.grownBy (w'.setCell ⟨h, i, none⟩ v) (some h) :=
  ⟨g.os, g.tape, g.output, by simp [World.setCell]; exact g.size, fun k hk hne => by
    rw [Below.heap_setCell _ _ _ _ (by rintro rfl; exact hne rfl)]; exact g.block k hk hne⟩
theorem grown_refl' (w : World) (r : Option Nat) : w.grownBy w r := ⟨rfl, rfl, rfl, Nat.le_refl _, fun _ _ _ => rfl⟩
theorem grown_trans' {w w1 w2 : World} {r : Option Nat} (a : w.grownBy w1 r) (b : w1.grownBy w2 r) : w.grownBy w2 r :=
  ⟨b.os.trans a.os, b.tape.trans a.tape, b.output.trans a.output, Nat.le_trans a.size b.size, fun k hk hne => (b.block k (Nat.lt_of_lt_of_le hk a.size) hne).trans (a.block k hk hne)⟩

/-- is block k + 1 used? -/
def bitB (xs : List UInt8) (k : Nat) : Bool := (bAt xs (k / 8)).testBit (k % 8)
def usedB (xs : List UInt8) (n : Int) : Bool := decide (1 ≤ n ∧ n ≤ 128) && bitB xs (n - 1).toNat

theorem and_pow (x r : Nat) : (((x &&& 2 ^ r : Nat) : Int) != 0) = x.testBit r := by
  rw [show (((x &&& 2 ^ r : Nat) : Int) != 0) = decide (¬ ((x &&& 2 ^ r : Nat) : Int) = 0) from by simp [bne, BEq.beq]]
  have e : x &&& 2 ^ r = if x.testBit r then 2 ^ r else 0 := by
    apply Nat.eq_of_testBit_eq
    intro i
    rw [Nat.testBit_and, Nat.testBit_two_pow]
    by_cases h : r = i
    · subst h
      by_cases hb : x.testBit r = true
      · rw [if_pos hb]; simp [hb]
      · rw [if_neg hb]; simp [hb]
    · by_cases hb : x.testBit r = true
      · rw [if_pos hb]; simp [h, Nat.testBit_two_pow]
      · rw [if_neg hb]; simp [h]
  rw [e]
  have := Nat.two_pow_pos r
  by_cases hb : x.testBit r = true
  · rw [if_pos hb, hb]; exact decide_eq_true (by omega)
  · rw [if_neg hb]; simp [hb]

theorem Blk.setOther' {w : World} {g k : Nat} {e : TypeId} {L : List Value} (h : Blk w g e L) (hne : g ≠ k) (i : Nat) (v : Value) : Blk (w.setCell ⟨k, i, none⟩ v) g e L :=
  ((grown_set' (grown_refl' w (some k)) i v).block g h.lt (by simpa using hne)).trans h

/-! the whole map out of its block and into it -/
theorem infoM : (Try.prog.info? 24).map (·.size) = some 16 := by kernel_rfl
theorem blk_range {w : World} {g : Nat} {e : TypeId} {L : List Value} (h : Blk w g e L) : w.rangeAt g 0 L := fun j v hv => by
  have hj := (List.getElem?_eq_some_iff.1 hv).1
  rw [Nat.zero_add, Blk.cell h hj, ← hv, List.getElem?_eq_getElem hj]
theorem blk_there {w : World} {g : Nat} {e : TypeId} {L : List Value} (h : Blk w g e L) : w.there g 0 L.length := fun j hj => by
  rw [Nat.zero_add, Blk.cell h hj]; exact ⟨rfl, Blk.frozen h j⟩
theorem blk_setCells {g : Nat} {e : TypeId} : ∀ (vs : List Value) (o : Nat) (w : World) (L : List Value), Blk w g e L → o + vs.length ≤ L.length → Blk (w.setCells g o vs) g e (splice L o vs) ∧ w.grownBy (w.setCells g o vs) (some g)
  | [], o, w, L, h, _ => by
    refine ⟨?_, grown_refl' w _⟩
    simp [splice]; exact h
  | v :: r, o, w, L, h, hl => by
    simp only [List.length_cons] at hl
    have h1 := Blk.set h o v
    obtain ⟨h2, h3⟩ := blk_setCells r (o + 1) _ _ h1 (by simp; omega)
    refine ⟨?_, grown_trans' (grown_set' (grown_refl' w _) o v) h3⟩
    have e1 : splice (L.set o v) (o + 1) r = splice L o (v :: r) := by
      apply List.ext_getElem?
      intro i
      rw [getElem?_splice _ _ _ (by simp; omega), getElem?_splice _ _ _ (by simp; omega)]
      by_cases h0 : i = o
      · subst h0
        rw [if_neg (by omega), if_pos (by simp)]
        simp [List.getElem?_set, show i < L.length by omega]
      · by_cases h4 : o + 1 ≤ i ∧ i < o + 1 + r.length
        · rw [if_pos h4, if_pos (by simp; omega), show i - o = (i - (o + 1)) + 1 by omega, List.getElem?_cons_succ]
        · rw [if_neg h4, if_neg (by simp; omega), List.getElem?_set_ne (by omega)]
    rw [← e1]; exact h2
theorem wpl_loadM {w : World} {ops : Array Oper} {rest : List Oper} {o : Oper} {act : Act} {Q : Exit → Act → World → Prop} (hgd : o.guard = none) (x : Operand)
    (ho : o.op = .load 24 x) (g : Nat) (hx : act.eval x = .pointer (some ⟨g, 0, none⟩)) {e : TypeId} (xs : List UInt8) (hl : xs.length = 16) (hb : Blk w g e (xs.map byteV))
    (h : wpList Try.prog ops Q rest (act.put o.dst (.agg (mapC xs))) w) : wpList Try.prog ops Q (o :: rest) act w :=
  wpList_load_mid hgd 24 x ho g 0 hx (xs.map byteV) _ (blk_range hb) Try.underlying24 rfl (by rw [infoM]; simp [hl]) h
theorem wpl_storeM {w : World} {ops : Array Oper} {rest : List Oper} {o : Oper} {act : Act} {Q : Exit → Act → World → Prop} (hgd : o.guard = none) (x y : Operand)
    (ho : o.op = .store 24 x y) (g : Nat) (hx : act.eval x = .pointer (some ⟨g, 0, none⟩)) {e : TypeId} (xs : List UInt8) (hy : act.eval y = .agg (mapC xs)) (hl : xs.length = 16) {L : List Value} (hb : Blk w g e L) (hL : L.length = 16)
    (h : ∀ w', Blk w' g e (xs.map byteV) → w.grownBy w' (some g) → wpList Try.prog ops Q rest (act.put o.dst undef) w') : wpList Try.prog ops Q (o :: rest) act w := by
  have ht := blk_there hb
  rw [hL] at ht
  refine wpList_store_mid hgd 24 x y ho g 0 (mapC xs) hx hy (by rw [mapC_size, hl]; exact ht) (by rw [infoM, mapC_size, hl]) (mapC_one xs) ?_
  obtain ⟨h1, h2⟩ := blk_setCells (xs.map byteV) 0 w L hb (by simp; omega)
  have e1 : splice L 0 (xs.map byteV) = xs.map byteV := by
    unfold splice
    simp [List.drop_eq_nil_of_le, hL, hl]
  rw [e1] at h1
  exact h _ h1 h2
theorem results_map {fn : Func} {c : Tmp} (h : fn.results = #[.cell c 24]) {tmps : Array Value} {w : World} {g : Nat} {xs : List UInt8} (hc : tmps.getD c undef = .pointer (some ⟨g, 0, none⟩)) {e : TypeId} (hb : Blk w g e (xs.map byteV)) (hl : xs.length = 16) :
    (results fn tmps).run Try.prog w = .ok (.agg (mapC xs)) w := by
  have hv := run_loadVar_mid (P := Try.prog) w g 0 24 (xs.map byteV) _ (blk_range hb) Try.underlying24 rfl (by rw [infoM]; simp [hl])
  have hc' : tmps[c]?.getD undef = .pointer (some ⟨g, 0, none⟩) := by simpa using hc
  simp [results, h, hc', asAddr, hv, mapC]

/-! what taking and giving make of the bits -/
theorem map_set (xs : List UInt8) (q v : Nat) (hv : v < 256) : (xs.map byteV).set q (.int .u8 (v : Int)) = (xs.set q (UInt8.ofNat v)).map byteV := by
  rw [List.map_set]
  congr 1
  unfold byteV
  simp [Nat.mod_eq_of_lt hv]
theorem bAt_set (xs : List UInt8) (q j v : Nat) (hv : v < 256) (hq : q < xs.length) : bAt (xs.set q (UInt8.ofNat v)) j = if q = j then v else bAt xs j := by
  unfold bAt
  rw [List.getD_eq_getElem?_getD, List.getElem?_set]
  by_cases h : q = j
  · subst h
    simp [hq, Nat.mod_eq_of_lt hv]
  · simp [h]
def takeL (xs : List UInt8) (k : Nat) : List UInt8 := xs.set (k / 8) (UInt8.ofNat (bAt xs (k / 8) ||| 2 ^ (k % 8)))
def giveL (xs : List UInt8) (k : Nat) : List UInt8 := xs.set (k / 8) (UInt8.ofNat (bAt xs (k / 8) &&& (255 - 2 ^ (k % 8))))
def takeX (xs : List UInt8) (n : Int) : List UInt8 := if 1 ≤ n ∧ n ≤ 128 then takeL xs (n - 1).toNat else xs
def giveX (xs : List UInt8) (n : Int) : List UInt8 := if 1 ≤ n ∧ n ≤ 128 then giveL xs (n - 1).toNat else xs
theorem pow_lt256 (k : Nat) : 2 ^ (k % 8) < 256 := by
  have : k % 8 < 8 := Nat.mod_lt _ (by omega)
  calc 2 ^ (k % 8) ≤ 2 ^ 7 := Nat.pow_le_pow_right (by omega) (by omega)
    _ < 256 := by omega
theorem or_lt256 (a b : Nat) (ha : a < 256) (hb : b < 256) : a ||| b < 256 := Nat.or_lt_two_pow (n := 8) ha hb
theorem and_lt256 (a b : Nat) (ha : a < 256) : a &&& b < 256 := Nat.lt_of_le_of_lt Nat.and_le_left ha
theorem bitB_take (xs : List UInt8) (k j : Nat) (hx : xs.length = 16) (hk : k < 128) : bitB (takeL xs k) j = (bitB xs j || decide (j = k)) := by
  unfold bitB takeL
  rw [bAt_set _ _ _ _ (or_lt256 _ _ (bAt_lt _ _) (pow_lt256 _)) (by omega)]
  by_cases h : k / 8 = j / 8
  · rw [if_pos h, Nat.testBit_or, Nat.testBit_two_pow, h]
    congr 1
    apply decide_eq_decide.2
    constructor
    · intro h2; omega
    · intro h2; subst h2; rfl
  · rw [if_neg h, decide_eq_false (by intro h2; subst h2; exact h rfl), Bool.or_false]
theorem bitB_give (xs : List UInt8) (k j : Nat) (hx : xs.length = 16) (hk : k < 128) : bitB (giveL xs k) j = (bitB xs j && !decide (j = k)) := by
  unfold bitB giveL
  rw [bAt_set _ _ _ _ (and_lt256 _ _ (bAt_lt _ _)) (by omega)]
  by_cases h : k / 8 = j / 8
  · have e1 : 255 - 2 ^ (k % 8) = 2 ^ 8 - (2 ^ (k % 8) + 1) := by omega
    rw [if_pos h, Nat.testBit_and, e1, Nat.testBit_two_pow_sub_succ (pow_lt256 k), Nat.testBit_two_pow, h]
    have hj : j % 8 < 8 := Nat.mod_lt _ (by omega)
    rw [decide_eq_true hj, Bool.true_and]
    congr 2
    apply decide_eq_decide.2
    constructor
    · intro h2; omega
    · intro h2; subst h2; rfl
  · rw [if_neg h, decide_eq_false (by intro h2; subst h2; exact h rfl)]; simp
theorem takeX_length (xs : List UInt8) (n : Int) : (takeX xs n).length = xs.length := by unfold takeX takeL; split <;> simp
theorem giveX_length (xs : List UInt8) (n : Int) : (giveX xs n).length = xs.length := by unfold giveX giveL; split <;> simp
theorem bits_ext (xs ys : List UInt8) (hx : xs.length = 16) (hy : ys.length = 16) (h : ∀ k, k < 128 → bitB xs k = bitB ys k) : xs = ys := by
  apply List.ext_getElem (by omega)
  intro i h1 h2
  apply UInt8.toNat_inj.1
  apply Nat.eq_of_testBit_eq
  intro b
  by_cases hb : b < 8
  · have := h (8 * i + b) (by omega)
    unfold bitB at this
    rw [show (8 * i + b) / 8 = i by omega, show (8 * i + b) % 8 = b by omega, bAt_eq h1, bAt_eq h2] at this
    exact this
  · have k1 := xs[i].toNat_lt
    have k2 := ys[i].toNat_lt
    have p1 : 2 ^ 8 ≤ 2 ^ b := Nat.pow_le_pow_right (by omega) (by omega)
    rw [Nat.testBit_lt_two_pow (by omega), Nat.testBit_lt_two_pow (by omega)]

end Go.Proofs.Ytmjdplnadclgnaa
