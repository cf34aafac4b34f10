import Derived.Test.YtpalgffmdinfpaaRows
import Derived.WalkKit
import Derived.WalkSpells
import Derived.WalkLawsBesides
import Derived.Laws.AppendOwnNone
import Derived.Laws.CopyOwn
import Derived.Deep.QuietTactic
import Derived.BigQuiet
import Derived.Deep.RegionHeld
import Derived.Deep.MidRow
import Derived.Laws.Rows
import Derived.Maps.RangeWalk
import Derived.Maps.OwnIn
import Derived.DeepKeys4
import Derived.Maps.OwnSet
import Derived.Laws.OwnMore
import Derived.Lib.AppendZerosOnto
import Derived.Lib.AppendStr
import Derived.RowKit
import Derived.Laws.IdiomStrings
import Derived.Lib.BufferRead
import Derived.Shelf.Sort.Plain
import Derived.Ground.Names2Prog
import Derived.Shelf.Slices.CompactI
import Derived.Shelf.Slices.In.SortNone
import Derived.Sort.OwnSortedInts
section
namespace Go.Proofs.Ytpalgffmdinfpaa
open Go.RowKit
set_option linter.unusedSimpArgs false
set_option linter.unusedVariables false

theorem ret_bool {a b : Bool} (h : a = b) : Ending.returned (.bool a) = .returned (.bool b) := by rw [h]
theorem hid {p : Prop} (h : p) : Hid p := h

/-- A slice that can be read: n elements of sz cells each, the cells cs. -/
def Row (w : World) (sz : Nat) (a : Option Addr) (n c : Nat) (cs : List Value) : Prop :=
  cs.length = n * sz ∧ n ≤ c ∧ c ≤ maxLen ∧ (a = none → c = 0) ∧
    (0 < n → ∃ b off, a = some ⟨b, off, none⟩ ∧ b < w.heap.size ∧ ∀ j u, cs[j]? = some u → w.cell? ⟨b, off + j, none⟩ = some u)

/-- A slice that the call made itself, in a block from B on. -/
def Own (w : World) (B : Nat) (e : TypeId) (sz : Nat) (a : Option Addr) (n c : Nat) (cs : List Value) : Prop :=
  w.ownsRow B e sz (.slice a n c) n cs

theorem Row.nil (w : World) (sz : Nat) : Row w sz none 0 0 [] := ⟨by simp, Nat.le_refl _, Nat.zero_le _, fun _ => rfl, fun h => absurd h (by omega)⟩

theorem Row.mono {w w' : World} {sz : Nat} {a : Option Addr} {n c : Nat} {cs : List Value} (h : Row w sz a n c cs) (hb : Below w.heap.size w w') : Row w' sz a n c cs := by
  obtain ⟨h1, h2, h3, h4, h5⟩ := h
  refine ⟨h1, h2, h3, h4, fun hn => ?_⟩
  obtain ⟨b, off, e, hlt, hc⟩ := h5 hn
  exact ⟨b, off, e, Nat.lt_of_lt_of_le hlt hb.size, fun j u hu => (hb.cell (by exact hlt)).trans (hc j u hu)⟩

theorem Row.drew {w : World} {sz : Nat} {a : Option Addr} {n c : Nat} {cs : List Value} (h : Row w sz a n c cs) : Row w.drew sz a n c cs := h.mono (Below.refl _ _).drew
theorem Row.alloc {w : World} {sz : Nat} {a : Option Addr} {n c : Nat} {cs : List Value} (h : Row w sz a n c cs) (o : Obj) : Row (w.alloc o) sz a n c cs := h.mono ((Below.refl _ _).alloc (Nat.le_refl _) o)

theorem Own.row {w : World} {B : Nat} {e : TypeId} {sz : Nat} {a : Option Addr} {n c : Nat} {cs : List Value} (h : Own w B e sz a n c cs) : Row w sz a n c cs := by
  obtain ⟨h0, h⟩ := h
  rcases h with ⟨hv, hn⟩ | ⟨g, cap, cur, hv, hg, hh, h1, h2, h3, h4⟩
  · cases hv
    exact ⟨h0, Nat.le_refl _, Nat.zero_le _, fun _ => rfl, fun h => absurd h (by omega)⟩
  · cases hv
    refine ⟨h0, h1, h2, fun h => by (cases h), fun _ => ⟨g, 0, rfl, (Array.getElem?_eq_some_iff.1 hh).1, fun j u hu => ?_⟩⟩
    rw [← h4, List.getElem?_take] at hu
    split at hu
    · simp at hu; simp [World.cell?, hh, hu]
    · simp at hu

theorem Own.mono {w w' : World} {B : Nat} {e : TypeId} {sz : Nat} {a : Option Addr} {n c : Nat} {cs : List Value} (h : Own w B e sz a n c cs) (hb : Below w.heap.size w w') : Own w' B e sz a n c cs := by
  obtain ⟨h0, h⟩ := h
  refine ⟨h0, ?_⟩
  rcases h with h | ⟨g, cap, cur, hv, hg, hh, h1⟩
  · exact .inl h
  · exact .inr ⟨g, cap, cur, hv, hg, (hb.block g (Array.getElem?_eq_some_iff.1 hh).1).trans hh, h1⟩

theorem Own.low {w : World} {B B' : Nat} {e : TypeId} {sz : Nat} {a : Option Addr} {n c : Nat} {cs : List Value} (h : Own w B e sz a n c cs) (hb : B' ≤ B) : Own w B' e sz a n c cs := by
  obtain ⟨h0, h⟩ := h
  refine ⟨h0, ?_⟩
  rcases h with h | ⟨g, cap, cur, hv, hg, hh, h1⟩
  · exact .inl h
  · exact .inr ⟨g, cap, cur, hv, Nat.le_trans hb hg, hh, h1⟩

theorem Own.nil (w : World) (B : Nat) (e : TypeId) (sz : Nat) : Own w B e sz none 0 0 [] := World.ownsRow_nil _ _ _ _
theorem Own.drew {w : World} {B : Nat} {e : TypeId} {sz : Nat} {a : Option Addr} {n c : Nat} {cs : List Value} (h : Own w B e sz a n c cs) : Own w.drew B e sz a n c cs := h.mono (Below.refl _ _).drew
theorem Own.alloc {w : World} {B : Nat} {e : TypeId} {sz : Nat} {a : Option Addr} {n c : Nat} {cs : List Value} (h : Own w B e sz a n c cs) (o : Obj) : Own (w.alloc o) B e sz a n c cs := h.mono ((Below.refl _ _).alloc (Nat.le_refl _) o)

theorem below_trans {w0 w1 w2 : World} {B B1 : Nat} (h : Below B w0 w1) (k : Below B1 w1 w2) (hB : B ≤ B1) : Below B w0 w2 := h.trans (k.mono hB)

/-- The places of a slice: none, or from an address on. -/
theorem Row.at {w : World} {sz : Nat} {a : Option Addr} {n c : Nat} {cs : List Value} (h : Row w sz a n c cs) (hn : 0 < n) :
    ∃ b off, a = some ⟨b, off, none⟩ ∧ b < w.heap.size ∧ ∀ j u, cs[j]? = some u → w.cell? ⟨b, off + j, none⟩ = some u := h.2.2.2.2 hn

theorem bel_drewN {B : Nat} {a w : World} (h : Below B a w) (n : Nat) : Below B a (w.drewN n) := ⟨h.os, h.tape, h.output, h.size, h.block⟩

/-- What the walk is told of an element's type. -/
structure ElemT (P : Program) (t e : TypeId) (sz bytes : Nat) : Prop where
  under : P.underlying t = some (.slice e)
  info : ∃ (i : TypeInfo) (z : Value), P.info? e = some i ∧ i.zero = some z ∧ i.size = sz ∧ i.bytes = bytes ∧ z.cells.size = sz
  pos : 0 < sz

theorem elemT {P : Program} {t e : TypeId} {sz bytes : Nat} {z : Value} (h : P.underlying t = some (.slice e)) (hi : (P.info? e).map (fun i => (i.zero, i.size, i.bytes)) = some (some z, sz, bytes)) (hz : z.cells.size = sz) (hp : 0 < sz) : ElemT P t e sz bytes := by
  obtain ⟨i, h0, h1, h2, h3⟩ := info_parts hi
  exact ⟨h, ⟨i, z, h0, h1, h2, h3, hz⟩, hp⟩

theorem ownsRow_own {w : World} {B : Nat} {e : TypeId} {sz : Nat} {v : Value} {n : Nat} {cs : List Value} (h : w.ownsRow B e sz v n cs) : ∃ a c, v = .slice a n c ∧ Own w B e sz a n c cs := by
  have h' := h
  obtain ⟨h0, h⟩ := h
  rcases h with ⟨hv, hn⟩ | ⟨g, cap, cur, hv, hr⟩
  · subst hn; exact ⟨none, 0, hv, by rw [hv] at h'; exact h'⟩
  · exact ⟨_, cap, hv, by rw [hv] at h'; exact h'⟩

/-- 'append(s, x...)': s nil or the call's own, x whatever can be read. -/
theorem wpl_append {P : Program} {w : World} {ops : Array Oper} {rest : List Oper} {o : Oper} {act : Act} {Q : Exit → Act → World → Prop} (hgd : o.guard = none) (s x : Operand) {t e : TypeId} {sz bytes : Nat}
    (ho : o.op = .call { callee := .builtin .append, args := #[s, x], argTypes := #[t, t] }) (E : ElemT P t e sz bytes) (B : Nat)
    {a1 a2 : Option Addr} {n c m c2 : Nat} {cs ds : List Value} (hs : act.eval s = .slice a1 n c) (hx : act.eval x = .slice a2 m c2)
    (hown : Own w B e sz a1 n c cs) (hrow : Row w sz a2 m c2 ds) (h1 : ∀ u ∈ ds, u.oneCell' = true)
    (hbytes : (n + m) * bytes ≤ 140737488355328) (h63 : n + m ≤ 9223372036854775807) (hbase : B ≤ w.heap.size)
    (h : ∀ a' c' w', Own w' B e sz a' (n + m) c' (cs ++ ds) → w.grownBy w' (Value.slice a1 n c).ownBlock → Below B w w' → wpList P ops Q rest (act.put o.dst (.slice a' (n + m) c')) w') :
    wpList P ops Q (o :: rest) act w := by
  obtain ⟨under, ⟨i, z, hi, hz, hsize, hby, hzs⟩, hsz⟩ := E
  have hlt : ∀ k, (Value.slice a1 n c).ownBlock = some k → B ≤ k := fun k hk => (World.ownsRow.lt hown k hk).1
  cases a2 with
  | none =>
    obtain ⟨g1, g2, g3, g4, g5⟩ := hrow
    obtain rfl : c2 = 0 := g4 rfl
    obtain rfl : m = 0 := by omega
    obtain rfl : ds = [] := List.eq_nil_of_length_eq_zero (by simpa using g1)
    refine wpList_append_own_none hgd s x t ho B e i sz under hi (.slice a1 n c) n cs hs hown hx ?_
    exact h a1 c w (by simpa using hown) ⟨rfl, rfl, rfl, Nat.le_refl _, fun _ _ _ => rfl⟩ (Below.refl _ _)
  | some ad =>
    obtain ⟨g1, g2, g3, g4, g5⟩ := hrow
    refine wpList_append_own w hgd s x t ho B e i z sz bytes under hi hz hsize hby hzs hsz (.slice a1 n c) n cs hs hown ad m c2 ds hx g1 ?_ h1 (by unfold maxLen; omega) hbytes hbase ?_
    · intro j u hu
      have hm : 0 < m := by
        rcases Nat.eq_zero_or_pos m with h0 | h0
        · subst h0; simp at g1; subst g1; simp at hu
        · exact h0
      obtain ⟨b, off, e1, _, hc⟩ := g5 hm
      cases e1
      have := hc j u hu
      unfold Addr.add
      split
      · subst j; simpa using this
      · exact this
    · intro v' w' h2 h3 h4
      obtain ⟨a', c', rfl, h5⟩ := ownsRow_own h2
      exact h a' c' w' h5 h3 ((Below.refl B w).grown h3 hbase (fun k hk => hlt k hk))

/-- A block of cells that the call made itself: its whole list of cells. -/
def Blk (w : World) (g : Nat) (e : TypeId) (L : List Value) : Prop := w.heap[g]? = some (.cells L.toArray e (0, 0))

theorem Blk.lt {w : World} {g : Nat} {e : TypeId} {L : List Value} (h : Blk w g e L) : g < w.heap.size := (Array.getElem?_eq_some_iff.1 h).1
theorem Blk.cell {w : World} {g : Nat} {e : TypeId} {L : List Value} (h : Blk w g e L) {i : Nat} (hi : i < L.length) : w.cell? ⟨g, i, none⟩ = some L[i] := by
  unfold World.cell?
  rw [show (⟨g, i, none⟩ : Addr).block = g from rfl, show w.heap[g]? = _ from h]
  simp [hi]
theorem Blk.frozen {w : World} {g : Nat} {e : TypeId} {L : List Value} (h : Blk w g e L) (i : Nat) : w.frozen? ⟨g, i, none⟩ = false := by
  unfold World.frozen?
  rw [show (⟨g, i, none⟩ : Addr).block = g from rfl, show w.heap[g]? = _ from h]
  simp
theorem Blk.set {w : World} {g : Nat} {e : TypeId} {L : List Value} (h : Blk w g e L) (i : Nat) (v : Value) : Blk (w.setCell ⟨g, i, none⟩ v) g e (L.set i v) := by
  have h' : w.heap[g]? = some (.cells L.toArray e (0, 0)) := h
  unfold Blk World.setCell
  simp only [Array.getElem?_modify, if_true, h', Option.map_some]
  simp
theorem Blk.mono {w w' : World} {g : Nat} {e : TypeId} {L : List Value} (h : Blk w g e L) (hb : Below w.heap.size w w') : Blk w' g e L := (hb.block g h.lt).trans h
theorem Blk.below {w w' : World} {g B : Nat} {e : TypeId} {L : List Value} (h : Blk w g e L) (hb : Below B w w') (hg : g < B) : Blk w' g e L := (hb.block g hg).trans h
theorem Blk.drew {w : World} {g : Nat} {e : TypeId} {L : List Value} (h : Blk w g e L) : Blk w.drew g e L := h

theorem Own.of_blk {w : World} {B : Nat} {e : TypeId} {sz g n c : Nat} {L : List Value} (h : Blk w g e L) (hB : B ≤ g) (hn : n ≤ c) (hc : c ≤ maxLen) (hL : L.length = c * sz) : Own w B e sz (some ⟨g, 0, none⟩) n c (L.take (n * sz)) := by
  refine ⟨?_, .inr ⟨g, c, L.toArray, rfl, hB, h, hn, hc, by simpa using hL, rfl⟩⟩
  have := Nat.mul_le_mul_right sz hn
  simp; omega

theorem Own.blk {w : World} {B : Nat} {e : TypeId} {sz g n c : Nat} {cs : List Value} (h : Own w B e sz (some ⟨g, 0, none⟩) n c cs) : ∃ L, Blk w g e L ∧ L.length = c * sz ∧ B ≤ g ∧ L.take (n * sz) = cs ∧ n ≤ c ∧ c ≤ maxLen := by
  obtain ⟨h0, h⟩ := h
  rcases h with ⟨hv, _⟩ | ⟨g', cap, cur, hv, hg, hh, h1, h2, h3, h4⟩
  · cases hv
  · cases hv
    exact ⟨cur.toList, by simpa [Blk] using hh, by simpa using h3, hg, h4, h1, h2⟩

/-- a new block of one cell, as a slice of one element -/
theorem row_new1 (w : World) (v : Value) (e : TypeId) : Row (w.alloc (.cells #[v] e)) 1 (some ⟨w.heap.size, 0, none⟩) 1 1 [v] := by
  refine ⟨rfl, Nat.le_refl _, by unfold maxLen; omega, fun h => by (cases h), fun _ => ⟨w.heap.size, 0, rfl, by simp, fun j u hu => ?_⟩⟩
  match j, hu with
  | 0, hu =>
    simp at hu; subst hu
    have hh := heap_alloc_new w (.cells #[v] e)
    unfold World.cell?
    rw [show (⟨w.heap.size, 0 + 0, none⟩ : Addr).block = w.heap.size from rfl, hh]
    rfl

/-- a byte as the model holds it -/
def byteV (x : UInt8) : Value := .int .u8 (x.toNat : Int)
/-- bytes that can be read -/
abbrev RowB (w : World) (a : Option Addr) (c : Nat) (xs : List UInt8) : Prop := Row w 1 a xs.length c (xs.map byteV)
/-- bytes of the call's own -/
abbrev OwnB (w : World) (B : Nat) (a : Option Addr) (c : Nat) (xs : List UInt8) : Prop := Own w B 5 1 a xs.length c (xs.map byteV)
/-- the call hands back new bytes, and turns nothing -/
def RetB (w : World) (xs : List UInt8) (e : Ending) (w' : World) : Prop :=
  ∃ a c, e = .returned (.slice a xs.length c) ∧ OwnB w' w.heap.size a c xs ∧ Below w.heap.size w w'

/-- the byte at a place, as a number -/
def bAt (xs : List UInt8) (i : Nat) : Nat := (xs.getD i 0).toNat
theorem bAt_eq {xs : List UInt8} {i : Nat} (h : i < xs.length) : bAt xs i = xs[i].toNat := by simp [bAt, h]

theorem Row.bytes {w : World} {a : Option Addr} {c : Nat} {xs : List UInt8} (h : RowB w a c xs) (hn : 0 < xs.length) :
    ∃ b off, a = some ⟨b, off, none⟩ ∧ b < w.heap.size ∧ ∀ i, i < xs.length → w.cell? ⟨b, off + i, none⟩ = some (.int .u8 (bAt xs i : Int)) := by
  obtain ⟨b, off, e, hlt, hc⟩ := h.at hn
  exact ⟨b, off, e, hlt, fun i hi => hc i _ (by simp [hi, byteV, bAt_eq])⟩

theorem kept_trans {w w1 w2 : World} (h : Below w.heap.size w w1) (k : Below w1.heap.size w1 w2) : Below w.heap.size w w2 := below_trans h k h.size
theorem kept_alloc {w w1 : World} (h : Below w.heap.size w w1) (o : Obj) : Below w.heap.size w (w1.alloc o) := h.alloc h.size o
/-- what a whole number of Go's int can be -/
theorem i64_bd {n : Int} (h : (Lit.int .i64 n).wf = true) : -9223372036854775808 ≤ n ∧ n ≤ 9223372036854775807 := by
  simpa [Lit.wf, IntKind.min, IntKind.max, IntKind.signed, IntKind.bits] using h
theorem getElem?_splice {α : Type} (L : List α) (off : Nat) (cs : List α) (h : off + cs.length ≤ L.length) (i : Nat) :
    (splice L off cs)[i]? = if off ≤ i ∧ i < off + cs.length then cs[i - off]? else L[i]? := by
  unfold splice
  have h1 : (L.take off).length = off := by simp; omega
  by_cases a : i < off
  · rw [List.getElem?_append_left (by omega), List.getElem?_take, if_pos a, if_neg (by omega)]
  · rw [List.getElem?_append_right (by omega), h1]
    by_cases b : i < off + cs.length
    · rw [List.getElem?_append_left (by omega), if_pos (by omega)]
    · rw [List.getElem?_append_right (by omega), List.getElem?_drop, if_neg (by omega)]
      congr 1; omega

theorem splice_append {α : Type} (A Z cs : List α) (off : Nat) (h : off + cs.length ≤ A.length) : splice (A ++ Z) off cs = splice A off cs ++ Z := by
  unfold splice
  rw [List.take_append_of_le_length (by omega), List.drop_append_of_le_length (by omega)]
  simp

end Go.Proofs.Ytpalgffmdinfpaa
end
section
namespace Go.Proofs.Ytpalgffmdinfpaa
open Go.RowKit
set_option linter.unusedSimpArgs false
set_option linter.unusedVariables false

theorem put_someR {a : Act} {d : Option Tmp} {n : Tmp} {v : Value} (h : d = some n) : a.put d v = { a with tmps := a.tmps.setIfInBounds n v } := by subst h; rfl
theorem takeR {P : Program} {ops : Array Oper} {Q : Exit → Act → World → Prop} {md : Region.Mode} {S : World → Prop} {i : Nat} {oi : Oper} {d : Tmp} {v : Value} {fuel : Nat} {listed : Array Bool} {a : Act} {w : World}
    (hi : ops[i]? = some oi) (hd : oi.dst = some d)
    (hs : Region.noSelect ops = true) (hf : Region.free md ops listed i = true) (hr : (Region.ready md ops listed).contains i = true)
    (hQ : ∀ c a w, Q (.panic c) (a.put oi.dst v) w → Q (.panic c) a w) (hy : YieldsIf P ops S oi v a) (hS : S w)
    (h : wpAnyH P md ops Q S fuel (listed.setIfInBounds i true) { tmps := a.tmps.setIfInBounds d v, defers := a.defers } w) : wpAnyH P md ops Q S (fuel + 1) listed a w :=
  wpAnyH_take hi hs hf hr hQ hy hS (by rw [put_someR hd]; exact h)

end Go.Proofs.Ytpalgffmdinfpaa
end
section
namespace Go.Proofs.Ytpalgffmdinfpaa
open Go.RowKit
set_option linter.unusedSimpArgs false
set_option linter.unusedVariables false

theorem Blk.range {w : World} {g : Nat} {e : TypeId} {L : List Value} (h : Blk w g e L) : w.rangeAt g 0 L := fun j v hv => by
  obtain ⟨h1, h2⟩ := List.getElem?_eq_some_iff.1 hv
  rw [Nat.zero_add, h.cell h1, h2]
end Go.Proofs.Ytpalgffmdinfpaa
end
section
namespace Go.Proofs.Ytpalgffmdinfpaa
open Go.RowKit
set_option linter.unusedSimpArgs false
set_option linter.unusedVariables false

theorem sg_set {w w' : World} {h : Nat} (g : w.grownBy w' (some h)) (i : Nat) (v : Value) : w.grownBy (w'.setCell ⟨h, i, none⟩ v) (some h) :=
  ⟨g.os, g.tape, g.output, by simp [World.setCell]; exact g.size, fun k hk hne => by
    rw [Below.heap_setCell _ _ _ _ (by rintro rfl; exact hne rfl)]; exact g.block k hk hne⟩
theorem sg_refl (w : World) (r : Option Nat) : w.grownBy w r := ⟨rfl, rfl, rfl, Nat.le_refl _, fun _ _ _ => rfl⟩
theorem sg_trans {w w1 w2 : World} {r : Option Nat} (a : w.grownBy w1 r) (b : w1.grownBy w2 r) : w.grownBy w2 r :=
  ⟨b.os.trans a.os, b.tape.trans a.tape, b.output.trans a.output, Nat.le_trans a.size b.size, fun k hk hne => (b.block k (Nat.lt_of_lt_of_le hk a.size) hne).trans (a.block k hk hne)⟩
theorem Blk.there {w : World} {g : Nat} {e : TypeId} {L : List Value} (h : Blk w g e L) (o n : Nat) (hn : o + n ≤ L.length) : w.there g o n := fun j hj => by
  rw [Blk.cell h (show o + j < L.length by omega)]; exact ⟨rfl, Blk.frozen h _⟩
theorem Blk.setCells {g : Nat} {e : TypeId} : ∀ (vs : List Value) (o : Nat) (w : World) (L : List Value), Blk w g e L → o + vs.length ≤ L.length → Blk (w.setCells g o vs) g e (splice L o vs) ∧ w.grownBy (w.setCells g o vs) (some g)
  | [], o, w, L, h, _ => by
    refine ⟨?_, sg_refl w _⟩
    simp [splice]; exact h
  | v :: r, o, w, L, h, hl => by
    simp only [List.length_cons] at hl
    have h1 := Blk.set h o v
    obtain ⟨h2, h3⟩ := Blk.setCells r (o + 1) _ _ h1 (by simp; omega)
    refine ⟨?_, sg_trans (sg_set (sg_refl w _) o v) h3⟩
    have e1 : splice (L.set o v) (o + 1) r = splice L o (v :: r) := by
      apply List.ext_getElem?
      intro i
      rw [getElem?_splice _ _ _ (by simp; omega), getElem?_splice _ _ _ (by simp; omega)]
      by_cases h0 : i = o
      · subst h0
        rw [if_neg (by omega), if_pos (by simp)]
        simp [List.getElem?_set, show i < L.length by omega]
      · by_cases h4 : o + 1 ≤ i ∧ i < o + 1 + r.length
        · rw [if_pos h4, if_pos (by simp; omega), show i - o = (i - (o + 1)) + 1 by omega, List.getElem?_cons_succ]
        · rw [if_neg h4, if_neg (by simp; omega), List.getElem?_set_ne (by omega)]
    rw [← e1]; exact h2
theorem splice_all {α : Type} {L vs : List α} (h : L.length = vs.length) : splice L 0 vs = vs := by
  unfold splice; simp [List.drop_eq_nil_of_le, h]
theorem results_cell1 {P : Program} {fn : Func} {c : Tmp} {T : TypeId} (h : fn.results = #[.cell c T]) {tmps : Array Value} {w : World} {g : Nat} {e : TypeId} {L : List Value} {k : TypeDesc} (hc : tmps.getD c undef = .pointer (some ⟨g, 0, none⟩)) (hb : Blk w g e L)
    (hu : P.underlying T = some k) (hk : k.isRow = true) (hn : (P.info? T).map (·.size) = some L.length) :
    (results fn tmps).run P w = .ok (.agg L.toArray) w := by
  have hv := run_loadVar_mid (P := P) w g 0 T L k hb.range hu hk hn
  have hc' : tmps[c]?.getD undef = .pointer (some ⟨g, 0, none⟩) := by simpa using hc
  simp [results, h, hc', asAddr, hv]
theorem results_cell2 {P : Program} {fn : Func} {c u : Tmp} {T : TypeId} (h : fn.results = #[.cell c T, .tmp u]) {tmps : Array Value} {w : World} {g : Nat} {e : TypeId} {L : List Value} {k : TypeDesc} (hc : tmps.getD c undef = .pointer (some ⟨g, 0, none⟩)) (hb : Blk w g e L)
    (hu : P.underlying T = some k) (hk : k.isRow = true) (hn : (P.info? T).map (·.size) = some L.length) :
    (results fn tmps).run P w = .ok (.tuple #[.agg L.toArray, tmps.getD u undef]) w := by
  have hv := run_loadVar_mid (P := P) w g 0 T L k hb.range hu hk hn
  have hc' : tmps[c]?.getD undef = .pointer (some ⟨g, 0, none⟩) := by simpa using hc
  simp [results, h, hc', asAddr, hv]

/-- cells filled from the head -/
def pfill (C : List Value) (z : Value) (n : Nat) : List Value := C.take n ++ List.replicate (C.length - n) z
end Go.Proofs.Ytpalgffmdinfpaa
end
section
namespace Go.Proofs.Ytpalgffmdinfpaa
open Go.RowKit
set_option linter.unusedSimpArgs false
set_option linter.unusedVariables false

/-- a whole value stored into the middle of a block -/
theorem wpl_storeM {P : Program} {w : World} {ops : Array Oper} {rest : List Oper} {o : Oper} {act : Act} {Q : Exit → Act → World → Prop} (hgd : o.guard = none) (T : TypeId) (x y : Operand)
    (ho : o.op = .store T x y) (g off : Nat) (hx : act.eval x = .pointer (some ⟨g, off, none⟩)) {e : TypeId} (vs : List Value) (hy : act.eval y = .agg vs.toArray) (hn : (P.info? T).map (·.size) = some vs.length) (h1 : ∀ v ∈ vs, v.oneCell' = true) {L : List Value} (hb : Blk w g e L) (hL : off + vs.length ≤ L.length)
    (h : ∀ w', Blk w' g e (splice L off vs) → w.grownBy w' (some g) → wpList P ops Q rest (act.put o.dst undef) w') : wpList P ops Q (o :: rest) act w := by
  refine wpList_store_mid hgd T x y ho g off vs.toArray hx hy (by simpa using hb.there off vs.length hL) (by simpa using hn) (all_oneCell_toArray h1) ?_
  obtain ⟨h2, h3⟩ := Blk.setCells vs off w L hb hL
  exact h _ h2 h3
theorem row_blkO {w : World} {g : Nat} {e : TypeId} {L : List Value} (h : Blk w g e L) (sz n : Nat) (hl : L.length = n * sz) (hm : n ≤ 9223372036854775807) : Row w sz (some ⟨g, 0, none⟩) n n L :=
  ⟨hl, Nat.le_refl _, by unfold maxLen; omega, (fun h => by cases h), fun hn => ⟨g, 0, rfl, h.lt, fun j u hu => by
    obtain ⟨h1, h2⟩ := List.getElem?_eq_some_iff.1 hu
    rw [Nat.zero_add, h.cell h1, h2]⟩⟩
theorem own_someO {w : World} {B : Nat} {e : TypeId} {sz : Nat} {a : Option Addr} {n c : Nat} {cs : List Value} (h : Own w B e sz a n c cs) (hn : 0 < n) : ∃ g, a = some ⟨g, 0, none⟩ := by
  obtain ⟨h0, h⟩ := h
  rcases h with ⟨hv, h1⟩ | ⟨g, cap, cur, hv, _⟩
  · omega
  · cases hv; exact ⟨g, rfl⟩
theorem blk_newO {W : World} {n : Nat} (h : W.heap.size = n) (e : TypeId) (L : List Value) : Blk (W.alloc (.cells L.toArray e)) n e L := by subst h; exact heap_alloc_new W _
theorem albO (W : World) (o : Obj) : Below W.heap.size W (W.alloc o) := (Below.refl _ W).alloc (Nat.le_refl _) o
/-- lists of structs, all cells of one behind the other -/
theorem flat_len {α : Type} (enc : α → List Value) (sz : Nat) (h : ∀ x, (enc x).length = sz) : ∀ L : List α, (L.flatMap enc).length = L.length * sz
  | [] => by simp
  | x :: r => by
    show (enc x ++ r.flatMap enc).length = _
    rw [List.length_append, h, flat_len enc sz h r, List.length_cons, Nat.succ_mul]; omega
theorem flat_get {α : Type} (enc : α → List Value) (sz : Nat) (h : ∀ x, (enc x).length = sz) : ∀ (L : List α) (i j : Nat) (hi : i < L.length), j < sz → (L.flatMap enc)[i * sz + j]? = (enc L[i])[j]?
  | x :: r, 0, j, _, hj => by
    show (enc x ++ r.flatMap enc)[0 * sz + j]? = _
    rw [Nat.zero_mul, Nat.zero_add, List.getElem?_append_left (by rw [h]; exact hj)]; rfl
  | x :: r, i + 1, j, hi, hj => by
    show (enc x ++ r.flatMap enc)[(i + 1) * sz + j]? = _
    rw [List.getElem?_append_right (by rw [h, Nat.succ_mul]; omega), h, Nat.succ_mul, show i * sz + sz + j - sz = i * sz + j by omega, flat_get enc sz h r i j (by simpa using hi) hj]; rfl
theorem flat_set {α : Type} (enc : α → List Value) (sz : Nat) (h : ∀ x, (enc x).length = sz) : ∀ (L : List α) (i : Nat) (y : α), i < L.length → (L.set i y).flatMap enc = splice (L.flatMap enc) (i * sz) (enc y)
  | x :: r, 0, y, _ => by
    show enc y ++ r.flatMap enc = splice (enc x ++ r.flatMap enc) (0 * sz) (enc y)
    unfold splice
    simp [h]
  | x :: r, i + 1, y, hi => by
    show enc x ++ (r.set i y).flatMap enc = splice (enc x ++ r.flatMap enc) ((i + 1) * sz) (enc y)
    rw [flat_set enc sz h r i y (by simpa using hi)]
    unfold splice
    have hx := h x
    have e1 : (i + 1) * sz = (enc x).length + i * sz := by rw [hx, Nat.succ_mul]; omega
    rw [e1, List.take_length_add_append, Nat.add_assoc, List.drop_length_add_append]
    simp only [List.append_assoc]
/-- cells of one's own row, some of them stored anew -/
theorem own_splice {w : World} {B : Nat} {e : TypeId} {sz g n c : Nat} {cs : List Value} (h : Own w B e sz (some ⟨g, 0, none⟩) n c cs) :
    ∃ L, Blk w g e L ∧ n * sz ≤ L.length ∧ B ≤ g ∧ ∀ w' off (vs : List Value), off + vs.length ≤ n * sz → Blk w' g e (splice L off vs) → Own w' B e sz (some ⟨g, 0, none⟩) n c (splice cs off vs) := by
  have h0 := h.1
  obtain ⟨L, hb, hl, hB, ht, hnc, hc⟩ := Own.blk h
  have hle : n * sz ≤ L.length := by rw [hl]; exact Nat.mul_le_mul_right sz hnc
  refine ⟨L, hb, hle, hB, fun w' off vs hv hb' => ?_⟩
  have hs : (splice L off vs).length = L.length := length_splice L off vs (by omega)
  have q := Own.of_blk (B := B) (sz := sz) (n := n) (c := c) hb' hB hnc hc (by rw [hs, hl])
  have e1 : L = cs ++ L.drop (n * sz) := by rw [← ht, List.take_append_drop]
  have e2 : (splice L off vs).take (n * sz) = splice cs off vs := by
    rw [e1, splice_append cs _ vs off (by omega)]
    exact List.take_left' (by rw [length_splice cs off vs (by omega)]; exact h0)
  rw [e2] at q
  exact q
end Go.Proofs.Ytpalgffmdinfpaa
end
section
namespace Go.Proofs.Ytpalgffmdinfpaa
open Go.RowKit
set_option linter.unusedSimpArgs false
set_option linter.unusedVariables false

/-- an act of N slots, some of them known -/
structure Kn (N : Nat) (l : List (Nat × Value)) (a : Act) : Prop where
  size : a.tmps.size = N
  known : ∀ x ∈ l, a.tmps[x.1]? = some x.2
  defs : a.defers = []
theorem Kn.eval {N : Nat} {l : List (Nat × Value)} {a : Act} (h : Kn N l a) {k : Nat} {v : Value} (hm : (k, v) ∈ l) : a.eval (.tmp k) = v := by
  have := h.known _ hm
  show a.tmps.getD k undef = v
  rw [Array.getD_eq_getD_getElem?, this]; rfl
/-- the value of a slot, looked up -/
theorem Kn.ev {N : Nat} {l : List (Nat × Value)} {a : Act} (h : Kn N l a) (k : Nat) {v : Value} (hm : l.find? (fun y => y.1 == k) = some (k, v)) : a.eval (.tmp k) = v := h.eval (List.mem_of_find?_eq_some hm)
theorem Kn.put {N : Nat} {l : List (Nat × Value)} {a : Act} (h : Kn N l a) {d : Nat} (hd : d < N) (hf : ∀ x ∈ l, x.1 ≠ d) (v : Value) : Kn N ((d, v) :: l) (a.put (some d) v) := by
  refine ⟨by show (a.tmps.setIfInBounds d v).size = N; rw [Array.size_setIfInBounds]; exact h.size, fun x hx => ?_, h.defs⟩
  show (a.tmps.setIfInBounds d v)[x.1]? = some x.2
  rw [Array.getElem?_setIfInBounds]
  rcases List.mem_cons.1 hx with rfl | hx
  · rw [if_pos rfl, if_pos (by rw [h.size]; exact hd)]
  · rw [if_neg (fun e => hf x hx e.symm)]; exact h.known x hx
theorem Kn.sub {N : Nat} {l l' : List (Nat × Value)} {a : Act} (h : Kn N l a) (hs : ∀ x ∈ l', x ∈ l) : Kn N l' a := ⟨h.size, fun x hx => h.known x (hs x hx), h.defs⟩
/-- freshness of a slot, by a look -/
theorem fr {l : List (Nat × Value)} {d : Nat} (h : l.all (fun x => !(x.1 == d)) = true) : ∀ x ∈ l, x.1 ≠ d := fun x hx e => by
  have := List.all_eq_true.1 h x hx
  simp [e] at this
/-- some of what is known, by slots -/
theorem Kn.subs {N : Nat} {l l' : List (Nat × Value)} {a : Act} (h : Kn N l a) (hs : (l'.map fun x => l.find? fun y => y.1 == x.1) = l'.map some) : Kn N l' a := h.sub fun x hx => by
  have : some x ∈ l'.map some := List.mem_map.2 ⟨x, hx, rfl⟩
  rw [← hs] at this
  obtain ⟨i, _, hi⟩ := List.mem_map.1 this
  exact List.mem_of_find?_eq_some hi
theorem Kn.yields {N : Nat} {l : List (Nat × Value)} {a : Act} (h : Kn N l a) {ops : Array Oper} {g prev : Nat} {b : Bool} (hg : (ops[g]?).bind (·.dst) = some prev) (hm : (prev, .bool b) ∈ l) : yielded ops a.tmps g = some b := by
  unfold yielded
  rw [hg, Option.bind_some]
  have := h.known _ hm
  show (match a.tmps[prev]? with | some (.bool b) => some b | _ => none) = some b
  rw [this]
theorem wanted_of {o : Oper} {y : Nat → Option Bool} {g : Nat} {want b : Bool} (hg : o.guard = some (g, want)) (hy : y g = some b) : Region.wanted o y = (b == want) := by
  unfold Region.wanted
  rw [hg]
  simp only [hy]
  cases b <;> cases want <;> rfl
theorem wpk_val {P : Program} {ops : Array Oper} {Q : Exit → Act → World → Prop} {rest : List Oper} {o : Oper} {a : Act} {w w' : World} {N : Nat} {l : List (Nat × Value)} (h : Kn N l a) (hw : Region.wanted o (yielded ops a.tmps) = true) {d : Nat} (hd : o.dst = some d) (hdN : d < N) (hf : ∀ x ∈ l, x.1 ≠ d) (v : Value)
    (hr : (execOp a.eval o).run P w = .ok (.value v) w') (k : ∀ a', Kn N ((d, v) :: l) a' → wpList P ops Q rest a' w') : wpList P ops Q (o :: rest) a w := by
  refine wpList_step fun K hK => ?_
  rw [if_pos hw]
  unfold Oper.wp
  rw [hr, Oper.upon_value, hd]
  exact hK _ _ (k _ (h.put hdN hf v))
theorem wpk_skip {P : Program} {ops : Array Oper} {Q : Exit → Act → World → Prop} {rest : List Oper} {o : Oper} {a : Act} {w : World} {N : Nat} {l : List (Nat × Value)} (h : Kn N l a) (hw : Region.wanted o (yielded ops a.tmps) = false) {d : Nat} (hd : o.dst = some d) (hdN : d < N) (hf : ∀ x ∈ l, x.1 ≠ d)
    (k : ∀ a', Kn N ((d, undef) :: l) a' → wpList P ops Q rest a' w) : wpList P ops Q (o :: rest) a w := by
  refine wpList_skip hw ?_
  rw [hd]
  exact k _ (h.put hdN hf undef)
theorem wanted_none {o : Oper} {y : Nat → Option Bool} (hg : o.guard = none) : Region.wanted o y = true := by unfold Region.wanted; rw [hg]
/-- a field of two structs compared: what the five operations come to -/
structure Cmp (P : Program) (w : World) (T : TypeId) (f : Nat) (Tf : TypeId) (op : BinOp) (gp gq : Nat) (c : Bool) (off : Nat) (vp vq : Value) : Prop where
  addr : ∀ g, (Instr.fieldAt T (.pointer (some ⟨g, 0, none⟩)) f).run P w = .ok (.pointer (some ⟨g, off, none⟩)) w
  lp : (Instr.loadAt Tf (.pointer (some ⟨gp, off, none⟩))).run P w = .ok vp w
  lq : (Instr.loadAt Tf (.pointer (some ⟨gq, off, none⟩))).run P w = .ok vq w
  cmp : ∀ x y, (do eqGuard op Tf x y vp vq; binOp op Tf vp vq : Sem Value).run P w = .ok (.bool c) w
theorem run_v {P : Program} {s : Sem Value} {v : Value} {w w' : World} (h : s.run P w = .ok v w') : (do pure (Next.value (← s)) : Sem Next).run P w = .ok (.value v) w' := by
  rw [Sem.run_bind, h]; rfl
theorem run_pick {P : Program} {o : Oper} {x y z : Operand} {w : World} (ho : o.op = .pick x y z) {ρ : Operand → Value} {b : Bool} (hb : ρ x = .bool b) {v : Value} (hv : (if b = true then ρ y else ρ z) = v) : (execOp ρ o).run P w = .ok (.value v) w := by
  subst hv
  unfold execOp
  rw [ho]
  simp only [hb]
  cases b <;> rfl
abbrev L3 (prev : Nat) (b : Bool) (pb qb gp gq : Nat) : List (Nat × Value) := [(prev, .bool b), (pb, .pointer (some ⟨gp, 0, none⟩)), (qb, .pointer (some ⟨gq, 0, none⟩))]
/-- the pointers of two structs -/
abbrev L2 (pb qb gp gq : Nat) : List (Nat × Value) := [(pb, .pointer (some ⟨gp, 0, none⟩)), (qb, .pointer (some ⟨gq, 0, none⟩))]
/-- all but some slots are forgotten -/
theorem wpk_enter {P : Program} {ops : Array Oper} {Q : Exit → Act → World → Prop} {rest : List Oper} {a : Act} {w : World} {N : Nat} {l : List (Nat × Value)} (h : Kn N l a) (k : ∀ a', Kn N l a' → wpList P ops Q rest a' w) : wpList P ops Q rest a w := k a h
/-- a call of a function of its own contract -/
theorem wpk_call {P : Program} {ops : Array Oper} {Q : Exit → Act → World → Prop} {rest : List Oper} {o : Oper} {a : Act} {w : World} {N : Nat} {l : List (Nat × Value)} (h : Kn N l a) (hw : Region.wanted o (yielded ops a.tmps) = true) {d : Nat} (hd : o.dst = some d) (hdN : d < N) (hf : ∀ x ∈ l, x.1 ≠ d)
    {fn : FuncId} (hcf : ∀ args, (callFunc fn args).run P w = .ok (.enter fn args) w) {xs : Array Operand} {ts : Array TypeId} (p : o.op = .call { callee := .value (.func fn), args := xs, argTypes := ts }) (vs : Array Value) (hx : xs.map a.eval = vs)
    {R : Value → World → Prop} (HC : Calls P fn vs w fun e w' => ∃ v, e = .returned v ∧ R v w') (k : ∀ a' v w', R v w' → Kn N ((d, v) :: l) a' → wpList P ops Q rest a' w') : wpList P ops Q (o :: rest) a w := by
  refine wpList_step fun K hK => ?_
  rw [if_pos hw]
  have hrun : (execOp a.eval o).run P w = .ok (.enter fn vs) w := by
    unfold execOp; rw [p]
    simp [resolve, invoke, Deferred.ofValue, hx, hcf]
    simp [Act.eval, hcf]
  unfold Oper.wp
  rw [hrun, Oper.upon_enter]
  refine HC.mono ?_
  rintro e w' ⟨v, rfl, hv⟩
  simp only
  refine hK _ _ ?_
  rw [hd]
  exact k _ v w' hv (h.put hdN hf v)
/-- in a region that draws its order: an operation that yields under S -/
theorem wpk_take {P : Program} {ops : Array Oper} {Q : Exit → Act → World → Prop} {md : Region.Mode} {S : World → Prop} {oi : Oper} {fuel : Nat} {listed : Array Bool} {a : Act} {w : World} {N : Nat} {l : List (Nat × Value)} (hS : S w) (h : Kn N l a) (i : Nat) (hi : ops[i]? = some oi) {d : Nat} (hd : oi.dst = some d) (hdN : d < N) (hf : ∀ x ∈ l, x.1 ≠ d)
    (hs : Region.noSelect ops = true) (hfr : Region.free md ops listed i = true) (hr : (Region.ready md ops listed).contains i = true) (hQ : ∀ c a w v, Q (.panic c) (a.put oi.dst v) w → Q (.panic c) a w) (v : Value) (hy : YieldsIf P ops S oi v a)
    (k : ∀ a', Kn N ((d, v) :: l) a' → wpAnyH P md ops Q S fuel (listed.setIfInBounds i true) a' w) : wpAnyH P md ops Q S (fuel + 1) listed a w :=
  takeR hi hd hs hfr hr (fun c a w => hQ c a w v) hy hS (k _ (h.put hdN hf v))
theorem results_tmp2 {P : Program} {fn : Func} {c d : Nat} (h : fn.results = #[.tmp c, .tmp d]) {tmps : Array Value} {w : World} {v u : Value} (hc : tmps[c]? = some v) (hd : tmps[d]? = some u) : (results fn tmps).run P w = .ok (.tuple #[v, u]) w := by
  simp [results, h, hc, hd]
theorem results_tmp1 {P : Program} {fn : Func} {c : Nat} (h : fn.results = #[.tmp c]) {tmps : Array Value} {w : World} {v : Value} (hc : tmps[c]? = some v) : (results fn tmps).run P w = .ok v w := by
  simp [results, h, hc]
/-- shorter: an operation under no guard -/
theorem wv {P : Program} {ops : Array Oper} {Q : Exit → Act → World → Prop} {rest : List Oper} {o : Oper} {a : Act} {w w' : World} {N : Nat} {l : List (Nat × Value)} (h : Kn N l a) (hg : o.guard = none) {d : Nat} (hd : o.dst = some d) (hdN : decide (d < N) = true) (hf : l.all (fun x => !(x.1 == d)) = true) (v : Value)
    (hr : (execOp a.eval o).run P w = .ok (.value v) w') (k : ∀ a', Kn N ((d, v) :: l) a' → wpList P ops Q rest a' w') : wpList P ops Q (o :: rest) a w :=
  wpk_val h (wanted_none hg) hd (of_decide_eq_true hdN) (fr hf) v hr k
theorem wmk {P : Program} {ops : Array Oper} {Q : Exit → Act → World → Prop} {rest : List Oper} {o : Oper} {a : Act} {w : World} {N : Nat} {l : List (Nat × Value)} (h : Kn N l a) (hg : o.guard = none) {d : Nat} (hd : o.dst = some d) (hdN : decide (d < N) = true) (hf : l.all (fun x => !(x.1 == d)) = true) (k : Nat) {v : Value} (hm : l.find? (fun y => y.1 == k) = some (k, v))
    (ho : ∀ ρ : Operand → Value, execOp ρ o = pure (.value (ρ (.tmp k)))) (K : ∀ a', Kn N ((d, v) :: l) a' → wpList P ops Q rest a' w) : wpList P ops Q (o :: rest) a w :=
  wpk_val h (wanted_none hg) hd (of_decide_eq_true hdN) (fr hf) v (by rw [ho, h.ev k hm]; rfl) K
end Go.Proofs.Ytpalgffmdinfpaa
end
section
namespace Go.Proofs.Ytpalgffmdinfpaa
open Go.RowKit
set_option linter.unusedSimpArgs false
set_option linter.unusedVariables false

section
variable {P : Program} {ops : Array Oper} {Q : Exit → Act → World → Prop} {md : Region.Mode} {S : World → Prop} {oi oj : Oper} {fuel : Nat} {listed : Array Bool} {a : Act} {w w' : World} {N : Nat} {l : List (Nat × Value)} {K : Act → World → Prop}
/-- the only operation that is ready -/
theorem wpk_only (i : Nat) (hi : ops[i]? = some oi) (hg : oi.guard = none) (hr : Region.ready md ops listed = [i])
    (k : ∀ K : Act → World → Prop, (∀ a' w', S w' → (S w' → wpAnyH P md ops Q S fuel (listed.setIfInBounds i true) a' w') → K a' w') → Oper.wp P oi a w K Q) : wpAnyH P md ops Q S (fuel + 1) listed a w :=
  wpAnyH_ready hr (by simp) (AllReadyH.cons hi (fun K hK => by
    rw [if_pos (wanted_none hg)]
    exact k K (Shut.out hK)) AllReadyH.nil)
/-- it yields a value, in another world maybe -/
theorem op_val (h : Kn N l a) {d : Nat} (hd : oi.dst = some d) (hdN : d < N) (hf : ∀ x ∈ l, x.1 ≠ d) (v : Value) (hrun : (execOp a.eval oi).run P w = .ok (.value v) w')
    (k : ∀ a', Kn N ((d, v) :: l) a' → K a' w') : Oper.wp P oi a w K Q := by
  unfold Oper.wp
  rw [hrun, Oper.upon_value, hd]
  exact k _ (h.put hdN hf v)
/-- it stores -/
theorem op_skip (h : Kn N l a) (hd : oi.dst = none) (hrun : (execOp a.eval oi).run P w = .ok .skip w') (k : ∀ a', Kn N l a' → K a' w') : Oper.wp P oi a w K Q := by
  unfold Oper.wp
  rw [hrun, Oper.upon_skip, hd]
  exact k _ h
end
end Go.Proofs.Ytpalgffmdinfpaa
end
section
namespace Go.Proofs.Ytpalgffmdinfpaa
open Go.RowKit
set_option linter.unusedSimpArgs false
set_option linter.unusedVariables false

/-- what is seen, what lasts, which cells are on their way -/
structure MemM where
  V : List UInt8
  D : List UInt8
  A : List Bool
def MemM.ok (M : MemM) : Prop := M.D.length = M.V.length ∧ M.A.length * 8 = M.V.length ∧ M.V.length % 64 = 0 ∧ 64 ≤ M.V.length ∧ M.V.length ≤ 1048576

/-- is a unit of s bytes touched by n bytes from at on -/
def inT (at_ n s k : Nat) : Bool := decide (0 < n ∧ at_ / s ≤ k ∧ k * s < at_ + n)
def mixF (f : Nat → Bool) (V D : List UInt8) : List UInt8 := (List.range D.length).map fun i => if f (i / 8) then V.getD i 0 else D.getD i 0
def tabF (n : Nat) (f : Nat → Bool) : List Bool := (List.range n).map f
def cell8 (X : List UInt8) (k : Nat) : List UInt8 := (X.drop (8 * k)).take 8
def dirtyB (V D : List UInt8) (k : Nat) : Bool := decide (cell8 V k ≠ cell8 D k)
def dirtyL (M : MemM) : List Nat := (List.range M.A.length).filter (dirtyB M.V M.D)
def oddP (p : Int) : Bool := decide ((if p < 0 then -(p + 1) else p) % 2 = 1)
def pickB (picks : List Int) (j : Nat) : Bool := decide (j < picks.length) && oddP (picks.getD j 0)
def selF (L : List Nat) (picks : List Int) (n : Nat) (k : Nat) : Bool := (List.range n).any fun j => (L.getD j 0 == k) && pickB picks j

def storeM (M : MemM) (at_ : Nat) (b : List UInt8) : MemM := ⟨splice M.V at_ b, M.D, tabF M.A.length fun k => M.A.getD k false && !inT at_ b.length 8 k⟩
def flushM (M : MemM) (at_ n : Nat) : MemM := ⟨M.V, M.D, tabF M.A.length fun k => M.A.getD k false || (inT at_ n 64 (k / 8) && dirtyB M.V M.D k)⟩
def fenceM (M : MemM) : MemM := ⟨M.V, mixF (fun k => M.A.getD k false) M.V M.D, tabF M.A.length fun _ => false⟩
def evictM (M : MemM) (line : Nat) : MemM := ⟨M.V, mixF (fun k => k / 8 == line) M.V M.D, tabF M.A.length fun k => M.A.getD k false && !(k / 8 == line)⟩
def crashD (M : MemM) (picks : List Int) : List UInt8 := mixF (selF (dirtyL M) picks (dirtyL M).length) M.V M.D
def crashM (M : MemM) (picks : List Int) : MemM := ⟨crashD M picks, crashD M picks, tabF M.A.length fun _ => false⟩

end Go.Proofs.Ytpalgffmdinfpaa
end
section
namespace Go.Proofs.Ytpalgffmdinfpaa
open Go.RowKit
set_option linter.unusedSimpArgs false
set_option linter.unusedVariables false

/-- an int as the model holds it -/
def iV (n : Int) : Value := .int .i64 n
abbrev RowI (w : World) (a : Option Addr) (c : Nat) (A : List Int) : Prop := Row w 1 a A.length c (A.map iV)
theorem rowI_len {w : World} {a : Option Addr} {c : Nat} {A : List Int} (h : RowI w a c A) : A.length ≤ 9223372036854775807 := by
  have h1 := h.2.1; have h2 := h.2.2.1; unfold maxLen at h2; omega
theorem rowI_cells {w : World} {a : Option Addr} {c : Nat} {A : List Int} (h : RowI w a c A) (hn : 0 < A.length) :
    ∃ b off, a = some ⟨b, off, none⟩ ∧ b < w.heap.size ∧ ∀ i, i < A.length → w.cell? ⟨b, off + i, none⟩ = some (.int .i64 (A.getD i 0)) := by
  obtain ⟨b, off, e, hlt, hc⟩ := h.at hn
  exact ⟨b, off, e, hlt, fun i hi => hc i _ (by simp [hi, iV])⟩
theorem listI_ext {A B : List Int} (h : A.length = B.length) (k : ∀ i, i < B.length → A.getD i 0 = B.getD i 0) : A = B := by
  apply List.ext_getElem h
  intro i h1 h2
  have := k i h2
  simpa [h1, h2] using this

set_option maxHeartbeats 1000000 in
theorem sameInts_any (a b : Option Addr) (c d : Nat) (xs ys : List Int) (w : World) (ha : RowI w a c xs) (hb : RowI w b d ys) :
    Calls Try.prog 14 #[.slice a xs.length c, .slice b ys.length d] w fun e w' => e = .returned (.bool (decide (xs = ys))) ∧ Below w.heap.size w w' := by
  have hl := rowI_len ha
  have hm := rowI_len hb
  by_cases hne : xs.length = ys.length
  · rw [hne]
    have hne2 := hid hne
    clear hne
    go_enter Try.func14, Try.ntmps14
    go_wp2
    go_loopw [5] (fun i wr => ∃ j : Nat, j ≤ ys.length ∧ i = .int .i64 j ∧ (∀ i, i < j → xs.getD i 0 = ys.getD i 0) ∧ Below w.heap.size w wr)
      (fun i _ => ys.length - (intOf i).toNat)
    case atStart => exact ⟨0, Nat.zero_le _, rfl, fun i h => absurd h (by omega), Below.refl _ _⟩
    case round =>
      obtain ⟨j, hj, rfl, hp, hbel⟩ := hrel
      have HP := hid hp; clear hp
      by_cases hlt : j < ys.length
      · obtain ⟨ba, oa, rfl, hba, hca⟩ := rowI_cells (ha.mono hbel) (by have := hne2.out; omega)
        obtain ⟨bb, ob, rfl, hbb, hcb⟩ := rowI_cells (hb.mono hbel) (by omega)
        have ca := hca j (by have := hne2.out; omega)
        have cb := hcb j hlt
        clear hca hcb ha hb
        have hlt' : (j : Int) < (ys.length : Int) := by omega
        generalize hxa : xs.getD j 0 = xj at *
        generalize hyb : ys.getD j 0 = yj at *
        have HX0 := hid hxa; have HY0 := hid hyb
        clear hxa hyb
        by_cases hxy : xj = yj
        · have HX := hid hxy
          rw [hxy] at ca
          clear hxy
          go_wp2
          go_quiet (fail)
          go_wp2
          go_roundw
          case rel => exact ⟨j + 1, by omega, by go_num, fun i hi => (by rcases Nat.lt_succ_iff_lt_or_eq.1 hi with h | rfl; exact HP.out i h; rw [HX0.out, HY0.out]; exact HX.out), bel_drewN hbel _⟩
          case measure => simp [intOf]; omega
        · have hxy' : (xj != yj) = true := by simp; omega
          have HX := hid hxy
          clear hxy
          go_wp2
          go_quiet (fail)
          go_wp2
          go_ret
          exact ⟨ret_bool (decide_eq_false (by rintro rfl; exact HX.out (HX0.out.symm.trans HY0.out))).symm, bel_drewN hbel _⟩
      · obtain rfl : j = ys.length := by omega
        go_wp2
        go_ret
        exact ⟨ret_bool (decide_eq_true (listI_ext hne2.out HP.out)).symm, hbel⟩
  · go_enter Try.func14, Try.ntmps14
    go_wp2
    go_ret
    exact ⟨ret_bool (by simp; intro h; exact hne (by rw [h])), Below.refl _ _⟩

end Go.Proofs.Ytpalgffmdinfpaa
end
section
namespace Go.Proofs.Ytpalgffmdinfpaa
open Go.RowKit
set_option linter.unusedSimpArgs false
set_option linter.unusedVariables false

/-- every block stays but those that X names -/
structure Turns (X : Nat → Prop) (w w' : World) : Prop where
  os : w'.os = w.os
  tape : w'.tape = w.tape
  output : w'.output = w.output
  size : w.heap.size ≤ w'.heap.size
  block : ∀ k, k < w.heap.size → ¬ X k → w'.heap[k]? = w.heap[k]?
theorem Turns.refl (X : Nat → Prop) (w : World) : Turns X w w := ⟨rfl, rfl, rfl, Nat.le_refl _, fun _ _ _ => rfl⟩
theorem Turns.trans {X : Nat → Prop} {w w1 w2 : World} (a : Turns X w w1) (b : Turns X w1 w2) : Turns X w w2 :=
  ⟨b.os.trans a.os, b.tape.trans a.tape, b.output.trans a.output, Nat.le_trans a.size b.size, fun k hk hx => (b.block k (Nat.lt_of_lt_of_le hk a.size) hx).trans (a.block k hk hx)⟩
theorem Turns.mono {X Y : Nat → Prop} {w w' : World} (a : Turns X w w') (h : ∀ k, X k → Y k) : Turns Y w w' := ⟨a.os, a.tape, a.output, a.size, fun k hk hy => a.block k hk (fun hx => hy (h k hx))⟩
/-- what is turned beyond the old world's end does not count -/
theorem Turns.mono' {X Y : Nat → Prop} {w w' : World} (a : Turns X w w') (h : ∀ k, k < w.heap.size → X k → Y k) : Turns Y w w' := ⟨a.os, a.tape, a.output, a.size, fun k hk hy => a.block k hk (fun hx => hy (h k hk hx))⟩
theorem Turns.trans' {X Y : Nat → Prop} {w w1 w2 : World} (a : Turns X w w1) (b : Turns Y w1 w2) (h : ∀ k, k < w.heap.size → Y k → X k) : Turns X w w2 :=
  ⟨b.os.trans a.os, b.tape.trans a.tape, b.output.trans a.output, Nat.le_trans a.size b.size, fun k hk hx => (b.block k (Nat.lt_of_lt_of_le hk a.size) (fun q => hx (h k hk q))).trans (a.block k hk hx)⟩
theorem Turns.of_grown {X : Nat → Prop} {w w' : World} {g : Nat} (h : w.grownBy w' (some g)) (hx : X g) : Turns X w w' :=
  ⟨h.os, h.tape, h.output, h.size, fun k hk hn => h.block k hk (fun e => hn (by cases e; exact hx))⟩
theorem Turns.of_below {X : Nat → Prop} {w w' : World} (h : Below w.heap.size w w') : Turns X w w' := ⟨h.os, h.tape, h.output, h.size, fun k hk _ => h.block k hk⟩
theorem Turns.below {X : Nat → Prop} {B : Nat} {w w' : World} (h : Turns X w w') (hB : B ≤ w.heap.size) (hx : ∀ k, X k → B ≤ k) : Below B w w' :=
  ⟨h.os, h.tape, h.output, h.size, fun k hk => h.block k (Nat.lt_of_lt_of_le hk hB) (fun q => by have := hx k q; omega)⟩
theorem Turns.drew {X : Nat → Prop} {w w' : World} (h : Turns X w w') : Turns X w w'.drew := ⟨h.os, h.tape, h.output, h.size, h.block⟩
theorem Turns.drewN {X : Nat → Prop} {w w' : World} (h : Turns X w w') (n : Nat) : Turns X w (w'.drewN n) := ⟨h.os, h.tape, h.output, h.size, h.block⟩
theorem Turns.alloc {X : Nat → Prop} {w w' : World} (h : Turns X w w') (o : Obj) : Turns X w (w'.alloc o) := h.trans (Turns.of_below (albO w' o))
theorem Turns.setCell {X : Nat → Prop} {w w' : World} (h : Turns X w w') {p : Addr} (hp : X p.block) (v : Value) : Turns X w (w'.setCell p v) :=
  h.trans ⟨rfl, rfl, rfl, by simp [World.setCell], fun k _ hn => Below.heap_setCell _ _ _ _ (by rintro rfl; exact hn hp)⟩
theorem Turns.blk {X : Nat → Prop} {w w' : World} {g : Nat} {e : TypeId} {L : List Value} (t : Turns X w w') (h : Blk w g e L) (hx : ¬ X g) : Blk w' g e L := (t.block g h.lt hx).trans h
theorem Turns.row {X : Nat → Prop} {w w' : World} {sz : Nat} {a : Option Addr} {n c : Nat} {cs : List Value} (t : Turns X w w') (h : Row w sz a n c cs) (hx : 0 < n → ∀ b, (∃ off, a = some ⟨b, off, none⟩) → ¬ X b) : Row w' sz a n c cs := by
  obtain ⟨h1, h2, h3, h4, h5⟩ := h
  refine ⟨h1, h2, h3, h4, fun hn => ?_⟩
  obtain ⟨b, off, e, hlt, hc⟩ := h5 hn
  refine ⟨b, off, e, Nat.lt_of_lt_of_le hlt t.size, fun j u hu => ?_⟩
  rw [← hc j u hu]
  exact World.cell?_of_block (t.block b hlt (hx hn b ⟨off, e⟩))
theorem Turns.map {X : Nat → Prop} {w w' : World} {H : Type} {P : Program} {k : TypeId} {R : Value → Option (DataW H × List MemPlace)} {b n : Nat} {D : DataW H} (t : Turns X w w') (h : w.ownsMap P k R b n D) (hx : ¬ X b) : w'.ownsMap P k R b n D := by
  have hlt := h.lt
  obtain ⟨es, clock, hb, F, hs, hD⟩ := h
  exact ⟨es, clock, (t.block b hlt hx).trans hb, F, hs, hD⟩
theorem Turns.own {X : Nat → Prop} {w w' : World} {B : Nat} {e : TypeId} {sz : Nat} {a : Option Addr} {n c : Nat} {cs : List Value} (t : Turns X w w') (h : Own w B e sz a n c cs) (hx : ∀ k, X k → k < B) : Own w' B e sz a n c cs := by
  refine ⟨h.1, ?_⟩
  rcases h.2 with hn | ⟨b, cap, cur, hv, hb, hh, rest⟩
  · exact .inl hn
  · exact .inr ⟨b, cap, cur, hv, hb, (t.block b (Array.getElem?_eq_some_iff.1 hh).1 (fun q => by have := hx b q; omega)).trans hh, rest⟩
theorem blk_ne {w : World} {g k : Nat} {e e' : TypeId} {L L' : List Value} (h : Blk w g e L) (h' : Blk w k e' L') (hne : e ≠ e') : g ≠ k := by
  rintro rfl
  unfold Blk at h h'
  rw [h] at h'
  simp only [Option.some.injEq, Obj.cells.injEq] at h'
  exact hne h'.2.1
def pendB (A : List Bool) (k : Int) : Bool := decide (0 ≤ k) && A.getD k.toNat false
theorem pendB_nat (A : List Bool) (k : Nat) : pendB A (k : Int) = A.getD k false := by simp [pendB]
def PendP (w : World) (p : Nat) (A : List Bool) : Prop :=
  ∃ (D : DataW Unit) (n : Nat), w.ownsMap Try.prog 3 unitElem p n D ∧ (∀ k : Int, Maps.has D (.int .i64 k) = pendB A k) ∧ Maps.size D = A.count true
theorem keyedI : Maps.Keyed Try.prog 3 := Maps.int_keyed Try.underlying3
theorem keyI (k : Int) (h : (Lit.int .i64 k).wf = true) : keyOf Try.prog 3 (.int .i64 k) = some (.int .i64 k) := Maps.keyOf_int_mk Try.underlying3 h
theorem isKeyI (k : Int) (h : (Lit.int .i64 k).wf = true) : WideAt.IsKeyLit (.int .i64 k) := keyedI.key (keyI k h)
theorem pendB_set (A : List Bool) (k : Nat) (b : Bool) (hk : k < A.length) (i : Int) : pendB (A.set k b) i = if i = k then b else pendB A i := by
  unfold pendB
  by_cases e : i = k
  · subst e; simp [hk]
  · rw [if_neg e]
    by_cases h0 : 0 ≤ i
    · simp only [List.getD_eq_getElem?_getD, List.getElem?_set]
      rw [if_neg (by omega)]
    · simp [h0]
theorem count_set_true (A : List Bool) (k : Nat) (hk : k < A.length) : (A.set k true).count true + (if A.getD k false then 1 else 0) = A.count true + 1 := by
  rw [List.count_set hk]
  simp [hk]
  cases h : A[k]
  · simp
  · have : 0 < A.count true := List.count_pos_iff.2 (h ▸ List.getElem_mem hk)
    simp; omega
theorem count_set_false (A : List Bool) (k : Nat) (hk : k < A.length) : (A.set k false).count true + (if A.getD k false then 1 else 0) = A.count true := by
  rw [List.count_set hk]
  simp [hk]
  cases h : A[k]
  · simp
  · have : 0 < A.count true := List.count_pos_iff.2 (h ▸ List.getElem_mem hk)
    simp; omega
theorem PendP.del {w w' : World} {p : Nat} {A : List Bool} {D : DataW Unit} {n k : Nat} (hk : k < A.length) (hw : k ≤ 1000000) (h : w.ownsMap Try.prog 3 unitElem p n D) (h1 : ∀ k : Int, Maps.has D (.int .i64 k) = pendB A k) (h2 : Maps.size D = A.count true)
    (h' : w'.ownsMap Try.prog 3 unitElem p n (D.del (.int .i64 k))) : PendP w' p (A.set k false) := by
  refine ⟨_, n, h', fun i => ?_, ?_⟩
  · rw [pendB_set A k false hk]
    by_cases e : i = k
    · subst e; rw [if_pos rfl, Maps.has_del_same]
    · rw [if_neg e, Maps.has_del_other (by simpa using e), h1]
  · have h3 := Maps.size_del (k := .int .i64 (k : Int)) (h.tidy keyedI)
    have h4 := count_set_false A k hk
    rw [h1, pendB_nat] at h3
    omega
theorem PendP.put {w w' : World} {p : Nat} {A : List Bool} {D : DataW Unit} {n m k : Nat} (hk : k < A.length) (hw : k ≤ 1000000) (h : w.ownsMap Try.prog 3 unitElem p n D) (h1 : ∀ k : Int, Maps.has D (.int .i64 k) = pendB A k) (h2 : Maps.size D = A.count true)
    (h' : w'.ownsMap Try.prog 3 unitElem p m (D.put (.int .i64 k) (.agg []))) : PendP w' p (A.set k true) := by
  have hwf : (Lit.int .i64 (k : Int)).wf = true := WalkArith.wf_i64 (by omega)
  refine ⟨_, m, h', fun i => ?_, ?_⟩
  · rw [pendB_set A k true hk]
    by_cases e : i = k
    · subst e; rw [if_pos rfl, Maps.has_put_same h.isMap (isKeyI _ hwf)]
    · rw [if_neg e, Maps.has_put_other (by simpa using e), h1]
  · have h3 := Maps.size_put (k := .int .i64 (k : Int)) (h.tidy keyedI) (.agg [])
    have h4 := count_set_true A k hk
    rw [h1, pendB_nat] at h3
    cases h5 : A.getD k false <;> simp only [h5, if_true, if_false, Bool.false_eq_true] at h3 h4 <;> omega
theorem PendP.made (w : World) (n : Nat) : PendP (w.alloc (.map #[] 0)) w.heap.size (tabF n fun _ => false) := by
  refine ⟨_, 0, World.ownsMap_made w _ _ _, fun k => ?_, ?_⟩
  · have : pendB (tabF n fun _ => false) k = false := by
      unfold pendB tabF
      simp only [Bool.and_eq_false_iff]
      right
      simp only [List.getD_eq_getElem?_getD, List.getElem?_map]
      cases (List.range n)[k.toNat]? <;> rfl
    rw [this]; rfl
  · have : (tabF n fun _ => false).count true = 0 := by
      rw [List.count_eq_zero]; simp [tabF]
    rw [this]; rfl

end Go.Proofs.Ytpalgffmdinfpaa
end
section
namespace Go.Proofs.Ytpalgffmdinfpaa
open Go.RowKit
set_option linter.unusedSimpArgs false
set_option linter.unusedVariables false

/-- a part of memory: its blocks, and what holds of them -/
structure Ch where
  F : Nat → Prop
  P : World → Prop
  keep : ∀ {w w' : World}, P w → Turns (fun b => ¬ F b) w w' → P w'
  lt : ∀ {w : World}, P w → ∀ b, F b → b < w.heap.size
/-- parts that lie apart -/
structure Sep (w : World) (cs : List Ch) : Prop where
  all : ∀ (i : Nat) (c : Ch), cs[i]? = some c → c.P w
  ap : ∀ (i j : Nat) (c d : Ch), i ≠ j → cs[i]? = some c → cs[j]? = some d → ∀ b, c.F b → d.F b → False
theorem Sep.get {w : World} {cs : List Ch} (h : Sep w cs) (i : Nat) {c : Ch} (hi : cs[i]? = some c) : c.P w := h.all i c hi
theorem Sep.nil (w : World) : Sep w [] := ⟨fun i c h => by simp at h, fun i j c d _ h => by simp at h⟩
theorem Sep.turns {w w' : World} {cs : List Ch} (h : Sep w cs) {X : Nat → Prop} (t : Turns X w w') (hX : ∀ k, k < w.heap.size → X k → ∀ (i : Nat) (c : Ch), cs[i]? = some c → ¬ c.F k) : Sep w' cs :=
  ⟨fun i c hi => c.keep (h.all i c hi) (t.mono' fun k hk hx => hX k hk hx i c hi), h.ap⟩
theorem Sep.mono {w w' : World} {cs : List Ch} (h : Sep w cs) (b : Below w.heap.size w w') : Sep w' cs := h.turns (X := fun _ => False) (Turns.of_below b) (fun _ _ e => e.elim)
theorem Sep.drew {w : World} {cs : List Ch} (h : Sep w cs) : Sep w.drew cs := h.mono (Below.refl _ _).drew
/-- one part is turned -/
theorem Sep.upd {w w' : World} {cs : List Ch} (h : Sep w cs) (i : Nat) {c : Ch} (hi : cs[i]? = some c) {X : Nat → Prop} (t : Turns X w w') (hX : ∀ k, k < w.heap.size → X k → c.F k) {c' : Ch} (hc : c'.P w') (hF : ∀ k, c'.F k → c.F k ∨ w.heap.size ≤ k) : Sep w' (cs.set i c') := by
  have hil : i < cs.length := (List.getElem?_eq_some_iff.1 hi).1
  have hset : ∀ (j : Nat) (d : Ch), (cs.set i c')[j]? = some d → (j = i ∧ d = c') ∨ (j ≠ i ∧ cs[j]? = some d) := by
    intro j d hj
    rw [List.getElem?_set] at hj
    split at hj
    · subst_vars; (try rw [if_pos hil] at hj); cases hj; exact .inl ⟨rfl, rfl⟩
    · rename_i hne; exact .inr ⟨fun e => hne e.symm, hj⟩
  refine ⟨fun j d hj => ?_, fun j k d e hjk hj hk b hd he => ?_⟩
  · rcases hset j d hj with ⟨_, rfl⟩ | ⟨hne, hj⟩
    · exact hc
    · exact d.keep (h.all j d hj) (t.mono' fun k hk hx hd => h.ap i j c d (fun e => hne e.symm) hi hj k (hX k hk hx) hd)
  · rcases hset j d hj with ⟨hj1, hj2⟩ | ⟨hnj, hj'⟩
    · rcases hset k e hk with ⟨hk1, hk2⟩ | ⟨hnk, hk'⟩
      · exact hjk (hj1.trans hk1.symm)
      · rw [hj2] at hd
        rcases hF b hd with q | q
        · exact h.ap i k c e (fun q => hjk (hj1.trans q)) hi hk' b q he
        · have := e.lt (h.all k e hk') b he; omega
    · rcases hset k e hk with ⟨hk1, hk2⟩ | ⟨hnk, hk'⟩
      · rw [hk2] at he
        rcases hF b he with q | q
        · exact h.ap i j c d (fun q => hjk (q.symm.trans hk1.symm)) hi hj' b q hd
        · have := d.lt (h.all j d hj') b hd; omega
      · exact h.ap j k d e hjk hj' hk' b hd he
/-- a new part -/
theorem Sep.push {w w' : World} {cs : List Ch} (h : Sep w cs) (b : Below w.heap.size w w') {c : Ch} (hc : c.P w') (hF : ∀ k, c.F k → w.heap.size ≤ k) : Sep w' (c :: cs) := by
  have h' := h.mono b
  refine ⟨fun i d hi => ?_, fun i j d e hij hi hj k hd he => ?_⟩
  · cases i with
    | zero => cases hi; exact hc
    | succ i => exact h'.all i d (by simpa using hi)
  · cases i with
    | zero =>
      cases hi
      cases j with
      | zero => exact hij rfl
      | succ j => have := e.lt (h.all j e (by simpa using hj)) k he; have := hF k hd; omega
    | succ i =>
      cases j with
      | zero => cases hj; have := d.lt (h.all i d (by simpa using hi)) k hd; have := hF k he; omega
      | succ j => exact h'.ap i j d e (fun q => hij (by rw [q])) (by simpa using hi) (by simpa using hj) k hd he
/-- some of the parts, in another order -/
theorem Sep.pick {w : World} {cs out : List Ch} (h : Sep w cs) (is : List Nat) (hn : is.Nodup) (hc : is.map (fun i => cs[i]?) = out.map some) : Sep w out := by
  have key : ∀ (i : Nat) (c : Ch), out[i]? = some c → ∃ k, is[i]? = some k ∧ cs[k]? = some c := by
    intro i c hi
    have e : (is.map (fun i => cs[i]?))[i]? = (out.map some)[i]? := by rw [hc]
    rw [List.getElem?_map, List.getElem?_map, hi] at e
    cases hk : is[i]? with
    | none => rw [hk] at e; cases e
    | some k => rw [hk] at e; exact ⟨k, rfl, by simpa using e⟩
  refine ⟨fun i c hi => ?_, fun i j c d hij hi hj b hd he => ?_⟩
  · obtain ⟨k, _, hk⟩ := key i c hi; exact h.all k c hk
  · obtain ⟨k, h1, hk⟩ := key i c hi
    obtain ⟨m, h2, hm⟩ := key j d hj
    refine h.ap k m c d (fun e => ?_) hk hm b hd he
    subst e
    obtain ⟨l1, q1⟩ := List.getElem?_eq_some_iff.1 h1
    obtain ⟨l2, q2⟩ := List.getElem?_eq_some_iff.1 h2
    exact hij ((List.getElem_inj (h₀ := l1) (h₁ := l2) hn).1 (q1.trans q2.symm))
/-- many parts as one -/
def Ch.many (cs : List Ch) : Ch where
  F b := ∃ (i : Nat) (c : Ch), cs[i]? = some c ∧ c.F b
  P w := Sep w cs
  keep h t := h.turns t (fun k _ hk i c hi hF => hk ⟨i, c, hi, hF⟩)
  lt h b := fun ⟨i, c, hi, hF⟩ => c.lt (h.all i c hi) b hF
theorem Sep.tail_many {w : World} : ∀ {xs R : List Ch}, Sep w (xs ++ R) → Sep w (xs ++ [Ch.many R]) := by
  intro xs R h
  have hl : ∀ (i : Nat) (c : Ch), (xs ++ [Ch.many R])[i]? = some c → xs[i]? = some c ∨ (i = xs.length ∧ c = Ch.many R) := by
    intro i c hi
    rcases Nat.lt_trichotomy i xs.length with q | q | q
    · rw [List.getElem?_append_left q] at hi; exact .inl hi
    · subst q; rw [List.getElem?_append_right (Nat.le_refl _), Nat.sub_self] at hi; cases hi; exact .inr ⟨rfl, rfl⟩
    · rw [List.getElem?_append_right (by omega)] at hi
      have : i - xs.length ≠ 0 := by omega
      obtain ⟨n, hn⟩ := Nat.exists_eq_succ_of_ne_zero this
      rw [hn] at hi; simp at hi
  have hL : ∀ (i : Nat) (c : Ch), xs[i]? = some c → (xs ++ R)[i]? = some c := fun i c hi => by rw [List.getElem?_append_left (List.getElem?_eq_some_iff.1 hi).1]; exact hi
  have hR : ∀ (i : Nat) (c : Ch), R[i]? = some c → (xs ++ R)[xs.length + i]? = some c := fun i c hi => by rw [List.getElem?_append_right (by omega), Nat.add_sub_cancel_left]; exact hi
  refine ⟨fun i c hi => ?_, fun i j c d hij hi hj b hc hd => ?_⟩
  · rcases hl i c hi with q | ⟨_, rfl⟩
    · exact h.all i c (hL i c q)
    · exact ⟨fun j d hj => h.all _ d (hR j d hj), fun j k d e hjk hj hk b => h.ap _ _ d e (by omega) (hR j d hj) (hR k e hk) b⟩
  · rcases hl i c hi with q | ⟨rfl, rfl⟩ <;> rcases hl j d hj with r | ⟨rfl, rfl⟩
    · exact h.ap i j c d hij (hL i c q) (hL j d r) b hc hd
    · obtain ⟨k, e, hk, he⟩ := hd
      have := (List.getElem?_eq_some_iff.1 q).1
      exact h.ap i _ c e (by omega) (hL i c q) (hR k e hk) b hc he
    · obtain ⟨k, e, hk, he⟩ := hc
      have := (List.getElem?_eq_some_iff.1 r).1
      exact h.ap _ j e d (by omega) (hR k e hk) (hL j d r) b he hd
    · exact hij rfl
theorem Sep.tail_un {w : World} : ∀ {xs R : List Ch}, Sep w (xs ++ [Ch.many R]) → Sep w (xs ++ R) := by
  intro xs R h
  have hM : (xs ++ [Ch.many R])[xs.length]? = some (Ch.many R) := by rw [List.getElem?_append_right (Nat.le_refl _), Nat.sub_self]; rfl
  have hs : Sep w R := h.all _ _ hM
  have hl : ∀ (i : Nat) (c : Ch), (xs ++ R)[i]? = some c → (xs[i]? = some c ∧ i < xs.length) ∨ (xs.length ≤ i ∧ R[i - xs.length]? = some c) := by
    intro i c hi
    rcases Nat.lt_or_ge i xs.length with q | q
    · rw [List.getElem?_append_left q] at hi; exact .inl ⟨hi, q⟩
    · rw [List.getElem?_append_right q] at hi; exact .inr ⟨q, hi⟩
  have hL : ∀ (i : Nat) (c : Ch), xs[i]? = some c → (xs ++ [Ch.many R])[i]? = some c := fun i c hi => by rw [List.getElem?_append_left (List.getElem?_eq_some_iff.1 hi).1]; exact hi
  refine ⟨fun i c hi => ?_, fun i j c d hij hi hj b hc hd => ?_⟩
  · rcases hl i c hi with ⟨q, _⟩ | ⟨_, q⟩
    · exact h.all i c (hL i c q)
    · exact hs.all _ c q
  · rcases hl i c hi with ⟨q, q1⟩ | ⟨q1, q⟩ <;> rcases hl j d hj with ⟨r, r1⟩ | ⟨r1, r⟩
    · exact h.ap i j c d hij (hL i c q) (hL j d r) b hc hd
    · exact h.ap i xs.length c _ (by omega) (hL i c q) hM b hc ⟨_, d, r, hd⟩
    · exact h.ap xs.length j _ d (by omega) hM (hL j d r) b ⟨_, c, q, hc⟩ hd
    · exact hs.ap _ _ c d (by omega) q r b hc hd
/-- several parts for one, or one for several -/
theorem Sep.swap {w : World} {A B R : List Ch} (h : Sep w (A ++ R)) (hB : Sep w B) (hF : ∀ (i : Nat) (c : Ch), B[i]? = some c → ∀ k, c.F k → ∃ (j : Nat) (d : Ch), A[j]? = some d ∧ d.F k) : Sep w (B ++ R) := by
  have hl : ∀ (i : Nat) (c : Ch), (B ++ R)[i]? = some c → (B[i]? = some c ∧ i < B.length) ∨ (B.length ≤ i ∧ R[i - B.length]? = some c) := by
    intro i c hi
    rcases Nat.lt_or_ge i B.length with q | q
    · rw [List.getElem?_append_left q] at hi; exact .inl ⟨hi, q⟩
    · rw [List.getElem?_append_right q] at hi; exact .inr ⟨q, hi⟩
  have hL : ∀ (i : Nat) (c : Ch), A[i]? = some c → (A ++ R)[i]? = some c := fun i c hi => by rw [List.getElem?_append_left (List.getElem?_eq_some_iff.1 hi).1]; exact hi
  have hR : ∀ (i : Nat) (c : Ch), R[i]? = some c → (A ++ R)[A.length + i]? = some c := fun i c hi => by rw [List.getElem?_append_right (by omega), Nat.add_sub_cancel_left]; exact hi
  refine ⟨fun i c hi => ?_, fun i j c d hij hi hj b hc hd => ?_⟩
  · rcases hl i c hi with ⟨q, _⟩ | ⟨_, q⟩
    · exact hB.all i c q
    · exact h.all _ c (hR _ c q)
  · rcases hl i c hi with ⟨q, q1⟩ | ⟨q1, q⟩ <;> rcases hl j d hj with ⟨r, r1⟩ | ⟨r1, r⟩
    · exact hB.ap i j c d hij q r b hc hd
    · obtain ⟨k, e, hk, he⟩ := hF i c q b hc
      have := (List.getElem?_eq_some_iff.1 hk).1
      exact h.ap k _ e d (by omega) (hL k e hk) (hR _ d r) b he hd
    · obtain ⟨k, e, hk, he⟩ := hF j d r b hd
      have := (List.getElem?_eq_some_iff.1 hk).1
      exact h.ap _ k c e (by omega) (hR _ c q) (hL k e hk) b hc he
    · exact h.ap _ _ c d (by omega) (hR _ c q) (hR _ d r) b hc hd

theorem Sep.cons {w : World} {c : Ch} {cs : List Ch} (hc : c.P w) (h : Sep w cs) (ha : ∀ (i : Nat) (d : Ch), cs[i]? = some d → ∀ b, c.F b → d.F b → False) : Sep w (c :: cs) := by
  refine ⟨fun i d hi => ?_, fun i j d e hij hi hj k hd he => ?_⟩
  · cases i with
    | zero => cases hi; exact hc
    | succ i => exact h.all i d (by simpa using hi)
  · cases i with
    | zero =>
      cases hi
      cases j with
      | zero => exact hij rfl
      | succ j => exact ha j e (by simpa using hj) k hd he
    | succ i =>
      cases j with
      | zero => cases hj; exact ha i d (by simpa using hi) k he hd
      | succ j => exact h.ap i j d e (fun q => hij (by rw [q])) (by simpa using hi) (by simpa using hj) k hd he
/-- some parts are turned by something that turns no others -/
theorem Sep.turn {w w' : World} {A A' R : List Ch} (h : Sep w (A ++ R)) {X : Nat → Prop} (t : Turns X w w') (hX : ∀ k, k < w.heap.size → X k → ∃ (j : Nat) (d : Ch), A[j]? = some d ∧ d.F k) (hA : Sep w' A')
    (hF : ∀ (i : Nat) (c : Ch), A'[i]? = some c → ∀ k, c.F k → w.heap.size ≤ k ∨ ∃ (j : Nat) (d : Ch), A[j]? = some d ∧ d.F k) : Sep w' (A' ++ R) := by
  have hR : ∀ (i : Nat) (c : Ch), R[i]? = some c → (A ++ R)[A.length + i]? = some c := fun i c hi => by rw [List.getElem?_append_right (by omega), Nat.add_sub_cancel_left]; exact hi
  have hL : ∀ (i : Nat) (c : Ch), A[i]? = some c → (A ++ R)[i]? = some c := fun i c hi => by rw [List.getElem?_append_left (List.getElem?_eq_some_iff.1 hi).1]; exact hi
  have hl : ∀ (i : Nat) (c : Ch), (A' ++ R)[i]? = some c → (A'[i]? = some c ∧ i < A'.length) ∨ (A'.length ≤ i ∧ R[i - A'.length]? = some c) := by
    intro i c hi
    rcases Nat.lt_or_ge i A'.length with q | q
    · rw [List.getElem?_append_left q] at hi; exact .inl ⟨hi, q⟩
    · rw [List.getElem?_append_right q] at hi; exact .inr ⟨q, hi⟩
  have hx : ∀ (i j : Nat) (c d : Ch), A'[i]? = some c → R[j]? = some d → ∀ b, c.F b → d.F b → False := by
    intro i j c d hi hj b hc hd
    rcases hF i c hi b hc with q | ⟨k, e, hk, he⟩
    · have := d.lt (h.all _ d (hR j d hj)) b hd; omega
    · have := (List.getElem?_eq_some_iff.1 hk).1
      exact h.ap k _ e d (by omega) (hL k e hk) (hR j d hj) b he hd
  refine ⟨fun i c hi => ?_, fun i j c d hij hi hj b hc hd => ?_⟩
  · rcases hl i c hi with ⟨q, _⟩ | ⟨_, q⟩
    · exact hA.all i c q
    · refine c.keep (h.all _ c (hR _ c q)) (t.mono' fun k hk hx' hF' => ?_)
      obtain ⟨j, d, hj, hd⟩ := hX k hk hx'
      have := (List.getElem?_eq_some_iff.1 hj).1
      exact h.ap j _ d c (by omega) (hL j d hj) (hR _ c q) k hd hF'
  · rcases hl i c hi with ⟨q, q1⟩ | ⟨q1, q⟩ <;> rcases hl j d hj with ⟨r, r1⟩ | ⟨r1, r⟩
    · exact hA.ap i j c d hij q r b hc hd
    · exact hx _ _ c d q r b hc hd
    · exact hx _ _ d c r q b hd hc
    · exact h.ap _ _ c d (by omega) (hR _ c q) (hR _ d r) b hc hd
theorem Sep.left {w : World} {A R : List Ch} (h : Sep w (A ++ R)) : Sep w A :=
  ⟨fun i c hi => h.all i c (by rw [List.getElem?_append_left (List.getElem?_eq_some_iff.1 hi).1]; exact hi), fun i j c d hij hi hj => h.ap i j c d hij (by rw [List.getElem?_append_left (List.getElem?_eq_some_iff.1 hi).1]; exact hi) (by rw [List.getElem?_append_left (List.getElem?_eq_some_iff.1 hj).1]; exact hj)⟩
theorem Sep.right {w : World} {A R : List Ch} (h : Sep w (A ++ R)) : Sep w R :=
  ⟨fun i c hi => h.all (A.length + i) c (by rw [List.getElem?_append_right (by omega), Nat.add_sub_cancel_left]; exact hi), fun i j c d hij hi hj => h.ap (A.length + i) (A.length + j) c d (by omega) (by rw [List.getElem?_append_right (by omega), Nat.add_sub_cancel_left]; exact hi) (by rw [List.getElem?_append_right (by omega), Nat.add_sub_cancel_left]; exact hj)⟩

/-- all blocks below B are as they were -/
def oldC (w0 : World) (B : Nat) : Ch where
  F b := b < B
  P w := Below B w0 w ∧ B ≤ w0.heap.size
  keep h t := ⟨h.1.trans (t.below (Nat.le_trans h.2 h.1.size) (fun k hk => Nat.le_of_not_lt hk)), h.2⟩
  lt h b hb := Nat.lt_of_lt_of_le (Nat.lt_of_lt_of_le hb h.2) h.1.size
theorem Sep.start (w : World) : Sep w [oldC w w.heap.size] :=
  ⟨fun i c hi => by cases i with
    | zero => cases hi; exact ⟨Below.refl _ _, Nat.le_refl _⟩
    | succ i => simp at hi, fun i j c d hij hi hj => by cases i with
    | zero => cases j with
      | zero => exact absurd rfl hij
      | succ j => simp at hj
    | succ i => simp at hi⟩
/-- a block of cells -/
def blkC (g : Nat) (e : TypeId) (L : List Value) : Ch where
  F b := b = g
  P w := Blk w g e L
  keep h t := t.blk h (fun q => q rfl)
  lt h b hb := hb ▸ h.lt
/-- a slice that the call made -/
def ownC (B : Nat) (e : TypeId) (sz : Nat) (a : Option Addr) (n c : Nat) (cs : List Value) : Ch where
  F b := (Value.slice a n c).ownBlock = some b
  P w := Own w B e sz a n c cs
  keep {w w'} h t := by
    obtain ⟨h0, h1⟩ := h
    refine ⟨h0, ?_⟩
    rcases h1 with h1 | ⟨g, cap, cur, hv, hg, hh, h1⟩
    · exact .inl h1
    · refine .inr ⟨g, cap, cur, hv, hg, (t.block g (Array.getElem?_eq_some_iff.1 hh).1 (fun hn => hn ?_)).trans hh, h1⟩
      rw [hv]; rfl
  lt h b hb := (World.ownsRow.lt h b hb).2
end Go.Proofs.Ytpalgffmdinfpaa
end
section
namespace Go.Proofs.Ytpalgffmdinfpaa
open Go.RowKit
set_option linter.unusedSimpArgs false
set_option linter.unusedVariables false

theorem wf_i64 {n : Int} (h1 : -9223372036854775808 ≤ n) (h2 : n ≤ 9223372036854775807) : (Lit.int .i64 n).wf = true := by
  simp [Lit.wf, IntKind.min, IntKind.max, IntKind.signed, IntKind.bits]; omega
/-- an operand, looked up -/
def opv (l : List (Nat × Value)) : Operand → Option Value
  | .tmp k => (l.find? fun y => y.1 == k).map (·.2)
  | .const v => some v
  | .global g => some (.pointer (some ⟨g, 0, none⟩))
  | .func f => some (.func (.func f) #[] #[])
theorem Kn.op {N : Nat} {l : List (Nat × Value)} {a : Act} (h : Kn N l a) {x : Operand} {v : Value} (hx : opv l x = some v) : a.eval x = v := by
  cases x with
  | tmp k =>
    cases hf : l.find? (fun y => y.1 == k) with
    | none => simp [opv, hf] at hx
    | some y =>
      have he : y.1 = k := by simpa using List.find?_some hf
      simp [opv, hf] at hx
      subst hx
      exact h.eval (k := k) (by have := List.mem_of_find?_eq_some hf; rw [← he]; exact this)
  | const v' => simp [opv] at hx; subst hx; rfl
  | global g => simp [opv] at hx; subst hx; rfl
  | func f => simp [opv] at hx; subst hx; rfl
theorem Kn.ops {N : Nat} {l : List (Nat × Value)} {a : Act} (h : Kn N l a) {xs : List Operand} {vs : List Value} (hx : xs.map (opv l) = vs.map some) : xs.toArray.map a.eval = vs.toArray := by
  rw [List.map_toArray]
  congr 1
  induction xs generalizing vs with
  | nil => cases vs with
    | nil => rfl
    | cons v vs => simp at hx
  | cons x xs ih => cases vs with
    | nil => simp at hx
    | cons v vs =>
      simp only [List.map_cons, List.cons.injEq] at hx ⊢
      exact ⟨h.op hx.1, ih hx.2⟩
theorem Kn.parts {N : Nat} {l : List (Nat × Value)} {a : Act} (h : Kn N l a) {xs : List (Nat × Operand)} {vs : List (Nat × Value)} (hx : xs.map (fun p => (p.1, opv l p.2)) = vs.map (fun p => (p.1, some p.2))) : xs.toArray.map (fun p => (p.1, a.eval p.2)) = vs.toArray := by
  rw [List.map_toArray]
  congr 1
  induction xs generalizing vs with
  | nil => cases vs with
    | nil => rfl
    | cons v vs => simp at hx
  | cons x xs ih => cases vs with
    | nil => simp at hx
    | cons v vs =>
      simp only [List.map_cons, List.cons.injEq, Prod.mk.injEq] at hx ⊢
      exact ⟨by rw [h.op hx.1.2, hx.1.1], ih hx.2⟩

/-- a call that returns -/
def CallsR (P : Program) (f : FuncId) (args : Array Value) (w : World) (R : Value → World → Prop) : Prop := Calls P f args w fun e w' => ∃ v, e = .returned v ∧ R v w'
theorem CallsR.mono {P : Program} {f : FuncId} {args : Array Value} {w : World} {R R' : Value → World → Prop} (h : CallsR P f args w R) (k : ∀ v w', R v w' → R' v w') : CallsR P f args w R' := Calls.mono h (fun e w' ⟨v, e1, r⟩ => ⟨v, e1, k v w' r⟩)
theorem CallsR.ret {P : Program} {f : FuncId} {args : Array Value} {w : World} {v : Value} {R : World → Prop} (h : Calls P f args w fun e w' => e = .returned v ∧ R w') : CallsR P f args w fun v' w' => v' = v ∧ R w' := Calls.mono h (fun e w' ⟨e1, r⟩ => ⟨v, e1, rfl, r⟩)

section
variable {P : Program} {ops : Array Oper} {Q : Exit → Act → World → Prop} {md : Region.Mode} {S : World → Prop} {o : Oper} {rest : List Oper} {fuel : Nat} {listed : Array Bool} {a : Act} {w w' : World} {N : Nat} {l : List (Nat × Value)} {K : Act → World → Prop}
/-- is it wanted? -/
theorem wg (h : Kn N l a) {g prev : Nat} {want b r : Bool} (hg : o.guard = some (g, want)) (hp : (ops[g]?).bind (·.dst) = some prev) (hm : l.find? (fun y => y.1 == prev) = some (prev, .bool b)) (hb : (b == want) = r) : Region.wanted o (yielded ops a.tmps) = r := by
  rw [wanted_of hg (h.yields hp (List.mem_of_find?_eq_some hm))]; exact hb
theorem wgu (h : Kn N l a) {g prev : Nat} {want : Bool} (hg : o.guard = some (g, want)) (hp : (ops[g]?).bind (·.dst) = some prev) (hm : l.find? (fun y => y.1 == prev) = some (prev, undef)) : Region.wanted o (yielded ops a.tmps) = false := by
  unfold Region.wanted
  rw [hg]
  have := h.known _ (List.mem_of_find?_eq_some hm)
  have e : yielded ops a.tmps g = none := by
    unfold yielded
    rw [hp, Option.bind_some]
    show (match a.tmps[prev]? with | some (.bool b) => some b | _ => none) = none
    rw [this]; rfl
  simp [e]
/-- a value, the world stays -/
theorem sv (h : Kn N l a) (hw : Region.wanted o (yielded ops a.tmps) = true) {d : Nat} (hd : o.dst = some d) (hdN : decide (d < N) = true) (hf : l.all (fun x => !(x.1 == d)) = true) {v : Value}
    (hr : ∀ w, (execOp a.eval o).run P w = .ok (.value v) w) (k : ∀ a', Kn N ((d, v) :: l) a' → wpList P ops Q rest a' w) : wpList P ops Q (o :: rest) a w :=
  wpk_val h hw hd (of_decide_eq_true hdN) (fr hf) v (hr w) k
/-- a value that the world gives -/
theorem sw (h : Kn N l a) (hw : Region.wanted o (yielded ops a.tmps) = true) {d : Nat} (hd : o.dst = some d) (hdN : decide (d < N) = true) (hf : l.all (fun x => !(x.1 == d)) = true) {v : Value}
    (hr : (execOp a.eval o).run P w = .ok (.value v) w) (k : ∀ a', Kn N ((d, v) :: l) a' → wpList P ops Q rest a' w) : wpList P ops Q (o :: rest) a w :=
  wpk_val h hw hd (of_decide_eq_true hdN) (fr hf) v hr k
/-- not wanted -/
theorem su (h : Kn N l a) (hw : Region.wanted o (yielded ops a.tmps) = false) {d : Nat} (hd : o.dst = some d) (hdN : decide (d < N) = true) (hf : l.all (fun x => !(x.1 == d)) = true)
    (k : ∀ a', Kn N ((d, undef) :: l) a' → wpList P ops Q rest a' w) : wpList P ops Q (o :: rest) a w := wpk_skip h hw hd (of_decide_eq_true hdN) (fr hf) k
/-- an operation of its own law -/
theorem so (hw : Region.wanted o (yielded ops a.tmps) = true) (k : ∀ K : Act → World → Prop, (∀ a w, wpList P ops Q rest a w → K a w) → o.wp P a w K Q) : wpList P ops Q (o :: rest) a w := by
  refine wpList_step fun K hK => ?_
  rw [if_pos hw]
  exact k K hK
/-- within a region that draws: taken first -/
theorem tv (hS : S w) (h : Kn N l a) (i : Nat) (hi : ops[i]? = some o) {d : Nat} (hd : o.dst = some d) (hdN : decide (d < N) = true) (hf : l.all (fun x => !(x.1 == d)) = true)
    (hs : Region.noSelect ops = true) (hfr : Region.free md ops listed i = true) (hr : (Region.ready md ops listed).contains i = true) (hQ : ∀ c a w v, Q (.panic c) (a.put o.dst v) w → Q (.panic c) a w) (hw : Region.wanted o (yielded ops a.tmps) = true) {v : Value} (hy : ∀ w1, S w1 → (execOp a.eval o).run P w1 = .ok (.value v) w1)
    (k : ∀ a', Kn N ((d, v) :: l) a' → wpAnyH P md ops Q S fuel (listed.setIfInBounds i true) a' w) : wpAnyH P md ops Q S (fuel + 1) listed a w :=
  wpk_take hS h i hi hd (of_decide_eq_true hdN) (fr hf) hs hfr hr hQ v (.inl ⟨hw, hy⟩) k
theorem tu (hS : S w) (h : Kn N l a) (i : Nat) (hi : ops[i]? = some o) {d : Nat} (hd : o.dst = some d) (hdN : decide (d < N) = true) (hf : l.all (fun x => !(x.1 == d)) = true)
    (hs : Region.noSelect ops = true) (hfr : Region.free md ops listed i = true) (hr : (Region.ready md ops listed).contains i = true) (hQ : ∀ c a w v, Q (.panic c) (a.put o.dst v) w → Q (.panic c) a w) (hw : Region.wanted o (yielded ops a.tmps) = false)
    (k : ∀ a', Kn N ((d, undef) :: l) a' → wpAnyH P md ops Q S fuel (listed.setIfInBounds i true) a' w) : wpAnyH P md ops Q S (fuel + 1) listed a w :=
  wpk_take hS h i hi hd (of_decide_eq_true hdN) (fr hf) hs hfr hr hQ undef (.inr ⟨hw, rfl⟩) k
/-- within a region that draws: the only one that is ready -/
theorem to_ (i : Nat) (hi : ops[i]? = some o) (hw : Region.wanted o (yielded ops a.tmps) = true) (hr : Region.ready md ops listed = [i])
    (k : ∀ K : Act → World → Prop, (∀ a' w', S w' → (S w' → wpAnyH P md ops Q S fuel (listed.setIfInBounds i true) a' w') → K a' w') → Oper.wp P o a w K Q) : wpAnyH P md ops Q S (fuel + 1) listed a w :=
  wpAnyH_ready hr (by simp) (AllReadyH.cons hi (fun K hK => by
    rw [if_pos hw]
    exact k K (Shut.out hK)) AllReadyH.nil)

/-- one of several that are ready -/
theorem toc {i : Nat} {rs : List Nat} (hi : ops[i]? = some o) (hw : Region.wanted o (yielded ops a.tmps) = true) (k : ∀ K : Act → World → Prop, (∀ a' w', S w' → (S w' → wpAnyH P md ops Q S fuel (listed.setIfInBounds i true) a' w') → K a' w') → Oper.wp P o a w K Q)
    (hs : AllReadyH P md ops Q S fuel listed a w rs) : AllReadyH P md ops Q S fuel listed a w (i :: rs) :=
  AllReadyH.cons hi (fun K hK => by rw [if_pos hw]; exact k K (Shut.out hK)) hs
/-- a value that is there under a condition -/
abbrev gv (C : Bool) (v : Value) : Value := if C = true then v else undef
theorem opg {l : List (Nat × Value)} {x : Operand} {C : Bool} {v : Value} (hx : opv l x = some (gv C v)) (hC : C = true) : opv l x = some v := by rw [hx, gv, if_pos hC]
theorem wT (h : Kn N l a) {g prev : Nat} {E : Bool} (hg : o.guard = some (g, true)) (hp : (ops[g]?).bind (·.dst) = some prev) (hm : l.find? (fun y => y.1 == prev) = some (prev, .bool E)) : Region.wanted o (yielded ops a.tmps) = E := wg h hg hp hm (by cases E <;> rfl)
theorem wF (h : Kn N l a) {g prev : Nat} {E : Bool} (hg : o.guard = some (g, false)) (hp : (ops[g]?).bind (·.dst) = some prev) (hm : l.find? (fun y => y.1 == prev) = some (prev, .bool E)) : Region.wanted o (yielded ops a.tmps) = !E := wg h hg hp hm (by cases E <;> rfl)
theorem wnF (h : Kn N l a) {g prev : Nat} {C E : Bool} (hg : o.guard = some (g, false)) (hp : (ops[g]?).bind (·.dst) = some prev) (hm : l.find? (fun y => y.1 == prev) = some (prev, gv C (.bool E))) : Region.wanted o (yielded ops a.tmps) = (C && !E) := by
  cases C
  · exact wgu h hg hp hm
  · rw [Bool.true_and]; exact wF h hg hp hm
theorem sg (h : Kn N l a) {C : Bool} (hw : Region.wanted o (yielded ops a.tmps) = C) {d : Nat} (hd : o.dst = some d) (hdN : decide (d < N) = true) (hf : l.all (fun x => !(x.1 == d)) = true) {v : Value}
    (hr : C = true → (execOp a.eval o).run P w = .ok (.value v) w) (k : ∀ a', Kn N ((d, gv C v) :: l) a' → wpList P ops Q rest a' w) : wpList P ops Q (o :: rest) a w := by
  cases C
  · exact su h hw hd hdN hf k
  · exact sw h hw hd hdN hf (hr rfl) k
/-- bools taken apart -/
theorem andT {a b : Bool} (h : (a && b) = true) : a = true ∧ b = true := by cases a <;> cases b <;> simp_all
theorem andF {a b : Bool} (h : (a && b) = false) : a = false ∨ b = false := by cases a <;> cases b <;> simp_all
theorem orT {a b : Bool} (h : (a || b) = true) : a = true ∨ b = true := by cases a <;> cases b <;> simp_all
theorem orF {a b : Bool} (h : (a || b) = false) : a = false ∧ b = false := by cases a <;> cases b <;> simp_all
theorem notT {a : Bool} (h : (!a) = true) : a = false := by cases a <;> simp_all
theorem bNotT {a : Bool} (h : a = true) : (!a) = false := by subst h; rfl
theorem bNotF {a : Bool} (h : a = false) : (!a) = true := by subst h; rfl
theorem bAnd {a b t : Bool} (h : a = true) (k : b = t) : (a && b) = t := by subst h; subst k; rfl
/-- values -/
theorem rmove (h : Kn N l a) {x : Operand} (ho : o.op = .move x) {v : Value} (hx : opv l x = some v) (w : World) : (execOp a.eval o).run P w = .ok (.value v) w := by
  unfold execOp; rw [ho]; simp only [h.op hx]; rfl
theorem rassign (h : Kn N l a) {x : Operand} (ho : o.op = .assign x) {v : Value} (hx : opv l x = some v) (w : World) : (execOp a.eval o).run P w = .ok (.value v) w := by
  unfold execOp; rw [ho]; simp only [h.op hx]; rfl
theorem rnil (h : Kn N l a) {x : Operand} (ho : o.op = .nilCheck x) {p : Addr} (hx : opv l x = some (.pointer (some p))) (w : World) : (execOp a.eval o).run P w = .ok (.value (.pointer (some p))) w := by
  unfold execOp; rw [ho]; simp only [h.op hx]; rfl
theorem rext (h : Kn N l a) {x : Operand} {i : Nat} (ho : o.op = .extract x i) {vs : Array Value} {v : Value} (hx : opv l x = some (.tuple vs)) (hi : vs[i]? = some v) (w : World) : (execOp a.eval o).run P w = .ok (.value v) w := by
  unfold execOp; rw [ho]; simp only [h.op hx, Instr.extract, hi]; rfl
theorem rfa (h : Kn N l a) {x : Operand} {T : TypeId} {f : Nat} (ho : o.op = .fieldAddr T x f) {v u : Value} (hx : opv l x = some v) (hf : ∀ w, (Instr.fieldAt T v f).run P w = .ok u w) (w : World) : (execOp a.eval o).run P w = .ok (.value u) w := by
  unfold execOp; rw [ho]; simp only [h.op hx]; exact run_v (hf w)
theorem rld (h : Kn N l a) {x : Operand} {T : TypeId} (ho : o.op = .load T x) {v u : Value} (hx : opv l x = some v) {w : World} (hf : (Instr.loadAt T v).run P w = .ok u w) : (execOp a.eval o).run P w = .ok (.value u) w := by
  unfold execOp; rw [ho]; simp only [h.op hx]; exact run_v hf
theorem rbin (h : Kn N l a) {x y : Operand} {b : BinOp} {T ty : TypeId} (ho : o.op = .binOp b T x y ty) {v u z : Value} (hx : opv l x = some v) (hy : opv l y = some u) (hf : ∀ w, (do eqGuard b T x y v u; binOp b T v u : Sem Value).run P w = .ok z w) (w : World) : (execOp a.eval o).run P w = .ok (.value z) w := by
  unfold execOp; rw [ho]; simp only [h.op hx, h.op hy]; exact run_v (hf w)
theorem rnot (h : Kn N l a) {x : Operand} {T : TypeId} (ho : o.op = .unOp .not T x) {b : Bool} (hx : opv l x = some (.bool b)) (w : World) : (execOp a.eval o).run P w = .ok (.value (.bool !b)) w := by
  unfold execOp; rw [ho]; simp only [h.op hx]; rfl
theorem rpick (h : Kn N l a) {c x y : Operand} (ho : o.op = .pick c x y) {b : Bool} {v : Value} (hc : opv l c = some (.bool b)) (hv : (if b = true then opv l x else opv l y) = some v) (w : World) : (execOp a.eval o).run P w = .ok (.value v) w := by
  refine run_pick ho (h.op hc) ?_
  cases b
  · exact h.op hv
  · exact h.op hv
theorem rpickE (h : Kn N l a) {c x y : Operand} (ho : o.op = .pick c x y) {E b : Bool} {v : Value} (hc : opv l c = some (.bool E)) (e : E = b) (hv : (if b = true then opv l x else opv l y) = some v) (w : World) : (execOp a.eval o).run P w = .ok (.value v) w := by
  subst e; exact rpick h ho hc hv w
theorem rpickO (h : Kn N l a) {c x y : Operand} (ho : o.op = .pick c x y) {E F : Bool} {u : Value} (hc : opv l c = some (.bool E)) (hx : opv l x = some (.bool true)) (hy : opv l y = some u) (hF : E = false → u = .bool F) (w : World) : (execOp a.eval o).run P w = .ok (.value (.bool (E || F))) w := by
  refine rpick h ho hc ?_ w
  cases E
  · simp [hy, hF]
  · simp [hx]
theorem rpickA (h : Kn N l a) {c x y : Operand} (ho : o.op = .pick c x y) {E F : Bool} {u : Value} (hc : opv l c = some (.bool E)) (hx : opv l x = some u) (hy : opv l y = some (.bool false)) (hF : E = true → u = .bool F) (w : World) : (execOp a.eval o).run P w = .ok (.value (.bool (E && F))) w := by
  refine rpick h ho hc ?_ w
  cases E
  · simp [hy]
  · simp [hx, hF]
theorem rbuild (h : Kn N l a) {T : TypeId} {xs : List (Nat × Operand)} (ho : o.op = .build T xs.toArray) {vs : List (Nat × Value)} {v : Value} (hx : xs.map (fun p => (p.1, opv l p.2)) = vs.map (fun p => (p.1, some p.2))) (hv : ∀ w, (Instr.build T vs.toArray).run P w = .ok v w) (w : World) : (execOp a.eval o).run P w = .ok (.value v) w := by
  unfold execOp; rw [ho]; simp only [h.parts hx]; exact run_v (hv w)
theorem rindexA (h : Kn N l a) {x i : Operand} {T : TypeId} (ho : o.op = .indexAddr T x i) {v u z : Value} (hx : opv l x = some v) (hi : opv l i = some u) (hf : ∀ w, (Instr.indexAt T v u).run P w = .ok z w) (w : World) : (execOp a.eval o).run P w = .ok (.value z) w := by
  unfold execOp; rw [ho]; simp only [h.op hx, h.op hi]; exact run_v (hf w)
theorem rlook (h : Kn N l a) {x i : Operand} {T : TypeId} {ok : Bool} (ho : o.op = .lookup T x i ok) {v u z : Value} (hx : opv l x = some v) (hi : opv l i = some u) {w : World} (hf : (Instr.lookup T v u ok).run P w = .ok z w) : (execOp a.eval o).run P w = .ok (.value z) w := by
  unfold execOp; rw [ho]; simp only [h.op hx, h.op hi]; exact run_v hf
theorem rbuiltin (h : Kn N l a) {b : Builtin} {xs : List Operand} {ts : Array TypeId} (ho : o.op = .call { callee := .builtin b, args := xs.toArray, argTypes := ts }) {vs : List Value} (hx : xs.map (opv l) = vs.map some) {v : Value} {w w' : World} (hf : ∀ cs, (builtin b ts o.type cs vs.toArray).run P w = .ok (.value v) w') : (execOp a.eval o).run P w = .ok (.value v) w' := by
  unfold execOp; rw [ho]
  simp only [resolve, h.ops hx, invoke]
  exact hf _
theorem rlenS (h : Kn N l a) {x : Operand} {T E : TypeId} (ho : o.op = .call { callee := .builtin .len, args := #[x], argTypes := #[T] }) {p : Option Addr} {n c : Nat} (hx : opv l x = some (.slice p n c)) (hu : P.underlying T = some (.slice E)) (w : World) : (execOp a.eval o).run P w = .ok (.value (.int .i64 (n : Int))) w := by
  refine rbuiltin h (xs := [x]) (vs := [.slice p n c]) ho (by simp [hx]) fun cs => ?_
  simp [builtin, Builtin.len_, underlying, hu, Sem.run_bind]
  rfl
/-- numbers -/
theorem bI (b : BinOp) (T : TypeId) (x y : Operand) (k : IntKind) (i j : Int) {z : Value} (hz : (match b with | .eql => some (Value.bool (i == j)) | .neq => some (.bool (i != j)) | .lss => some (.bool (decide (i < j))) | .leq => some (.bool (decide (i ≤ j))) | .gtr => some (.bool (decide (i > j))) | .geq => some (.bool (decide (i ≥ j))) | .add => some (.int k (k.wrap (i + j))) | .sub => some (.int k (k.wrap (i - j))) | .mul => some (.int k (k.wrap (i * j))) | _ => none) = some z) (w : World) :
    (do eqGuard b T x y (.int k i) (.int k j); binOp b T (.int k i) (.int k j) : Sem Value).run P w = .ok z w := by
  cases b <;> simp at hz <;> subst hz <;> simp [eqGuard, binOp, Op.intCmp, Op.intArith, Sem.run_bind]
theorem bAdd (T : TypeId) (x y : Operand) {i j r : Int} (e : i + j = r) (h1 : -9223372036854775808 ≤ r) (h2 : r ≤ 9223372036854775807) (w : World) : (do eqGuard .add T x y (.int .i64 i) (.int .i64 j); binOp .add T (.int .i64 i) (.int .i64 j) : Sem Value).run P w = .ok (.int .i64 r) w :=
  bI .add T x y .i64 i j (by subst e; show some (Value.int .i64 (IntKind.i64.wrap (i + j))) = _; rw [IntWalk.i64_in _ ⟨h1, h2⟩]) w
theorem bSub (T : TypeId) (x y : Operand) {i j r : Int} (e : i - j = r) (h1 : -9223372036854775808 ≤ r) (h2 : r ≤ 9223372036854775807) (w : World) : (do eqGuard .sub T x y (.int .i64 i) (.int .i64 j); binOp .sub T (.int .i64 i) (.int .i64 j) : Sem Value).run P w = .ok (.int .i64 r) w :=
  bI .sub T x y .i64 i j (by subst e; show some (Value.int .i64 (IntKind.i64.wrap (i - j))) = _; rw [IntWalk.i64_in _ ⟨h1, h2⟩]) w
theorem bMul (T : TypeId) (x y : Operand) {i j r : Int} (e : i * j = r) (h1 : -9223372036854775808 ≤ r) (h2 : r ≤ 9223372036854775807) (w : World) : (do eqGuard .mul T x y (.int .i64 i) (.int .i64 j); binOp .mul T (.int .i64 i) (.int .i64 j) : Sem Value).run P w = .ok (.int .i64 r) w :=
  bI .mul T x y .i64 i j (by subst e; show some (Value.int .i64 (IntKind.i64.wrap (i * j))) = _; rw [IntWalk.i64_in _ ⟨h1, h2⟩]) w
theorem cLt (T : TypeId) (x y : Operand) (k : IntKind) {i j : Int} {t : Bool} (ht : decide (i < j) = t) (w : World) : (do eqGuard .lss T x y (.int k i) (.int k j); binOp .lss T (.int k i) (.int k j) : Sem Value).run P w = .ok (.bool t) w :=
  bI .lss T x y k i j (by subst ht; rfl) w
theorem cGt (T : TypeId) (x y : Operand) (k : IntKind) {i j : Int} {t : Bool} (ht : decide (i > j) = t) (w : World) : (do eqGuard .gtr T x y (.int k i) (.int k j); binOp .gtr T (.int k i) (.int k j) : Sem Value).run P w = .ok (.bool t) w :=
  bI .gtr T x y k i j (by subst ht; rfl) w
theorem cLe (T : TypeId) (x y : Operand) (k : IntKind) {i j : Int} {t : Bool} (ht : decide (i ≤ j) = t) (w : World) : (do eqGuard .leq T x y (.int k i) (.int k j); binOp .leq T (.int k i) (.int k j) : Sem Value).run P w = .ok (.bool t) w :=
  bI .leq T x y k i j (by subst ht; rfl) w
theorem cGe (T : TypeId) (x y : Operand) (k : IntKind) {i j : Int} {t : Bool} (ht : decide (i ≥ j) = t) (w : World) : (do eqGuard .geq T x y (.int k i) (.int k j); binOp .geq T (.int k i) (.int k j) : Sem Value).run P w = .ok (.bool t) w :=
  bI .geq T x y k i j (by subst ht; rfl) w
theorem cEq (T : TypeId) (x y : Operand) (k : IntKind) {i j : Int} {t : Bool} (ht : decide (i = j) = t) (w : World) : (do eqGuard .eql T x y (.int k i) (.int k j); binOp .eql T (.int k i) (.int k j) : Sem Value).run P w = .ok (.bool t) w :=
  bI .eql T x y k i j (by subst ht; show some (Value.bool (i == j)) = _; rw [show (i == j) = decide (i = j) from rfl]) w
theorem cNe (T : TypeId) (x y : Operand) (k : IntKind) {i j : Int} {t : Bool} (ht : decide (i ≠ j) = t) (w : World) : (do eqGuard .neq T x y (.int k i) (.int k j); binOp .neq T (.int k i) (.int k j) : Sem Value).run P w = .ok (.bool t) w :=
  bI .neq T x y k i j (by subst ht; show some (Value.bool (i != j)) = _; rw [show (i != j) = decide (i ≠ j) by simp [bne]; rfl]) w
/-- a pointer and nil -/
theorem eqIn_nil (d : Nat) {T E : TypeId} (hu : P.underlying T = some (.pointer E)) (p : Option Addr) (w : World) : (Op.equalIn (d + 1) T (.pointer p) (.pointer none)).run P w = .ok p.isNone w := by
  cases p <;> simp [Op.equalIn, underlying, hu, Sem.run_bind]
theorem eqIn_bool (d : Nat) {T : TypeId} (hu : P.underlying T = some .bool) (p q : Bool) (w : World) : (Op.equalIn (d + 1) T (.bool p) (.bool q)).run P w = .ok (p == q) w := by
  simp [Op.equalIn, underlying, hu, Sem.run_bind]
theorem bNil (T : TypeId) {E : TypeId} (hu : P.underlying T = some (.pointer E)) (x y : Operand) (p : Option Addr) (w : World) :
    (do eqGuard .eql T x y (.pointer p) (.pointer none); binOp .eql T (.pointer p) (.pointer none) : Sem Value).run P w = .ok (.bool p.isNone) w := by
  have e : (Op.equal T (.pointer p) (.pointer none)).run P w = .ok p.isNone w := eqIn_nil 9999 hu p w
  cases p <;> simp [eqGuard, binOp, Sem.run_bind, e] <;> rfl
theorem bBoolN (b : BinOp) {T : TypeId} (hu : P.underlying T = some .bool) (x y : Operand) (p q : Bool) (w : World) :
    (do eqGuard .neq T x y (.bool p) (.bool q); binOp .neq T (.bool p) (.bool q) : Sem Value).run P w = .ok (.bool !(p == q)) w := by
  have e : (Op.equal T (.bool p) (.bool q)).run P w = .ok (p == q) w := eqIn_bool 9999 hu p q w
  simp [eqGuard, binOp, Sem.run_bind, e]
theorem bSameN (T : TypeId) (hu : P.underlying T = some .bool) (x y : Operand) (p : Bool) (w : World) : (do eqGuard .neq T x y (.bool p) (.bool p); binOp .neq T (.bool p) (.bool p) : Sem Value).run P w = .ok (.bool false) w := by
  have := bBoolN (P := P) .eql hu x y p p w
  rw [beq_self_eq_true] at this; exact this
/-- loads -/
theorem isAgg_no {T : TypeId} {k : TypeDesc} (hu : P.underlying T = some k) (hk : k.isRow = false) (w : World) : (isAgg T).run P w = .ok false w := by
  unfold isAgg
  simp [underlying, hu, Sem.run_bind]
  cases k <;> simp_all
theorem ldB {T : TypeId} {k : TypeDesc} (hu : P.underlying T = some k) (hk : k.isRow = false) {g e off : Nat} {L : List Value} {v : Value} (h : Blk w g e L) (hv : L[off]? = some v) : (Instr.loadAt T (.pointer (some ⟨g, off, none⟩))).run P w = .ok v w := by
  obtain ⟨h1, h2⟩ := List.getElem?_eq_some_iff.1 hv
  have hc := h.cell h1
  rw [h2] at hc
  simp [Instr.loadAt, Instr.sureAddr, loadVar, Sem.run_bind, isAgg_no hu hk, hc]
theorem ldA {T : TypeId} {k : TypeDesc} (hu : P.underlying T = some k) (hk : k.isRow = true) {g e off n : Nat} {L cs : List Value} (hn : (P.info? T).map (·.size) = some n) (h : Blk w g e L) (hv : (L.drop off).take n = cs) (hl : cs.length = n) : (Instr.loadAt T (.pointer (some ⟨g, off, none⟩))).run P w = .ok (.agg cs.toArray) w := by
  refine run_loadAt_mid w g off T cs k (fun j v hj => ?_) hu hk (by rw [hl]; exact hn)
  rw [← hv, List.getElem?_take] at hj
  split at hj
  · rw [List.getElem?_drop] at hj
    obtain ⟨h1, h2⟩ := List.getElem?_eq_some_iff.1 hj
    rw [h.cell h1, h2]
  · cases hj
/-- an element's place -/
theorem ixS {T E : TypeId} (hu : P.underlying T = some (.slice E)) {sz : Nat} (hsz : (P.info? E).map (·.size) = some sz) {b n c j : Nat} {k : IntKind} {i : Int} (hi : i = (j : Int)) (hj : j < n) {o : Nat} (ho : j * sz = o) (w : World) : (Instr.indexAt T (.slice (some ⟨b, 0, none⟩) n c) (.int k i)).run P w = .ok (.pointer (some ⟨b, o, none⟩)) w := by
  subst hi; subst ho
  have d0 : (j : Int) < (n : Int) := by omega
  have d1 : 0 ≤ (j : Int) := by omega
  cases hq : P.info? E with
  | none => simp [hq] at hsz
  | some q =>
    have hs : q.size = sz := by simpa [hq] using hsz
    simp [Instr.indexAt, asIntOf, underlying, hu, Sem.run_bind, sizeOf, typeInfo, hq, hs, hj]
    unfold Addr.add
    split
    · simp_all
    · simp
end
end Go.Proofs.Ytpalgffmdinfpaa
end
section
namespace Go.Proofs.Ytpalgffmdinfpaa
open Go.RowKit
set_option linter.unusedSimpArgs false
set_option linter.unusedVariables false

theorem xap_where {P : Program} {w : World} {B : Nat} {t ty e : TypeId} {i : TypeInfo} {z : Value} {size bytes : Nat} (ht : P.underlying t = some (.slice e)) (hi : P.info? e = some i) (hz : i.zero = some z) (hsize : i.size = size) (hby : i.bytes = bytes) (hsz : 0 < size)
    {a1 : Option Addr} {n c0 : Nat} {xs : List Value} (hown : Own w B e size a1 n c0 xs) {a : Addr} {m c : Nat} {news : List Value} (hl : news.length = m * size) (hnews : ∀ j u, news[j]? = some u → w.cell? (a.add j) = some u) (h1 : ∀ u ∈ news, u.oneCell' = true)
    (h63 : n + m ≤ maxLen) (hbytes : (n + m) * bytes ≤ 140737488355328) (hm : 0 < m) {b : Option Addr} {n' c' : Nat} {w' : World} (hr : (Builtin.append_ #[t, t] ty #[.slice a1 n c0, .slice (some a) m c]).run P w = .ok (.slice b n' c') w') :
    ∀ k, (Value.slice b n' c').ownBlock = some k → (Value.slice a1 n c0).ownBlock = some k ∨ w.heap.size ≤ k := by
  subst hsize
  subst hby
  have hsmall : n + m ≤ 9223372036854775807 := by simp only [maxLen] at h63; omega
  rcases hown.2 with ⟨hv, hn⟩ | ⟨g, cap, cur, hv, hbg, hg, hnc, hcm, hcs, htake⟩
  · cases hv
    have q := run_append_nil (P := P) w t ty e i z ht hi hz a m c news hl hnews (by omega) (by omega) (by have hb := hbytes; simp only [Nat.zero_add] at hb; omega)
    rw [q] at hr
    cases hr
    intro k hk; cases hk; exact .inr (Nat.le_refl _)
  · cases hv
    by_cases hroom : n + m ≤ c0
    · have hfit : n * i.size + news.length ≤ cur.size := by rw [hl, hcs, ← Nat.add_mul]; exact Nat.mul_le_mul_right _ hroom
      have q := run_append_room (P := P) w t ty e i ht hi g n c0 cur hg a m c news hl hnews h1 hroom hfit
      rw [q] at hr
      cases hr
      intro k hk; exact .inl hk
    · have holds : ∀ j u, xs[j]? = some u → w.cell? ((⟨g, 0, none⟩ : Addr).add j) = some u := World.ownsRow.cells hown (g := g) rfl
      have q := run_append_grow (P := P) w t ty e i z ht hi hz ⟨g, 0, none⟩ n c0 xs hown.1 holds a m c news hl hnews (by omega) (by omega) (growslice_fits (by omega) hbytes)
      rw [q] at hr
      cases hr
      intro k hk; cases hk; exact .inr (Nat.le_refl _)
theorem Turns.of_row {w w' : World} {r : Option Nat} (h : w.grownBy w' r) : Turns (fun k => r = some k) w w' := ⟨h.os, h.tape, h.output, h.size, fun k hk hn => h.block k hk (fun e => hn e.symm)⟩
section
variable {P : Program} {Q : Exit → Act → World → Prop} {o : Oper} {a : Act} {w w' : World} {N : Nat} {l : List (Nat × Value)} {K : Act → World → Prop} {cs : List Ch}
/-- a value, in another world -/
theorem xval (h : Kn N l a) {d : Nat} (hd : o.dst = some d) (hdN : decide (d < N) = true) (hf : l.all (fun x => !(x.1 == d)) = true) {v : Value} (hr : (execOp a.eval o).run P w = .ok (.value v) w')
    (k : ∀ a', Kn N ((d, v) :: l) a' → K a' w') : Oper.wp P o a w K Q := op_val h hd (of_decide_eq_true hdN) (fr hf) v hr k
/-- a new variable -/
theorem xalloc (h : Kn N l a) {d : Nat} (hd : o.dst = some d) (hdN : decide (d < N) = true) (hf : l.all (fun x => !(x.1 == d)) = true) {T : TypeId} (ho : o.op = .alloc T) {z : List Value}
    (hz : ∀ w, (Instr.alloc T true (.tuple #[])).run P w = .ok (.pointer (some ⟨w.heap.size, 0, none⟩)) (w.alloc (.cells z.toArray T))) (hS : Sep w cs)
    (k : ∀ a' g w', Kn N ((d, .pointer (some ⟨g, 0, none⟩)) :: l) a' → Sep w' (blkC g T z :: cs) → (∃ o, w' = w.alloc o) → g = w.heap.size → K a' w') : Oper.wp P o a w K Q := by
  refine xval h hd hdN hf (by unfold execOp; rw [ho]; exact run_v (hz w)) fun a' h' => k a' _ _ h' (hS.push (albO _ _) (blk_newO rfl _ _) (fun k e => by cases e; exact Nat.le_refl _)) ⟨_, rfl⟩ rfl
/-- a boxed value -/
theorem xbox (h : Kn N l a) {d : Nat} (hd : o.dst = some d) (hdN : decide (d < N) = true) (hf : l.all (fun x => !(x.1 == d)) = true) {T : TypeId} {x : Operand} (ho : o.op = .box T x) {v : Value} (hx : opv l x = some v) {z : List Value}
    (hz : v.cells = z.toArray) (hS : Sep w cs)
    (k : ∀ a' g w', Kn N ((d, .pointer (some ⟨g, 0, none⟩)) :: l) a' → Sep w' (blkC g T z :: cs) → (∃ o, w' = w.alloc o) → g = w.heap.size → K a' w') : Oper.wp P o a w K Q := by
  refine xval (v := .pointer (some ⟨w.heap.size, 0, none⟩)) (w' := w.alloc (.cells z.toArray T)) h hd hdN hf (by unfold execOp; rw [ho]; simp only [h.op hx]; rw [← hz]; exact run_v rfl) fun a' h' => k a' _ _ h' (hS.push (albO _ _) (blk_newO rfl _ _) (fun k e => by cases e; exact Nat.le_refl _)) ⟨_, rfl⟩ rfl
/-- a slice that is written out -/
theorem xbuildS (h : Kn N l a) {d : Nat} (hd : o.dst = some d) (hdN : decide (d < N) = true) (hf : l.all (fun x => !(x.1 == d)) = true) {T E : TypeId} {n : Nat} {xs : List (Nat × Operand)} (ho : o.op = .buildSlice T n xs.toArray) {vs : List (Nat × Value)} (hx : xs.map (fun p => (p.1, opv l p.2)) = vs.map (fun p => (p.1, some p.2))) {z : List Value}
    (hz : ∀ w, (Instr.buildSlice T n vs.toArray).run P w = .ok (.slice (some ⟨w.heap.size, 0, none⟩) n n) (w.alloc (.cells z.toArray E))) (hS : Sep w cs)
    (k : ∀ a' g w', Kn N ((d, .slice (some ⟨g, 0, none⟩) n n) :: l) a' → Sep w' (blkC g E z :: cs) → (∃ o, w' = w.alloc o) → g = w.heap.size → K a' w') : Oper.wp P o a w K Q := by
  refine xval h hd hdN hf (by unfold execOp; rw [ho]; simp only [h.parts hx]; exact run_v (hz w)) fun a' h' => k a' _ _ h' (hS.push (albO _ _) (blk_newO rfl _ _) (fun k e => by cases e; exact Nat.le_refl _)) ⟨_, rfl⟩ rfl
theorem run_storeVal {T : TypeId} {p u : Value} {vs : List Value} (hu : u.cells = vs.toArray) (w : World) : (Instr.storeAt T p u).run P w = (Instr.storeAt T p (.agg vs.toArray)).run P w := by
  have e : Value.cells u = Value.cells (.agg vs.toArray) := hu
  simp only [Instr.storeAt, storeVar]
  rw [e]
/-- a store into a block -/
theorem xstore (h : Kn N l a) (hd : o.dst = none) {T : TypeId} {x y : Operand} (ho : o.op = .store T x y) (hS : Sep w cs) (i : Nat) {g off : Nat} {e : TypeId} {L : List Value} (hi : cs[i]? = some (blkC g e L)) (hx : opv l x = some (.pointer (some ⟨g, off, none⟩))) {u : Value} (hy : opv l y = some u) (vs : List Value) (hu : u.cells = vs.toArray)
    (hn : (P.info? T).map (·.size) = some vs.length) (h1 : vs.all (·.oneCell') = true) (hL : off + vs.length ≤ L.length) {L' : List Value} (hL' : splice L off vs = L') {cs' : List Ch} (hcs : cs.set i (blkC g e L') = cs')
    (k : ∀ a' w', Kn N l a' → Sep w' cs' → Turns (fun k => k = g) w w' → K a' w') : Oper.wp P o a w K Q := by
  have hb : Blk w g e L := hS.get i hi
  obtain ⟨h2, h3⟩ := Blk.setCells vs off w L hb hL
  have hr := run_storeAt_mid (P := P) w g off T vs.toArray (by simpa using hb.there off vs.length hL) (by simpa using hn) (by rw [List.all_toArray]; exact h1)
  refine op_skip (w' := w.setCells g off vs) h hd ?_ fun a' h' => k a' _ h' ?_ (Turns.of_grown h3 rfl)
  · unfold execOp; rw [ho]; simp only [h.op hx, h.op hy]
    rw [Sem.run_bind, run_storeVal hu, hr]
    rfl
  · rw [hL'] at h2
    rw [← hcs]
    exact hS.upd i hi (Turns.of_grown h3 rfl) (fun k _ e => e.symm ▸ rfl) h2 (fun k e => .inl e)
/-- a call -/
theorem xcall (h : Kn N l a) {d : Nat} (hd : o.dst = some d) (hdN : decide (d < N) = true) (hf : l.all (fun x => !(x.1 == d)) = true) {f : Operand} {xs : List Operand} {ts : Array TypeId} (ho : o.op = .call { callee := .value f, args := xs.toArray, argTypes := ts })
    {fn : FuncId} (hcf : ∀ args w, (callFunc fn args).run P w = .ok (.enter fn args) w) {first cap : Array Value} (hfv : opv l f = some (.func (.func fn) first cap)) {vs : List Value} (hx : xs.map (opv l) = vs.map some) {args : Array Value} (ha : first ++ vs.toArray ++ cap = args)
    {R : Value → World → Prop} (HC : CallsR P fn args w R) (k : ∀ a' v w', R v w' → Kn N ((d, v) :: l) a' → K a' w') : Oper.wp P o a w K Q := by
  have hrun : (execOp a.eval o).run P w = .ok (.enter fn args) w := by
    unfold execOp; rw [ho]
    simp only [resolve, h.ops hx, h.op hfv, Deferred.ofValue, invoke, Sem.run_bind, Sem.run_pure, Result.andThen_ok, ha, hcf]
  unfold Oper.wp
  rw [hrun, Oper.upon_enter]
  refine Calls.mono HC ?_
  rintro e w' ⟨v, rfl, hv⟩
  simp only
  rw [hd]
  exact k _ v w' hv (h.put (of_decide_eq_true hdN) (fr hf) v)
theorem Sep.ownNil {w : World} {cs : List Ch} (h : Sep w cs) (B : Nat) (e : TypeId) (sz : Nat) : Sep w (ownC B e sz none 0 0 [] :: cs) :=
  h.push (Below.refl _ _) (Own.nil _ _ _ _) (fun k e => by cases e)
/-- append -/
theorem xappend (h : Kn N l a) {d : Nat} (hd : o.dst = some d) (hdN : decide (d < N) = true) (hf : l.all (fun x => !(x.1 == d)) = true) {s x : Operand} {t e : TypeId} {sz bytes : Nat}
    (ho : o.op = .call { callee := .builtin .append, args := #[s, x], argTypes := #[t, t] }) (E : ElemT P t e sz bytes) (hS : Sep w cs) (i : Nat) {B : Nat}
    {a1 : Option Addr} {ad : Addr} {n c m c2 : Nat} {xs ds : List Value} (hi : cs[i]? = some (ownC B e sz a1 n c xs)) (hs : opv l s = some (.slice a1 n c)) (hx : opv l x = some (.slice (some ad) m c2))
    (hrow : Row w sz (some ad) m c2 ds) (hm : 0 < m) (h1 : ds.all (·.oneCell') = true) (hbytes : (n + m) * bytes ≤ 140737488355328) (h63 : n + m ≤ 9223372036854775807) {n' : Nat} (hn' : n + m = n')
    (k : ∀ a' b' c' w', Kn N ((d, .slice b' n' c') :: l) a' → Sep w' (cs.set i (ownC 0 e sz b' n' c' (xs ++ ds))) → w.heap.size ≤ w'.heap.size → K a' w') : Oper.wp P o a w K Q := by
  subst hn'
  have hown : Own w 0 e sz a1 n c xs := Own.low (hS.get i hi : Own w B e sz a1 n c xs) (Nat.zero_le _)
  obtain ⟨under, ⟨ti, z, hi', hz, hsize, hby, hzs⟩, hsz⟩ := E
  obtain ⟨g1, g2, g3, g4, g5⟩ := hrow
  have hnews : ∀ j u, ds[j]? = some u → w.cell? (ad.add j) = some u := by
    intro j u hu
    obtain ⟨b, off, e1, _, hc⟩ := g5 hm
    cases e1
    have := hc j u hu
    unfold Addr.add
    split
    · subst j; simpa using this
    · exact this
  have h1' : ∀ u ∈ ds, u.oneCell' = true := List.all_eq_true.1 h1
  obtain ⟨v', w', hr, h2, h3, h4⟩ := run_append_own (P := P) w 0 t o.type e ti z sz bytes under hi' hz hsize hby hzs hsz (.slice a1 n c) n xs hown ad m c2 ds g1 hnews h1' (by unfold maxLen; omega) hbytes (Nat.zero_le _)
  obtain ⟨b', c', rfl, h5⟩ := ownsRow_own h2
  have hw := xap_where (P := P) under hi' hz hsize hby hsz hown g1 hnews h1' (by unfold maxLen; omega) hbytes hm hr
  refine xval (v := .slice b' (n + m) c') (w' := w') h hd hdN hf ?_ fun a' h' => k a' b' c' w' h' (hS.upd i hi (Turns.of_row h3) (fun k _ e => e) (c' := ownC 0 e sz b' (n + m) c' (xs ++ ds)) h5 hw) h3.size
  unfold execOp
  simp only [ho, resolve, invoke, builtin, Sem.run_bind, Sem.run_pure, Result.andThen_ok, List.map_toArray, List.map_cons, List.map_nil, h.op hs, h.op hx, hr]
end
/-- a loop whose ghosts stand in no slot -/
theorem wp_loop_g {P : Program} {Q : Exit → Act → World → Prop} {a : Act} {w : World} {c : Code} {α : Type} (I : α → Act → World → Prop) (μ : α → Nat) (x₀ : α) (h₀ : I x₀ a w)
    (round : ∀ x a w, I x a w → ∀ K : Act → World → Prop, (∀ y a' w', I y a' w' → μ y < μ x → K a' w') → c.wp P (Exit.then K Q) a w) : (Code.loop c).wp P Q a w := by
  intro b k cs
  have key : ∀ n x a w, μ x = n → I x a w → ∃ e a' w', Q e a' w' ∧ Arrives P (lone (b.at a (.code c :: .inLoop c :: k)) cs w) b k cs e a' w' := by
    intro n
    induction n using Nat.strongRecOn with
    | _ n ih =>
      intro x a w hn hI
      obtain ⟨e, a₁, w₁, hq, harr⟩ := round x a w hI (fun a' w' => ∃ y, I y a' w' ∧ μ y < μ x) (fun y a' w' h1 h2 => ⟨y, h1, h2⟩) b (.inLoop c :: k) cs
      cases e with
      | normal =>
        obtain ⟨y, hI₁, hlt⟩ := hq
        obtain ⟨e₂, a₂, w₂, hq₂, harr₂⟩ := ih (μ y) (hn ▸ hlt) y a₁ w₁ rfl hI₁
        exact ⟨e₂, a₂, w₂, hq₂, .of_steps (Steps.trans harr (.one step_inLoop)) harr₂⟩
      | exit id => exact ⟨_, a₁, w₁, hq, .pass (x := .inLoop c) rfl (fun _ _ => .inl (by simp)) harr⟩
      | goto l => exact ⟨_, a₁, w₁, hq, .pass (x := .inLoop c) rfl (fun _ _ => .inl (by simp)) harr⟩
      | ret => exact ⟨_, a₁, w₁, hq, .pass (x := .inLoop c) rfl (fun _ _ => .inl (by simp)) harr⟩
      | panic ch => exact ⟨_, a₁, w₁, hq, .pass (x := .inLoop c) rfl (fun _ _ => .inl (by simp)) harr⟩
      | outgrown => exact ⟨_, a₁, w₁, hq, .pass (x := .inLoop c) rfl (fun _ _ => .inl (by simp)) harr⟩
  obtain ⟨e, a', w', hq, harr⟩ := key _ x₀ a w rfl h₀
  exact ⟨e, a', w', hq, .of_steps (.one step_loop) harr⟩
section
variable {P : Program} {Q : Exit → Act → World → Prop} {a : Act} {w : World} {c : Code} {α β γ δ ε ζ : Type}
theorem wp_loop1 (I : α → Act → World → Prop) (μ : α → Nat) (x : α) (h₀ : I x a w)
    (round : ∀ x a w, I x a w → ∀ K : Act → World → Prop, (∀ y a' w', I y a' w' → μ y < μ x → K a' w') → c.wp P (Exit.then K Q) a w) : (Code.loop c).wp P Q a w := wp_loop_g I μ x h₀ round
theorem wp_loop2 (I : α → β → Act → World → Prop) (μ : α → β → Nat) (x : α) (y : β) (h₀ : I x y a w)
    (round : ∀ x y a w, I x y a w → ∀ K : Act → World → Prop, (∀ x' y' a' w', I x' y' a' w' → μ x' y' < μ x y → K a' w') → c.wp P (Exit.then K Q) a w) : (Code.loop c).wp P Q a w :=
  wp_loop_g (α := α × β) (fun p => I p.1 p.2) (fun p => μ p.1 p.2) (x, y) h₀ (fun p a w hI K hK => round p.1 p.2 a w hI K (fun x' y' => hK (x', y')))
theorem wp_loop3 (I : α → β → γ → Act → World → Prop) (μ : α → β → γ → Nat) (x : α) (y : β) (z : γ) (h₀ : I x y z a w)
    (round : ∀ x y z a w, I x y z a w → ∀ K : Act → World → Prop, (∀ x' y' z' a' w', I x' y' z' a' w' → μ x' y' z' < μ x y z → K a' w') → c.wp P (Exit.then K Q) a w) : (Code.loop c).wp P Q a w :=
  wp_loop_g (α := α × β × γ) (fun p => I p.1 p.2.1 p.2.2) (fun p => μ p.1 p.2.1 p.2.2) (x, y, z) h₀ (fun p a w hI K hK => round p.1 p.2.1 p.2.2 a w hI K (fun x' y' z' => hK (x', y', z')))
theorem wp_loop5 (I : α → β → γ → δ → ε → Act → World → Prop) (μ : α → β → γ → δ → ε → Nat) (x : α) (y : β) (z : γ) (u : δ) (v : ε) (h₀ : I x y z u v a w)
    (round : ∀ x y z u v a w, I x y z u v a w → ∀ K : Act → World → Prop, (∀ x' y' z' u' v' a' w', I x' y' z' u' v' a' w' → μ x' y' z' u' v' < μ x y z u v → K a' w') → c.wp P (Exit.then K Q) a w) : (Code.loop c).wp P Q a w :=
  wp_loop_g (α := α × β × γ × δ × ε) (fun p => I p.1 p.2.1 p.2.2.1 p.2.2.2.1 p.2.2.2.2) (fun p => μ p.1 p.2.1 p.2.2.1 p.2.2.2.1 p.2.2.2.2) (x, y, z, u, v) h₀ (fun p a w hI K hK => round p.1 p.2.1 p.2.2.1 p.2.2.2.1 p.2.2.2.2 a w hI K (fun x' y' z' u' v' => hK (x', y', z', u', v')))
/-- a branch -/
theorem wp_condS {N : Nat} {l : List (Nat × Value)} {cd : Operand} {x y : Code} (h : Kn N l a) {t b : Bool} (hx : opv l cd = some (.bool t)) (ht : t = b) (k : (if b = true then x else y).wp P Q a w) : (Code.cond cd x y).wp P Q a w := wp_cond (h.op hx) (by rw [ht]; exact k)
/-- results -/
theorem res0 {fn : Func} (h : fn.results = #[]) {tmps : Array Value} (w : World) : (results fn tmps).run P w = .ok (.tuple #[]) w := results_none h tmps P w
theorem res1 {fn : Func} {N : Nat} {l : List (Nat × Value)} (hK : Kn N l a) {c : Nat} (h : fn.results = #[.tmp c]) {v : Value} (hv : opv l (.tmp c) = some v) (w : World) : (results fn a.tmps).run P w = .ok v w := by
  have := hK.op hv
  simp only [Act.eval] at this
  rw [results_tmp h, this]
theorem res2 {fn : Func} {N : Nat} {l : List (Nat × Value)} (hK : Kn N l a) {c d : Nat} (h : fn.results = #[.tmp c, .tmp d]) {v u : Value} (hv : opv l (.tmp c) = some v) (hu : opv l (.tmp d) = some u) (w : World) : (results fn a.tmps).run P w = .ok (.tuple #[v, u]) w := by
  have e1 := hK.op hv
  have e2 := hK.op hu
  simp only [Act.eval, Array.getD_eq_getD_getElem?] at e1 e2
  simp [results, h, e1, e2]
theorem retR {fn : Func} {R : Value → World → Prop} {v : Value} (hr : ∀ w, (results fn a.tmps).run P w = .ok v w) (hd : a.defers = []) (k : R v w) : bodyPost P fn (fun e w' => ∃ v, e = .returned v ∧ R v w') .ret a w := bodyPost_ret (hr w) hd ⟨v, rfl, k⟩
theorem endR {fn : Func} {R : Value → World → Prop} {v : Value} (hr : ∀ w, (results fn a.tmps).run P w = .ok v w) (hd : a.defers = []) (k : R v w) : bodyPost P fn (fun e w' => ∃ v, e = .returned v ∧ R v w') .normal a w := bodyPost_end (hr w) hd ⟨v, rfl, k⟩
/-- a function is entered -/
theorem enterR {f : FuncId} {fn : Func} {c : Code} {args : Array Value} {R : Value → World → Prop} (hf : P.funcs[f]? = some fn) (hb : fn.body = some c) {N : Nat} (hn : fn.ntmps = N) (hs : args.size ≤ N) (l : List (Nat × Value)) (hl : l.map (fun x => args[x.1]?) = l.map (fun x => some x.2))
    (k : ∀ a, Kn N l a → c.wp P (bodyPost P fn (fun e w' => ∃ v, e = .returned v ∧ R v w')) a w) : CallsR P f args w R := by
  refine calls_of_wp hf hb (k _ ⟨by simp [hn]; omega, fun x hx => ?_, rfl⟩)
  have e : args[x.1]? = some x.2 := by
    obtain ⟨i, hi, e⟩ := List.getElem_of_mem hx
    have q : (l.map (fun x => args[x.1]?))[i]? = (l.map (fun x => some x.2))[i]? := by rw [hl]
    rw [List.getElem?_map, List.getElem?_map, List.getElem?_eq_getElem hi, e] at q
    simpa using q
  have hlt : x.1 < args.size := (Array.getElem?_eq_some_iff.1 e).1
  show (args ++ Array.replicate (fn.ntmps - args.size) undef)[x.1]? = some x.2
  rw [Array.getElem?_append_left hlt]; exact e
end
end Go.Proofs.Ytpalgffmdinfpaa
end
section
namespace Go.Proofs.Ytpalgffmdinfpaa
open Go.RowKit
open Go.Maps (Keyed)
set_option linter.unusedSimpArgs false
set_option linter.unusedVariables false
set_option maxRecDepth 100000

theorem laidOutL : laidOutB Try.prog = true := by kernel_rfl
theorem keyLawL : WideMaps.KeyLaw Try.prog 60 := deep_law_laid laidOutL (m := 2) (by omega) (of_decide_eq_true (by kernel_rfl)) (by kernel_rfl) (by rw [Try.underlying60])
theorem keyedL : Keyed Try.prog 60 := Keyed.of_law keyLawL
theorem keyedIL : Keyed Try.prog 3 := Maps.int_keyed Try.underlying3
/-- a key, and how it is read -/
def kV (p : Int × Int) : Value := .agg #[.int .i64 p.1, .int .i64 p.2]
def kL (p : Int × Int) : Lit := .string (keyBytes [.int .i64 p.1, .int .i64 p.2])
def wfK (p : Int × Int) : Prop := (Lit.int .i64 p.1).wf = true ∧ (Lit.int .i64 p.2).wf = true
theorem typesL : ∃ d, Try.prog.types.size + 1 = d + 2 := ⟨Try.prog.types.size - 1, by have : 1 ≤ Try.prog.types.size := of_decide_eq_true (by kernel_rfl); omega⟩
theorem keyTypeL : Try.prog.keyType 60 = true := by kernel_rfl
theorem cellsKL : Try.prog.cellsOf 60 = 2 := by kernel_rfl
theorem cellsIL : Try.prog.cellsOf 3 = 1 := by kernel_rfl
theorem keyLitsI (d : Nat) (n : Int) (h : (Lit.int .i64 n).wf = true) : Try.prog.keyLits (d + 1) 3 [.int .i64 n] = some [.int .i64 n] := by
  unfold Program.keyLits
  rw [Try.underlying3]
  simp [h]
theorem keyOf_k {p : Int × Int} (h : wfK p) : keyOf Try.prog 60 (kV p) = some (kL p) := by
  obtain ⟨d, hd⟩ := typesL
  have hf : (kV p).formed Try.prog 60 = true := by simp [kV, Value.formed, Try.underlying60, cellsKL]
  have hk : Try.prog.keyLits (d + 2) 60 (kV p).cells.toList = some [.int .i64 p.1, .int .i64 p.2] := by
    unfold Program.keyLits
    rw [Try.underlying60]
    simp [kV, Value.cells, cellsKL, cellsIL, keyLitsI _ _ h.1, keyLitsI _ _ h.2]
  unfold keyOf
  rw [Try.underlying60, hd]
  simp only [keyTypeL, hf, hk, Bool.and_self, if_true, Option.map_some]
  rfl
theorem keyLitsI_inv {d : Nat} {x : Value} {l : List Lit} (h : Try.prog.keyLits (d + 1) 3 [x] = some l) : ∃ n, x = .int .i64 n ∧ (Lit.int .i64 n).wf = true ∧ l = [.int .i64 n] := by
  unfold Program.keyLits at h
  rw [Try.underlying3] at h
  cases x with
  | int q n =>
    simp only [] at h
    split at h
    · rename_i hc
      obtain ⟨rfl, hw⟩ := hc
      exact ⟨n, rfl, hw, (Option.some.inj h).symm⟩
    · cases h
  | _ => simp at h
theorem arr_two {α : Type} {cs : Array α} (h : cs.size = 2) : ∃ x y, cs = #[x, y] := by
  obtain ⟨l⟩ := cs
  match l, h with
  | [x, y], _ => exact ⟨x, y, rfl⟩
theorem keyOf_inv {v : Value} {l : Lit} (h : keyOf Try.prog 60 v = some l) : ∃ p, wfK p ∧ v = kV p ∧ l = kL p := by
  obtain ⟨d, hd⟩ := typesL
  unfold keyOf at h
  rw [Try.underlying60, hd] at h
  simp only [] at h
  split at h
  · rename_i hc
    simp only [Bool.and_eq_true] at hc
    cases v with
    | agg cs =>
      have hs : cs.size = 2 := by have := hc.2; simpa [Value.formed, Try.underlying60, cellsKL] using this
      obtain ⟨x, y, rfl⟩ := arr_two hs
      obtain ⟨ls, hls, rfl⟩ := Option.map_eq_some_iff.1 h
      unfold Program.keyLits at hls
      rw [Try.underlying60] at hls
      simp [Value.cells, cellsKL, cellsIL] at hls
      rcases ha : Try.prog.keyLits (d + 1) 3 [x] with _ | a
      · simp [ha] at hls
      rcases hb : Try.prog.keyLits (d + 1) 3 [y] with _ | c
      · simp [ha, hb] at hls
      simp [ha, hb] at hls
      subst hls
      obtain ⟨n, rfl, hn, rfl⟩ := keyLitsI_inv ha
      obtain ⟨m, rfl, hm, rfl⟩ := keyLitsI_inv hb
      exact ⟨(n, m), ⟨hn, hm⟩, rfl, rfl⟩
    | _ => simp [Value.formed, Try.underlying60] at hc
  · cases h
theorem kL_inj {p q : Int × Int} (hp : wfK p) (hq : wfK q) (e : kL p = kL q) : p = q := by
  have z := keyedL.inj (keyOf_k hp) (by rw [e]; exact keyOf_k hq)
  simp [kV] at z
  exact Prod.ext z.1 z.2
/-- elements: a grant, who waits -/
def gV (a : Bool × Int) : Value := .agg #[.bool a.1, .int .i64 a.2]
def gD (a : Bool × Int) : DataW Unit := .agg [.lit (.bool a.1), .lit (.int .i64 a.2)]
def gR2 : List Value → Option (DataW Unit × List MemPlace)
  | [.bool o, .int .i64 u] => some (gD (o, u), [])
  | _ => none
def gR : Value → Option (DataW Unit × List MemPlace)
  | .agg cs => gR2 cs.toList
  | _ => none
theorem gR_mk (a : Bool × Int) : gR (gV a) = some (gD a, []) := rfl
theorem gR_inv {v : Value} {d : DataW Unit} {ps : List MemPlace} (h : gR v = some (d, ps)) : ∃ a, v = gV a ∧ d = gD a := by
  unfold gR at h
  split at h
  · rename_i cs
    unfold gR2 at h
    split at h
    · rename_i o u hcs
      obtain rfl : cs = #[.bool o, .int .i64 u] := Array.toList_inj.1 (by simpa using hcs)
      simp at h
      exact ⟨(o, u), rfl, h.1.symm⟩
    · cases h
  · cases h
theorem gD_inj {a b : Bool × Int} (h : gD a = gD b) : a = b := by
  simp [gD] at h
  exact Prod.ext h.1 h.2
def wV (a : Int × Int) : Value := .agg #[.int .i64 a.1, .int .i64 a.2]
def wD (a : Int × Int) : DataW Unit := .agg [.lit (.int .i64 a.1), .lit (.int .i64 a.2)]
def wR2 : List Value → Option (DataW Unit × List MemPlace)
  | [.int .i64 o, .int .i64 u] => some (wD (o, u), [])
  | _ => none
def wR : Value → Option (DataW Unit × List MemPlace)
  | .agg cs => wR2 cs.toList
  | _ => none
theorem wR_mk (a : Int × Int) : wR (wV a) = some (wD a, []) := rfl
theorem wR_inv {v : Value} {d : DataW Unit} {ps : List MemPlace} (h : wR v = some (d, ps)) : ∃ a, v = wV a ∧ d = wD a := by
  unfold wR at h
  split at h
  · rename_i cs
    unfold wR2 at h
    split at h
    · rename_i o u hcs
      obtain rfl : cs = #[.int .i64 o, .int .i64 u] := Array.toList_inj.1 (by simpa using hcs)
      simp at h
      exact ⟨(o, u), rfl, h.1.symm⟩
    · cases h
  · cases h
theorem wD_inj {a b : Int × Int} (h : wD a = wD b) : a = b := by
  simp [wD] at h
  exact Prod.ext h.1 h.2
/-- a kind of map: its keys, its elements -/
structure MapK (ι α : Type) where
  t : TypeId
  k : TypeId
  e : TypeId
  ok : ι → Prop
  kv : ι → Value
  kl : ι → Lit
  av : α → Value
  ad : α → DataW Unit
  R : Value → Option (DataW Unit × List MemPlace)
  z : α
  law : Keyed Try.prog k
  und : Try.prog.underlying t = some (.map k e)
  key : ∀ {i}, ok i → keyOf Try.prog k (kv i) = some (kl i)
  inv : ∀ {v l}, keyOf Try.prog k v = some l → ∃ i, ok i ∧ v = kv i ∧ l = kl i
  inj : ∀ {i j}, ok i → ok j → kl i = kl j → i = j
  Rmk : ∀ a, R (av a) = some (ad a, [])
  Rinv : ∀ {v d ps}, R v = some (d, ps) → ∃ a, v = av a ∧ d = ad a
  dinj : ∀ {a b}, ad a = ad b → a = b
  zero : ∀ w : World, (zeroValue e).run Try.prog w = .ok (av z) w
def intL (i : Int) : Lit := .int .i64 i
theorem keyOf_i {i : Int} (h : (Lit.int .i64 i).wf = true) : keyOf Try.prog 3 (.int .i64 i) = some (intL i) := by
  unfold keyOf mapKey
  rw [Try.underlying3]
  simp [h, intL]
def KG : MapK (Int × Int) (Bool × Int) where
  t := 51
  k := 60
  e := 62
  ok := wfK
  kv := kV
  kl := kL
  av := gV
  ad := gD
  R := gR
  z := (false, 0)
  law := keyedL
  und := Try.underlying51
  key := keyOf_k
  inv := keyOf_inv
  inj := kL_inj
  Rmk := gR_mk
  Rinv := gR_inv
  dinj := gD_inj
  zero := fun w => by kernel_rfl
def KW : MapK Int (Int × Int) where
  t := 52
  k := 3
  e := 70
  ok := fun i => (Lit.int .i64 i).wf = true
  kv := fun i => .int .i64 i
  kl := intL
  av := wV
  ad := wD
  R := wR
  z := (0, 0)
  law := keyedIL
  und := Try.underlying52
  key := keyOf_i
  inv := fun {v l} h => by
    obtain ⟨x, rfl, rfl, hw⟩ := Maps.keyOf_int_inv Try.underlying3 h
    exact ⟨x, hw, rfl, rfl⟩
  inj := fun {i j} _ _ h => by simp [intL] at h; exact h
  Rmk := wR_mk
  Rinv := wR_inv
  dinj := wD_inj
  zero := fun w => by kernel_rfl
section
variable {ι α : Type} (K : MapK ι α) {w : World} {b n r : Nat} {g : ι → Option α}
/-- a map in memory is the function g -/
def MapG (w : World) (b n : Nat) (g : ι → Option α) : Prop :=
  ∃ D : DataW Unit, w.ownsMap Try.prog K.k K.R b n D ∧ (∀ i, K.ok i → Maps.has D (K.kl i) = (g i).isSome) ∧ (∀ i a, K.ok i → g i = some a → ∀ z, D.atKey (K.kl i) z = K.ad a)
end
end Go.Proofs.Ytpalgffmdinfpaa
end
section
namespace Go.Proofs.Ytpalgffmdinfpaa
open Go.RowKit
open Go.Maps (Keyed)
set_option linter.unusedSimpArgs false
set_option linter.unusedVariables false
set_option linter.unusedSectionVars false
set_option maxRecDepth 100000

section
variable {ι α : Type} [DecidableEq ι] {K : MapK ι α} {w w' : World} {b n r cnt : Nat} {g : ι → Option α} {left : ι → Bool}
def updG (g : ι → Option α) (i : ι) (a : Option α) : ι → Option α := fun j => if j = i then a else g j
theorem updG_same (g : ι → Option α) (i : ι) (a : Option α) : updG g i a i = a := if_pos rfl
theorem updG_ne (g : ι → Option α) {i j : ι} (a : Option α) (h : j ≠ i) : updG g i a j = g j := if_neg h
theorem MapK.lit (K : MapK ι α) {i : ι} (h : K.ok i) : WideAt.IsKeyLit (K.kl i) := K.law.key (K.key h)
theorem MapK.ne (K : MapK ι α) {i j : ι} (hi : K.ok i) (hj : K.ok j) (h : j ≠ i) : K.kl j ≠ K.kl i := fun e => h (K.inj hj hi e)
theorem MapK.same (K : MapK ι α) {i j : ι} (hi : K.ok i) (hj : K.ok j) : (K.kl j).sameKey (K.kl i) = decide (j = i) := by
  by_cases e : j = i
  · subst e; rw [WideAt.sameKey_self (K.lit hi)]; simp
  · cases hs : (K.kl j).sameKey (K.kl i)
    · simp [e]
    · exact absurd (WideAt.sameKey_eq hs) (K.ne hi hj e)
theorem MapG.lt (h : MapG K w b n g) : b < w.heap.size := by obtain ⟨D, h, _⟩ := h; exact h.lt
theorem MapG.turns {X : Nat → Prop} (h : MapG K w b n g) (t : Turns X w w') (hx : ¬ X b) : MapG K w' b n g := by
  obtain ⟨D, h1, h2, h3⟩ := h
  exact ⟨D, t.map h1 hx, h2, h3⟩
theorem MapG.mono (h : MapG K w b n g) (bl : Below w.heap.size w w') : MapG K w' b n g := h.turns (X := fun _ => False) (Turns.of_below bl) (fun e => e)
theorem MapG.more (h : MapG K w b n g) {m : Nat} (hm : n ≤ m) : MapG K w b m g := by
  obtain ⟨D, h1, h2, h3⟩ := h
  exact ⟨D, h1.mono hm, h2, h3⟩
theorem MapG.new (w : World) : MapG K (w.alloc (.map #[] 0)) w.heap.size 0 (fun _ => none) :=
  ⟨_, World.ownsMap_made w _ _ _, fun i _ => rfl, fun i a _ e => by cases e⟩
/-- v, ok := m[k] -/
theorem MapG.look (h : MapG K w b n g) {i : ι} (hi : K.ok i) : (Instr.lookup K.t (.map (some b)) (K.kv i) true).run Try.prog w = .ok (.tuple #[K.av ((g i).getD K.z), .bool (g i).isSome]) w := by
  obtain ⟨D, h1, h2, h3⟩ := h
  obtain ⟨v, ps, hrun, hR⟩ := h1.look_ok K.law K.und (K.zero w) (K.Rmk K.z) (K.key hi)
  rw [h2 i hi] at hrun
  obtain ⟨a, rfl, ha⟩ := K.Rinv hR
  rw [hrun]
  cases hg : g i with
  | some c =>
    have := (h3 i c hi hg (K.ad K.z)).symm.trans ha
    rw [K.dinj this]; rfl
  | none =>
    have z := h2 i hi
    rw [hg] at z
    have := (Maps.atKey_of_not_has z (K.ad K.z)).symm.trans ha
    rw [K.dinj this]; rfl
/-- m[k] = v -/
theorem MapG.store (h : MapG K w b n g) (hn : n < maxLen) {i : ι} (hi : K.ok i) (a : α) :
    ∃ w', (Instr.mapUpdate K.t (.map (some b)) (K.kv i) (K.av a)).run Try.prog w = .ok () w' ∧ MapG K w' b (n + 1) (updG g i (some a)) ∧ Turns (fun k => k = b) w w' := by
  obtain ⟨D, h1, h2, h3⟩ := h
  have hm := h1.isMap
  obtain ⟨w', hrun, h', ht⟩ := h1.store K.law K.und hn (K.key hi) (K.Rmk a)
  refine ⟨w', hrun, ⟨_, h', fun j hj => ?_, fun j c hj hc z => ?_⟩, Turns.of_grown ht.grown rfl⟩
  · by_cases e : j = i
    · subst e; rw [updG_same, Maps.has_put_same hm (K.lit hj)]; rfl
    · rw [updG_ne _ _ e, Maps.has_put_other (K.ne hi hj e)]; exact h2 j hj
  · by_cases e : j = i
    · subst e; rw [updG_same] at hc; cases hc; exact Maps.atKey_put_same hm (K.lit hj) _ _
    · rw [updG_ne _ _ e] at hc; rw [Maps.atKey_put_other (K.ne hi hj e)]; exact h3 j c hj hc z
theorem view_del {D : DataW Unit} {i : ι} (hi : K.ok i) (h2 : ∀ i, K.ok i → Maps.has D (K.kl i) = (g i).isSome) (h3 : ∀ i a, K.ok i → g i = some a → ∀ z, D.atKey (K.kl i) z = K.ad a) :
    (∀ j, K.ok j → Maps.has (D.del (K.kl i)) (K.kl j) = (updG g i none j).isSome) ∧ (∀ j a, K.ok j → updG g i none j = some a → ∀ z, (D.del (K.kl i)).atKey (K.kl j) z = K.ad a) := by
  refine ⟨fun j hj => ?_, fun j c hj hc z => ?_⟩
  · by_cases e : j = i
    · subst e; rw [updG_same, Maps.has_del_same]; rfl
    · rw [updG_ne _ _ e, Maps.has_del_other (K.ne hi hj e)]; exact h2 j hj
  · by_cases e : j = i
    · subst e; rw [updG_same] at hc; cases hc
    · rw [updG_ne _ _ e] at hc; rw [Maps.atKey_del_other (K.ne hi hj e)]; exact h3 j c hj hc z
/-- delete(m, k) -/
theorem MapG.drop (h : MapG K w b n g) {i : ι} (hi : K.ok i) (ty : TypeId) :
    ∃ w', (Builtin.delete_ #[K.t, K.k] ty #[.map (some b), K.kv i]).run Try.prog w = .ok (.tuple #[]) w' ∧ MapG K w' b n (updG g i none) ∧ Turns (fun k => k = b) w w' := by
  obtain ⟨D, h1, h2, h3⟩ := h
  obtain ⟨w', hrun, h', ht⟩ := h1.drop K.law K.und (K.key hi) ty
  obtain ⟨v1, v2⟩ := view_del hi h2 h3
  exact ⟨w', hrun, ⟨_, h', v1, v2⟩, Turns.of_grown ht.grown rfl⟩
/-- a range under way: left: who is still to come -/
def RanG (K : MapK ι α) (w : World) (b r n : Nat) (g : ι → Option α) (left : ι → Bool) (cnt : Nat) : Prop :=
  ∃ (D : DataW Unit) (lf : Lit → Bool), w.ranges Try.prog K.k K.R b r n D lf cnt ∧ (∀ i, K.ok i → Maps.has D (K.kl i) = (g i).isSome) ∧ (∀ i a, K.ok i → g i = some a → ∀ z, D.atKey (K.kl i) z = K.ad a) ∧ ∀ i, K.ok i → lf (K.kl i) = left i
theorem RanG.map (h : RanG K w b r n g left cnt) : MapG K w b n g := by
  obtain ⟨D, lf, h1, h2, h3, _⟩ := h
  exact ⟨D, h1.owns, h2, h3⟩
theorem RanG.ne (h : RanG K w b r n g left cnt) : r ≠ b := by obtain ⟨D, lf, h1, _⟩ := h; exact h1.ne
theorem RanG.lt (h : RanG K w b r n g left cnt) : r < w.heap.size := by obtain ⟨D, lf, h1, _⟩ := h; exact h1.lt
theorem RanG.left_eq (h : RanG K w b r n g left cnt) : w.rangeLeft b r = cnt := by obtain ⟨D, lf, h1, _⟩ := h; exact h1.left_eq
theorem RanG.turns {X : Nat → Prop} (h : RanG K w b r n g left cnt) (t : Turns X w w') (hb : ¬ X b) (hr : ¬ X r) : RanG K w' b r n g left cnt := by
  obtain ⟨D, lf, h1, h2, h3, h4⟩ := h
  refine ⟨D, lf, ?_, h2, h3, h4⟩
  have q1 := h1.owns.lt
  have q2 := h1.lt
  obtain ⟨es, clock, since, seen, c0, hb', F, hs, hD, hr', rest⟩ := h1
  exact ⟨es, clock, since, seen, c0, (t.block b q1 hb).trans hb', F, hs, hD, (t.block r q2 hr).trans hr', rest⟩
theorem RanG.mono (h : RanG K w b r n g left cnt) (bl : Below w.heap.size w w') : RanG K w' b r n g left cnt := h.turns (X := fun _ => False) (Turns.of_below bl) (fun e => e) (fun e => e)
theorem RanG.congr {g' : ι → Option α} {left' : ι → Bool} (h : RanG K w b r n g left cnt) (hg : ∀ i, K.ok i → g' i = g i) (hl : ∀ i, K.ok i → left' i = left i) : RanG K w b r n g' left' cnt := by
  obtain ⟨D, lf, h1, h2, h3, h4⟩ := h
  exact ⟨D, lf, h1, fun i hi => by rw [hg i hi]; exact h2 i hi, fun i a hi ha => h3 i a hi (by rw [← hg i hi]; exact ha), fun i hi => by rw [hl i hi]; exact h4 i hi⟩
/-- range m -/
theorem MapG.range (h : MapG K w b n g) : ∃ w', (Instr.range K.t (.map (some b))).run Try.prog w = .ok (.pointer (some ⟨w.heap.size, 0, none⟩)) w' ∧ (∃ cnt, RanG K w' b w.heap.size n g (fun i => (g i).isSome) cnt) ∧ Below w.heap.size w w' := by
  obtain ⟨D, h1, h2, h3⟩ := h
  obtain ⟨w', hrun, r1, r2, r3⟩ := h1.range K.law K.und
  exact ⟨w', hrun, ⟨_, D, _, r1, h2, h3, fun i hi => h2 i hi⟩, ⟨r2.os, r2.tape, r2.output, r2.size, fun k hk => r2.block k hk (by simp)⟩⟩
/-- the next of a range -/
theorem RanG.next (h : RanG K w b r n g left cnt) (ty : TypeId) :
    ((∀ i, K.ok i → left i = false) ∧ (Instr.next (.pointer (some ⟨r, 0, none⟩)) false ty).run Try.prog w = .ok (.tuple #[.bool false]) w) ∨
    ∃ i a w' cnt', K.ok i ∧ left i = true ∧ g i = some a ∧ (Instr.next (.pointer (some ⟨r, 0, none⟩)) false ty).run Try.prog w = .ok (.tuple #[.bool true, K.kv i, K.av a]) w' ∧
      RanG K w' b r n g (fun j => left j && !decide (j = i)) cnt' ∧ cnt' < cnt ∧ Turns (fun k => k = r) w w' ∧ (Instr.entry (.pointer (some ⟨r, 0, none⟩))).run Try.prog w' = .ok (.tuple #[K.kv i, K.av a]) w' := by
  obtain ⟨D, lf, h1, h2, h3, h4⟩ := h
  rcases h1.next K.law ty with ⟨_, hl, hrun⟩ | ⟨key, v, kl, y, w', cnt', hkey, hlk, hv, hat, hrun, hrg, hlt, hgr, hsz, hen⟩
  · exact .inl ⟨fun i hi => by rw [← h4 i hi]; exact hl _, hrun⟩
  · obtain ⟨i, hi, rfl, rfl⟩ := K.inv hkey
    obtain ⟨a, rfl, ha⟩ := K.Rinv (show K.R v = some (y.1, y.2) from hv)
    have hh := h2 i hi
    rw [Maps.has_true_of_atKey hat] at hh
    obtain ⟨c, hc⟩ := Option.isSome_iff_exists.1 hh.symm
    have e := (h3 i c hi hc (K.ad a)).symm.trans ((hat _).trans ha)
    obtain rfl := K.dinj e
    refine .inr ⟨i, c, w', cnt', hi, by rw [← h4 i hi]; exact hlk, hc, hrun, ⟨D, _, hrg, h2, h3, fun j hj => ?_⟩, hlt, Turns.of_grown hgr rfl, hen⟩
    rw [h4 j hj, K.same hi hj]
/-- delete within a range -/
theorem RanG.drop (h : RanG K w b r n g left cnt) {i : ι} (hi : K.ok i) (ty : TypeId) :
    ∃ w' cnt', (Builtin.delete_ #[K.t, K.k] ty #[.map (some b), K.kv i]).run Try.prog w = .ok (.tuple #[]) w' ∧ RanG K w' b r n (updG g i none) (fun j => left j && !decide (j = i)) cnt' ∧ cnt' ≤ cnt ∧ Turns (fun k => k = b) w w' := by
  obtain ⟨D, lf, h1, h2, h3, h4⟩ := h
  obtain ⟨w', cnt', hrun, h', hc, ht⟩ := h1.drop K.law K.und (K.key hi) ty
  obtain ⟨v1, v2⟩ := view_del hi h2 h3
  exact ⟨w', cnt', hrun, ⟨_, _, h', v1, v2, fun j hj => by rw [h4 j hj, K.same hi hj]⟩, hc, Turns.of_grown ht.grown rfl⟩
end
end Go.Proofs.Ytpalgffmdinfpaa
end
section
namespace Go.Proofs.Ytpalgffmdinfpaa
open Go.RowKit
set_option linter.unusedSimpArgs false
set_option linter.unusedVariables false
set_option linter.unusedSectionVars false

section
variable {ι α : Type} [DecidableEq ι] {K : MapK ι α} {w w' : World} {b n r cnt : Nat} {g : ι → Option α} {left : ι → Bool}
def mapC (K : MapK ι α) (b n : Nat) (g : ι → Option α) : Ch where
  F k := k = b
  P w := MapG K w b n g
  keep h t := h.turns t (fun q => q rfl)
  lt h k hk := hk ▸ h.lt
def ranC (K : MapK ι α) (b r n : Nat) (g : ι → Option α) (left : ι → Bool) (cnt : Nat) : Ch where
  F k := k = b ∨ k = r
  P w := RanG K w b r n g left cnt
  keep h t := h.turns t (fun q => q (.inl rfl)) (fun q => q (.inr rfl))
  lt h k hk := by rcases hk with rfl | rfl; exact h.map.lt; exact h.lt
end
section
variable {ι α : Type} [DecidableEq ι] {M : MapK ι α} {b n r cnt : Nat} {g : ι → Option α} {left : ι → Bool} {Q : Exit → Act → World → Prop} {o : Oper} {a : Act} {w w' : World} {N : Nat} {l : List (Nat × Value)} {K : Act → World → Prop} {cs : List Ch}
theorem xrange (h : Kn N l a) {d : Nat} (hd : o.dst = some d) (hdN : decide (d < N) = true) (hf : l.all (fun x => !(x.1 == d)) = true) {T : TypeId} {m : Operand} (ho : o.op = .range T m) (hT : T = M.t) (hS : Sep w cs) (i : Nat) (hi : cs[i]? = some (mapC M b n g)) (hm : opv l m = some (.map (some b)))
    (k : ∀ a' r w' cnt, Kn N ((d, .pointer (some ⟨r, 0, none⟩)) :: l) a' → Sep w' (cs.set i (ranC M b r n g (fun i => (g i).isSome) cnt)) → Below w.heap.size w w' → K a' w') : Oper.wp Try.prog o a w K Q := by
  subst hT
  obtain ⟨w', hr, ⟨cnt, hR⟩, hb⟩ := (hS.get i hi : MapG M w b n g).range
  refine xval h hd hdN hf (w' := w') (by unfold execOp; rw [ho]; simp only [h.op hm]; exact run_v hr) fun a' h' => k a' _ _ cnt h' (hS.upd i hi (X := fun _ => False) (Turns.of_below hb) (fun k _ e => e.elim) (c' := ranC M b w.heap.size n g (fun i => (g i).isSome) cnt) hR (fun k e => ?_)) hb
  rcases e with e | e
  · exact .inl e
  · exact .inr (by omega)
theorem xnext (h : Kn N l a) {d : Nat} (hd : o.dst = some d) (hdN : decide (d < N) = true) (hf : l.all (fun x => !(x.1 == d)) = true) {m : Operand} (ho : o.op = .next m false) (hS : Sep w cs) (i : Nat) (hi : cs[i]? = some (ranC M b r n g left cnt)) (hm : opv l m = some (.pointer (some ⟨r, 0, none⟩)))
    (k1 : ∀ a', Kn N ((d, .tuple #[.bool false]) :: l) a' → (∀ p, M.ok p → left p = false) → K a' w)
    (k2 : ∀ a' w' p u cnt', Kn N ((d, .tuple #[.bool true, M.kv p, M.av u]) :: l) a' → Sep w' (cs.set i (ranC M b r n g (fun j => left j && !decide (j = p)) cnt')) → M.ok p → left p = true → g p = some u → cnt' < cnt → (Instr.entry (.pointer (some ⟨r, 0, none⟩))).run Try.prog w' = .ok (.tuple #[M.kv p, M.av u]) w' → K a' w') : Oper.wp Try.prog o a w K Q := by
  rcases (hS.get i hi : RanG M w b r n g left cnt).next o.type with ⟨hl, hr⟩ | ⟨p, u, w', cnt', hp, hlp, hg, hr, hR, hc, ht, hen⟩
  · exact xval h hd hdN hf (w' := w) (by unfold execOp; rw [ho]; simp only [h.op hm]; exact run_v hr) fun a' h' => k1 a' h' hl
  · exact xval h hd hdN hf (w' := w') (by unfold execOp; rw [ho]; simp only [h.op hm]; exact run_v hr) fun a' h' => k2 a' w' p u cnt' h' (hS.upd i hi ht (fun k _ e => .inr e) (c' := ranC M b r n g (fun j => left j && !decide (j = p)) cnt') hR (fun k e => .inl e)) hp hlp hg hc hen
theorem rentry {P : Program} (h : Kn N l a) {m : Operand} (ho : o.op = .entry m) {v u : Value} (hm : opv l m = some v) {w : World} (hr : (Instr.entry v).run P w = .ok u w) : (execOp a.eval o).run P w = .ok (.value u) w := by
  unfold execOp; rw [ho]; simp only [h.op hm]; exact run_v hr
/-- a range is over: what is left is the map -/
theorem Sep.ran_map {w : World} (hS : Sep w cs) (i : Nat) (hi : cs[i]? = some (ranC M b r n g left cnt)) : Sep w (cs.set i (mapC M b n g)) :=
  hS.upd i hi (Turns.refl (fun _ => False) w) (fun k _ e => e.elim) (hS.get i hi : RanG M w b r n g left cnt).map (fun k e => .inl (.inl e))
end
end Go.Proofs.Ytpalgffmdinfpaa
end
section
namespace Go.Proofs.Ytpalgffmdinfpaa
open Go.RowKit
set_option linter.unusedSimpArgs false
set_option linter.unusedVariables false

theorem li_get {L : List Int} {j : Nat} (h : j < L.length) : (L.map iV)[j]? = some (.int .i64 (L.getD j 0)) := by
  rw [List.getElem?_map, List.getElem?_eq_getElem h]; simp [iV, h]
theorem li_set {L : List Int} {j : Nat} {x : Int} (h : j < L.length) : splice (L.map iV) j [.int .i64 x] = (L.set j x).map iV := by
  rw [show ([.int .i64 x] : List Value) = [iV x] from rfl, ← splice_set1 (by simpa using h), ← List.map_set]
where
  splice_set1 {L : List Value} {j : Nat} {v : Value} (h : j < L.length) : L.set j v = splice L j [v] := by
    unfold splice
    rw [List.set_eq_take_append_cons_drop, if_pos h]
    simp
theorem ls_get {α : Type} {enc : α → List Value} {sz : Nat} (h : ∀ x, (enc x).length = sz) {L : List α} {j k o : Nat} (z : α) (hj : j < L.length) (hk : k < sz) (ho : j * sz + k = o) : (L.flatMap enc)[o]? = (enc (L.getD j z))[k]? := by
  subst ho
  rw [flat_get enc sz h L j k hj hk]
  simp [hj]
theorem ls_all {α : Type} {enc : α → List Value} {sz : Nat} (h : ∀ x, (enc x).length = sz) {L : List α} {j o : Nat} (z : α) (hj : j < L.length) (ho : j * sz = o) : ((L.flatMap enc).drop o).take sz = enc (L.getD j z) := by
  subst ho
  refine List.ext_getElem? fun i => ?_
  rw [List.getElem?_take]
  split
  · rename_i hi
    rw [List.getElem?_drop]
    exact ls_get h z hj hi rfl
  · rename_i hi
    rw [List.getElem?_eq_none (by rw [h]; omega)]
theorem ls_set {α : Type} {enc : α → List Value} {sz : Nat} (h : ∀ x, (enc x).length = sz) {L : List α} {j o : Nat} {y : α} (hj : j < L.length) (ho : j * sz = o) : splice (L.flatMap enc) o (enc y) = (L.set j y).flatMap enc := by
  subst ho; exact (flat_set enc sz h L j y hj).symm
theorem ls_len {α : Type} {enc : α → List Value} {sz : Nat} (h : ∀ x, (enc x).length = sz) (L : List α) : (L.flatMap enc).length = L.length * sz := flat_len enc sz h L
/-- a list of one's own: where it lies, what stands in it -/
theorem own_addr {w : World} {B : Nat} {e : TypeId} {sz : Nat} {a : Option Addr} {n c : Nat} {cs : List Value} (h : Own w B e sz a n c cs) : ∃ q, 0 < n → a = some ⟨q, 0, none⟩ := by
  rcases Nat.eq_zero_or_pos n with hn | hn
  · exact ⟨0, fun q => by omega⟩
  · obtain ⟨q, hq⟩ := own_someO h hn
    exact ⟨q, fun _ => hq⟩
section
variable {P : Program}
theorem ixO {T E : TypeId} (hu : P.underlying T = some (.slice E)) {sz : Nat} (hsz : (P.info? E).map (·.size) = some sz) {a : Option Addr} {b off n c j : Nat} (ha : a = some ⟨b, off, none⟩) {k : IntKind} {i : Int} (hi : i = (j : Int)) (hj : j < n) {o : Nat} (ho : off + j * sz = o) (w : World) : (Instr.indexAt T (.slice a n c) (.int k i)).run P w = .ok (.pointer (some ⟨b, o, none⟩)) w := by
  subst hi; subst ho; subst ha
  have d0 : (j : Int) < (n : Int) := by omega
  have d1 : 0 ≤ (j : Int) := by omega
  cases hq : P.info? E with
  | none => simp [hq] at hsz
  | some q =>
    have hs : q.size = sz := by simpa [hq] using hsz
    simp [Instr.indexAt, asIntOf, underlying, hu, Sem.run_bind, sizeOf, typeInfo, hq, hs, hj]
    unfold Addr.add
    split
    · simp_all
    · simp
theorem ldOS {α : Type} {enc : α → List Value} {sz : Nat} (henc : ∀ x, (enc x).length = sz) {T : TypeId} {k : TypeDesc} (hu : P.underlying T = some k) (hk : k.isRow = true) (hn : (P.info? T).map (·.size) = some sz) {w : World} {B : Nat} {e : TypeId} {a : Option Addr} {q c j o : Nat} {L : List α} (h : Own w B e sz a L.length c (L.flatMap enc)) (ha : a = some ⟨q, 0, none⟩) (z : α) (hj : j < L.length) (ho : j * sz = o) : (Instr.loadAt T (.pointer (some ⟨q, o, none⟩))).run P w = .ok (.agg (enc (L.getD j z)).toArray) w := by
  subst ha
  obtain ⟨L', hb, _, _, ht, hnc, _⟩ := Own.blk h
  refine ldA hu hk hn hb ?_ (henc _)
  rw [← ls_all henc z hj ho, ← ht]
  have hle : o + sz ≤ L.length * sz := by rw [← ho, ← Nat.succ_mul]; exact Nat.mul_le_mul_right _ hj
  refine List.ext_getElem? fun i => ?_
  rw [List.getElem?_take, List.getElem?_take]
  split
  · rw [List.getElem?_drop, List.getElem?_drop, List.getElem?_take, if_pos (by omega)]
  · rfl
end
section
variable {P : Program} {Q : Exit → Act → World → Prop} {o : Oper} {a : Act} {w w' : World} {N : Nat} {l : List (Nat × Value)} {K : Act → World → Prop} {cs : List Ch}
/-- a number appended to a list of numbers -/
theorem xappI (h : Kn N l a) {d : Nat} (hd : o.dst = some d) (hdN : decide (d < N) = true) (hf : l.all (fun x => !(x.1 == d)) = true) {s x : Operand} {t e : TypeId}
    (ho : o.op = .call { callee := .builtin .append, args := #[s, x], argTypes := #[t, t] }) (E : ElemT P t e 1 8) (hS : Sep w cs) (i : Nat) {B : Nat}
    {a1 : Option Addr} {c : Nat} {L : List Int} (hi : cs[i]? = some (ownC B e 1 a1 L.length c (L.map iV))) (hs : opv l s = some (.slice a1 L.length c)) (j : Nat) {g : Nat} {e' : TypeId} {y : Int} (hj : cs[j]? = some (blkC g e' [.int .i64 y])) (hx : opv l x = some (.slice (some ⟨g, 0, none⟩) 1 1))
    (hn : L.length < 1000000000000) {L' : List Int} (hL : L ++ [y] = L')
    (k : ∀ a' b' c' w', Kn N ((d, .slice b' L'.length c') :: l) a' → Sep w' (cs.set i (ownC 0 e 1 b' L'.length c' (L'.map iV))) → K a' w') : Oper.wp P o a w K Q := by
  refine xappend h hd hdN hf ho E hS i hi hs hx (ds := [iV y]) (row_blkO (hS.get j hj : Blk _ _ _ _) 1 1 rfl (by decide)) (by decide) rfl (by omega) (by omega) (n' := L'.length) (by rw [← hL]; simp) fun a' b' c' w' h' s' _ => k a' b' c' w' h' ?_
  rw [show L.map iV ++ [iV y] = L'.map iV by rw [← hL]; simp] at s'
  exact s'
/-- a struct appended to a list of structs -/
theorem xappS {α : Type} {enc : α → List Value} {sz : Nat} (henc : ∀ x, (enc x).length = sz) (h : Kn N l a) {d : Nat} (hd : o.dst = some d) (hdN : decide (d < N) = true) (hf : l.all (fun x => !(x.1 == d)) = true) {s x : Operand} {t e : TypeId} {by_ : Nat}
    (ho : o.op = .call { callee := .builtin .append, args := #[s, x], argTypes := #[t, t] }) (E : ElemT P t e sz by_) (hS : Sep w cs) (i : Nat) {B : Nat}
    {a1 : Option Addr} {c : Nat} {L : List α} (hi : cs[i]? = some (ownC B e sz a1 L.length c (L.flatMap enc))) (hs : opv l s = some (.slice a1 L.length c)) (j : Nat) {g : Nat} {e' : TypeId} {y : α} (hj : cs[j]? = some (blkC g e' (enc y))) (hx : opv l x = some (.slice (some ⟨g, 0, none⟩) 1 1))
    (h1 : (enc y).all (·.oneCell') = true) (hb : by_ ≤ 1000) (hn : L.length < 1000000000) {L' : List α} (hL : L ++ [y] = L')
    (k : ∀ a' b' c' w', Kn N ((d, .slice b' L'.length c') :: l) a' → Sep w' (cs.set i (ownC 0 e sz b' L'.length c' (L'.flatMap enc))) → K a' w') : Oper.wp P o a w K Q := by
  refine xappend h hd hdN hf ho E hS i hi hs hx (ds := enc y) (row_blkO (hS.get j hj : Blk _ _ _ _) sz 1 (by rw [henc, Nat.one_mul]) (by decide)) (by decide) h1 (Nat.le_trans (Nat.mul_le_mul_left _ hb) (by omega)) (by omega) (n' := L'.length) (by rw [← hL]; simp) fun a' b' c' w' h' s' _ => k a' b' c' w' h' ?_
  rw [show L.flatMap enc ++ enc y = L'.flatMap enc by rw [← hL]; simp] at s'
  exact s'
end
theorem repl_getD {α : Type} (n k : Nat) (z : α) : (List.replicate n z).getD k z = z := by
  rw [List.getD_eq_getElem?_getD, List.getElem?_replicate]; split <;> rfl
theorem made_flat {α : Type} {enc : α → List Value} {sz : Nat} (h : ∀ x, (enc x).length = sz) {z : Array Value} {x : α} (hz : z.toList = enc x) (hsz : 0 < sz) (n : Nat) : (madeCells z (n * sz)).toList = (List.replicate n x).flatMap enc := by
  have hzs : z.size = sz := by rw [← Array.length_toList, hz, h]
  refine List.ext_getElem? fun i => ?_
  by_cases hi : i < n * sz
  · have hd : i / sz < n := Nat.div_lt_of_lt_mul (by rw [Nat.mul_comm]; exact hi)
    have hm : i % sz < sz := Nat.mod_lt _ hsz
    rw [ls_get h (j := i / sz) (k := i % sz) x (by simpa using hd) hm (by rw [Nat.mul_comm]; exact Nat.div_add_mod i sz)]
    have e : (List.replicate n x).getD (i / sz) x = x := by simp [List.getD_eq_getElem?_getD, List.getElem?_replicate, hd]
    rw [e, ← hz]
    simp [madeCells, hi, hzs, hm]
  · rw [List.getElem?_eq_none (by simp [madeCells]; omega), List.getElem?_eq_none (by rw [ls_len h]; simp; omega)]
section
variable {P : Program} {Q : Exit → Act → World → Prop} {o : Oper} {a : Act} {w w' : World} {N : Nat} {l : List (Nat × Value)} {K : Act → World → Prop} {cs : List Ch}
theorem xmakeS {α : Type} {enc : α → List Value} {sz : Nat} (henc : ∀ x, (enc x).length = sz) (hsz : 0 < sz) (h : Kn N l a) {d : Nat} (hd : o.dst = some d) (hdN : decide (d < N) = true) (hf : l.all (fun x => !(x.1 == d)) = true) {T E : TypeId} {x y : Operand} (ho : o.op = .makeSlice T x y) (hu : P.underlying T = some (.slice E))
    {z : Value} {n : Nat} (hi : (P.info? E).map (fun i => (i.zero, i.size, decide (i.bytes * n ≤ 281474976710656))) = some (some z, sz, true)) {m : α} (hz : z.cells.toList = enc m) (hx : opv l x = some (.int .i64 (n : Int))) (hy : opv l y = some (.int .i64 (n : Int))) (hn : n ≤ 1000000000) (hS : Sep w cs)
    (k : ∀ a' g w', Kn N ((d, .slice (some ⟨g, 0, none⟩) n n) :: l) a' → Sep w' (blkC g E ((List.replicate n m).flatMap enc) :: cs) → (∃ o, w' = w.alloc o) → g = w.heap.size → K a' w') : Oper.wp P o a w K Q := by
  obtain ⟨i, h0, h1, h2, h3⟩ : ∃ i, P.info? E = some i ∧ i.zero = some z ∧ i.size = sz ∧ decide (i.bytes * n ≤ 281474976710656) = true := by
    cases hq : P.info? E with
    | none => rw [hq] at hi; cases hi
    | some i => rw [hq] at hi; simp only [Option.map_some, Option.some.injEq, Prod.mk.injEq] at hi; exact ⟨i, rfl, hi.1, hi.2.1, hi.2.2⟩
  have hb' : (i.bytes : Int) * (n : Int) ≤ 281474976710656 := by
    have q : ((i.bytes * n : Nat) : Int) ≤ 281474976710656 := by have := of_decide_eq_true h3; omega
    rwa [Int.natCast_mul] at q
  have hr := run_make (P := P) w T E i z hu h0 h1 .i64 .i64 (n : Int) (n : Int) (by omega) (Int.le_refl _) hb' (by omega)
  simp only [Int.toNat_natCast, h2] at hr
  refine xval h hd hdN hf (by unfold execOp; rw [ho]; simp only [h.op hx, h.op hy]; exact run_v hr) fun a' h' => k a' _ _ h' (hS.push (albO _ _) ?_ (fun k e => by cases e; exact Nat.le_refl _)) ⟨_, rfl⟩ rfl
  show Blk _ _ _ _
  rw [← made_flat henc hz hsz n]
  simpa [Blk] using heap_alloc_new w (.cells (madeCells z.cells (n * sz)) E)
theorem flat_iV (L : List Int) : L.flatMap (fun x => [iV x]) = L.map iV := by induction L <;> simp_all
theorem xmakeI (h : Kn N l a) {d : Nat} (hd : o.dst = some d) (hdN : decide (d < N) = true) (hf : l.all (fun x => !(x.1 == d)) = true) {T E : TypeId} {x y : Operand} (ho : o.op = .makeSlice T x y) (hu : P.underlying T = some (.slice E))
    {n : Nat} (hi : (P.info? E).map (fun i => (i.zero, i.size, decide (i.bytes * n ≤ 281474976710656))) = some (some (.int .i64 0), 1, true)) (hx : opv l x = some (.int .i64 (n : Int))) (hy : opv l y = some (.int .i64 (n : Int))) (hn : n ≤ 1000000000) (hS : Sep w cs)
    (k : ∀ a' g w', Kn N ((d, .slice (some ⟨g, 0, none⟩) n n) :: l) a' → Sep w' (blkC g E ((List.replicate n (0 : Int)).map iV) :: cs) → (∃ o, w' = w.alloc o) → g = w.heap.size → K a' w') : Oper.wp P o a w K Q :=
  xmakeS (enc := fun x => [iV x]) (sz := 1) (fun _ => rfl) (by omega) h hd hdN hf ho hu hi (m := (0 : Int)) rfl hx hy hn hS (fun a' g w' h' s' b' e' => k a' g w' h' (by rw [flat_iV] at s'; exact s') b' e')
/-- a result that lies in a cell -/
theorem resC {fn : Func} (hK : Kn N l a) {c : Nat} {T : TypeId} (h : fn.results = #[.cell c T]) {g : Nat} {e : TypeId} {L : List Value} {k : TypeDesc} (hc : opv l (.tmp c) = some (.pointer (some ⟨g, 0, none⟩))) (hb : Blk w g e L) (hu : P.underlying T = some k) (hk : k.isRow = true) (hn : (P.info? T).map (·.size) = some L.length) : (results fn a.tmps).run P w = .ok (.agg L.toArray) w :=
  results_cell1 h (hK.op hc) hb hu hk hn
theorem resCt {fn : Func} (hK : Kn N l a) {c u : Nat} {T : TypeId} (h : fn.results = #[.cell c T, .tmp u]) {g : Nat} {e : TypeId} {L : List Value} {k : TypeDesc} (hc : opv l (.tmp c) = some (.pointer (some ⟨g, 0, none⟩))) {v : Value} (hv : opv l (.tmp u) = some v) (hb : Blk w g e L) (hu : P.underlying T = some k) (hk : k.isRow = true) (hn : (P.info? T).map (·.size) = some L.length) : (results fn a.tmps).run P w = .ok (.tuple #[.agg L.toArray, v]) w := by
  have e := hK.op hv
  have q := results_cell2 (P := P) (w := w) h (hK.op hc) hb hu hk hn
  simp only [Act.eval] at e
  rw [q, e]
theorem retRw {fn : Func} {R : Value → World → Prop} {v : Value} (hr : (results fn a.tmps).run P w = .ok v w) (hd : a.defers = []) (k : R v w) : bodyPost P fn (fun e w' => ∃ v, e = .returned v ∧ R v w') .ret a w := bodyPost_ret hr hd ⟨v, rfl, k⟩
/-- an element of a list of one's own is stored anew -/
theorem xstoreO {α : Type} {enc : α → List Value} {sz : Nat} (henc : ∀ x, (enc x).length = sz) (h : Kn N l a) (hd : o.dst = none) {T : TypeId} {x y : Operand} (ho : o.op = .store T x y) (hS : Sep w cs) (i : Nat) {B : Nat} {e : TypeId} {ad : Option Addr} {q c j off : Nat} {L : List α} (hi : cs[i]? = some (ownC B e sz ad L.length c (L.flatMap enc))) (ha : ad = some ⟨q, 0, none⟩) (hx : opv l x = some (.pointer (some ⟨q, off, none⟩))) {u : Value} (hy : opv l y = some u) (m : α) (hu : u.cells = (enc m).toArray)
    (hn : (P.info? T).map (·.size) = some sz) (h1 : (enc m).all (·.oneCell') = true) (hj : j < L.length) (hoff : j * sz = off) {n' : Nat} (hn' : L.length = n')
    (k : ∀ a' w', Kn N l a' → Sep w' (cs.set i (ownC B e sz ad n' c ((L.set j m).flatMap enc))) → K a' w') : Oper.wp P o a w K Q := by
  subst ha; subst hn'
  have hO : Own w B e sz (some ⟨q, 0, none⟩) L.length c (L.flatMap enc) := hS.get i hi
  obtain ⟨L', hb, hle, hB, hk⟩ := own_splice hO
  have hfit : off + (enc m).length ≤ L.length * sz := by rw [henc, ← hoff, ← Nat.succ_mul]; exact Nat.mul_le_mul_right _ hj
  obtain ⟨h2, h3⟩ := Blk.setCells (enc m) off w L' hb (by omega)
  have hr := run_storeAt_mid (P := P) w q off T (enc m).toArray (by simpa using hb.there off (enc m).length (by omega)) (by simpa [henc] using hn) (by rw [List.all_toArray]; exact h1)
  have hown := hk _ off (enc m) hfit h2
  rw [ls_set henc hj hoff] at hown
  refine op_skip (w' := w.setCells q off (enc m)) h hd ?_ fun a' h' => k a' _ h' (hS.upd i hi (Turns.of_grown (X := fun k => k = q) h3 rfl) (fun k _ hk => ?_) (c' := ownC B e sz (some ⟨q, 0, none⟩) L.length c ((L.set j m).flatMap enc)) hown (fun k hk => .inl hk))
  · unfold execOp; rw [ho]; simp only [h.op hx, h.op hy]
    rw [Sem.run_bind, run_storeVal hu, hr]
    rfl
  · subst hk; rfl
theorem xstoreOI (h : Kn N l a) (hd : o.dst = none) {T : TypeId} {x y : Operand} (ho : o.op = .store T x y) (hS : Sep w cs) (i : Nat) {B : Nat} {e : TypeId} {ad : Option Addr} {q c j : Nat} {L : List Int} (hi : cs[i]? = some (ownC B e 1 ad L.length c (L.map iV))) (ha : ad = some ⟨q, 0, none⟩) (hx : opv l x = some (.pointer (some ⟨q, j, none⟩))) {m : Int} (hy : opv l y = some (.int .i64 m))
    (hn : (P.info? T).map (·.size) = some 1) (hj : j < L.length) {n' : Nat} (hn' : L.length = n')
    (k : ∀ a' w', Kn N l a' → Sep w' (cs.set i (ownC B e 1 ad n' c ((L.set j m).map iV))) → K a' w') : Oper.wp P o a w K Q :=
  xstoreO (enc := fun x => [iV x]) (fun _ => rfl) h hd ho hS i (by rw [flat_iV]; exact hi) ha hx hy m rfl hn rfl hj (Nat.mul_one _) hn' (fun a' w' h' s' => k a' w' h' (by rw [flat_iV] at s'; exact s'))
end
end Go.Proofs.Ytpalgffmdinfpaa
end
section
namespace Go.Proofs.Ytpalgffmdinfpaa
open Go.RowKit
set_option linter.unusedSimpArgs false
set_option linter.unusedVariables false

end Go.Proofs.Ytpalgffmdinfpaa
end
section
namespace Go.Proofs.Ytpalgffmdinfpaa
open Go.RowKit
set_option linter.unusedSimpArgs false
set_option linter.unusedVariables false

/-- does a number fit a width? -/
def fitsB (n k : Int) : Bool :=
  if k = 1 then decide (0 ≤ n) && decide (n < 256) else if k = 2 then decide (0 ≤ n) && decide (n < 65536)
  else if k = 4 then decide (0 ≤ n) && decide (n < 4294967296) else if k = 8 then decide (0 ≤ n) else false

/-- the little-endian bytes of a number -/
def le : Nat → Nat → List UInt8
  | 0, _ => []
  | k + 1, n => UInt8.ofNat n :: le k (n / 256)
/-- what Put hands back -/
def putF (xs : List UInt8) (n k : Int) : List UInt8 := if fitsB n k then xs ++ le k.toNat n.toNat else xs

end Go.Proofs.Ytpalgffmdinfpaa
end
section
namespace Go.Proofs.Ytpalgffmdinfpaa
open Go.RowKit
set_option linter.unusedSimpArgs false
set_option linter.unusedVariables false

/-- the number of some bytes, the lowest first -/
def ofLE : List UInt8 → Nat
  | [] => 0
  | x :: xs => x.toNat + 256 * ofLE xs

def widthB (k : Int) : Bool := decide (k = 1 ∨ k = 2 ∨ k = 4 ∨ k = 8)

/-- what Get finds -/
def getF (xs : List UInt8) (at_ k : Int) : Option Nat :=
  if widthB k = true ∧ 0 ≤ at_ ∧ at_ + k ≤ xs.length then
    (if ofLE ((xs.drop at_.toNat).take k.toNat) ≤ 9223372036854775807 then some (ofLE ((xs.drop at_.toNat).take k.toNat)) else none)
  else none

/-- what Get hands back -/
def getV (o : Option Nat) : Value := .tuple #[.int .i64 ((o.getD 0 : Nat) : Int), .bool o.isSome]
end Go.Proofs.Ytpalgffmdinfpaa
end
section
namespace Go.Proofs.Ytpalgffmdinfpaa
open Go.RowKit
set_option linter.unusedSimpArgs false
set_option linter.unusedVariables false

end Go.Proofs.Ytpalgffmdinfpaa
end
section
namespace Go.Proofs.Ytpalgffmdinfpaa
open Go.RowKit
set_option linter.unusedSimpArgs false
set_option linter.unusedVariables false

end Go.Proofs.Ytpalgffmdinfpaa
end
section
namespace Go.Proofs.Ytpalgffmdinfpaa
open Go.RowKit
set_option linter.unusedSimpArgs false
set_option linter.unusedVariables false

def roundsB (n to : Int) : Bool := decide (0 ≤ n) && decide (n ≤ 1152921504606846976) && decide (1 ≤ to) && decide (to ≤ 1073741824)
def upF (n to : Int) : Int := if roundsB n to = true then (if n % to = 0 then n else n - n % to + to) else n
def downF (n to : Int) : Int := if roundsB n to = true then n - n % to else n

def rot1 (x : Nat) : Nat := (2 * x) % 4294967296 + x / 2147483648
def rotN : Nat → Nat → Nat
  | 0, x => x
  | m + 1, x => rot1 (rotN m x)
def rotL (m x : Nat) : Nat := (x * 2 ^ m) % 4294967296 + x / 2 ^ (32 - m)

def rotF (x : Nat) (n : Int) : Nat := rotN ((if n < 0 then -(n + 1) else n) % 32).toNat x

end Go.Proofs.Ytpalgffmdinfpaa
end
section
namespace Go.Proofs.Ytpalgffmdinfpaa
set_option linter.unusedSimpArgs false
set_option linter.unusedVariables false

/-- one bit of the register -/
def crcStep (q : Nat) : Nat := if q % 2 = 1 then (q / 2) ^^^ 3988292384 else q / 2
def crcSteps : Nat → Nat → Nat
  | 0, q => q
  | k + 1, q => crcStep (crcSteps k q)
def crcByte (r : Nat) (x : UInt8) : Nat := crcSteps 8 (r ^^^ x.toNat)
def crcReg (r : Nat) (xs : List UInt8) : Nat := xs.foldl crcByte r
def crcF (xs : List UInt8) : Nat := 4294967295 - crcReg 4294967295 xs

/-- the definition's bit: the register's and the byte's lowest bit are held against each other -/
def crcMix (r c : Nat) : Nat := if r % 2 ≠ c % 2 then (r / 2) ^^^ 3988292384 else r / 2
attribute [irreducible] crcStep crcSteps crcByte crcReg

/-- one bit of a text turned -/
def flip (l : List UInt8) (k : Nat) : List UInt8 := l.set (k / 8) ((l.getD (k / 8) 0) ^^^ UInt8.ofNat (2 ^ (k % 8)))

end Go.Proofs.Ytpalgffmdinfpaa
end
section
namespace Go.Proofs.Ytpalgffmdinfpaa
open Go.RowKit
set_option linter.unusedSimpArgs false
set_option linter.unusedVariables false

end Go.Proofs.Ytpalgffmdinfpaa
end
section
namespace Go.Proofs.Ytpalgffmdinfpaa
open Go.RowKit
set_option linter.unusedSimpArgs false
set_option linter.unusedVariables false

end Go.Proofs.Ytpalgffmdinfpaa
end
section
namespace Go.Proofs.Ytpalgffmdinfpaa
open Go.RowKit
set_option linter.unusedSimpArgs false
set_option linter.unusedVariables false
end Go.Proofs.Ytpalgffmdinfpaa
end
section
namespace Go.Proofs.Ytpalgffmdinfpaa
open Go.RowKit
set_option linter.unusedSimpArgs false
set_option linter.unusedVariables false
set_option maxRecDepth 100000

structure PtM where
  at_ : Int
  d : List UInt8
def bsB (l : List UInt8) : ByteArray := ⟨l.toArray⟩
def strB (l : List UInt8) : Value := .string (bsB l)
def ptC (p : PtM) : List Value := [.int .i64 p.at_, strB p.d]
def ptV (p : PtM) : Value := .agg (ptC p).toArray
abbrev RowPt (w : World) (a : Option Addr) (c : Nat) (L : List PtM) : Prop := Row w 2 a L.length c (L.flatMap ptC)
/-- what an int may be -/
def okI (n : Int) : Prop := -9223372036854775808 ≤ n ∧ n ≤ 9223372036854775807
def okPts (L : List PtM) : Prop := ∀ p ∈ L, okI p.at_

def okPt (p : PtM) : Bool := fitsB p.at_ 4 && decide (p.d.length ≤ 256)
def encP1 (b : List UInt8) (p : PtM) : List UInt8 := putF (putF b p.at_ 4) p.d.length 2 ++ p.d
def encB (L : List PtM) : List UInt8 := L.foldl encP1 (putF [] L.length 2)
def pad8 (n : Nat) : Nat := (8 - n % 8) % 8
def sealY (b : List UInt8) : List UInt8 := putF b (crcF b : Int) 4
def sealP (b : List UInt8) : List UInt8 := sealY b ++ List.replicate (pad8 (sealY b).length) 0
def encOk (L : List PtM) : Bool := decide (L.length ≤ 64) && L.all okPt
def encL (L : List PtM) : List UInt8 := if encOk L = true then sealP (encB L) else []
def encE (L : List PtM) : Int := if encOk L = true then 0 else 1
theorem loadIP {w : World} {g off : Nat} {x : Int} (h : w.cell? ⟨g, off, none⟩ = some (.int .i64 x)) : (Instr.loadAt 3 (.pointer (some ⟨g, off, none⟩))).run Try.prog w = .ok (.int .i64 x) w := by
  have u3 := Try.underlying3
  have a3 := Try.isAgg3
  have z3 := Try.sizeOf3
  go_simp
end Go.Proofs.Ytpalgffmdinfpaa
end
section
namespace Go.Proofs.Ytpalgffmdinfpaa
open Go.RowKit
set_option linter.unusedSimpArgs false
set_option linter.unusedVariables false
set_option maxRecDepth 100000

theorem gtIP (x y : Operand) (v u : Int) (w : World) {b : Bool} (h : decide (u < v) = b) : (do eqGuard .gtr 3 x y (.int .i64 v) (.int .i64 u); binOp .gtr 3 (.int .i64 v) (.int .i64 u) : Sem Value).run Try.prog w = .ok (.bool b) w := by
  have u3 := Try.underlying3
  have a3 := Try.isAgg3
  have z3 := Try.sizeOf3
  go_simp
theorem ltIP (x y : Operand) (v u : Int) (w : World) {b : Bool} (h : decide (v < u) = b) : (do eqGuard .lss 3 x y (.int .i64 v) (.int .i64 u); binOp .lss 3 (.int .i64 v) (.int .i64 u) : Sem Value).run Try.prog w = .ok (.bool b) w := by
  have u3 := Try.underlying3
  have a3 := Try.isAgg3
  have z3 := Try.sizeOf3
  go_simp
theorem run_not {P : Program} {o : Oper} {ty : TypeId} {x : Operand} {w : World} (ho : o.op = .unOp .not ty x) {ρ : Operand → Value} {b : Bool} (hb : ρ x = .bool b) : (execOp ρ o).run P w = .ok (.value (.bool (!b))) w := by
  unfold execOp
  rw [ho]
  simp only [hb]
  go_simp
/-- a struct stored into a part of a block -/
theorem wpk_storeP {P : Program} {ops : Array Oper} {Q : Exit → Act → World → Prop} {rest : List Oper} {o : Oper} {a : Act} {w : World} {N : Nat} {l : List (Nat × Value)} (h : Kn N l a) (hw : o.guard = none) (hd : o.dst = none) {T : TypeId} {x y : Operand} (ho : o.op = .store T x y) (g off : Nat) (hx : a.eval x = .pointer (some ⟨g, off, none⟩)) (vs : List Value) (hy : a.eval y = .agg vs.toArray) (hn : (P.info? T).map (·.size) = some vs.length) (h1 : ∀ v ∈ vs, v.oneCell' = true) {e : TypeId} {L : List Value} (hb : Blk w g e L) (hL : off + vs.length ≤ L.length)
    (k : ∀ a' w', Kn N l a' → Blk w' g e (splice L off vs) → w.grownBy w' (some g) → wpList P ops Q rest a' w') : wpList P ops Q (o :: rest) a w := by
  refine wpl_storeM hw T x y ho g off hx vs hy hn h1 hb hL fun w' hb' hg => ?_
  rw [hd]
  exact k a w' h hb' hg
structure DS where
  at_ : Nat
  no : Bool
def takeD (xs : List UInt8) (s : DS) (n : Nat) : List UInt8 × DS := if s.no = true ∨ xs.length < s.at_ + n then ([], ⟨s.at_, true⟩) else ((xs.drop s.at_).take n, ⟨s.at_ + n, false⟩)
def numD (xs : List UInt8) (s : DS) (k : Nat) : Nat × DS := ((getF (takeD xs s k).1 0 k).getD 0, (takeD xs s k).2)
theorem loadBP {w : World} {g off : Nat} {b : Bool} (h : w.cell? ⟨g, off, none⟩ = some (.bool b)) : (Instr.loadAt 4 (.pointer (some ⟨g, off, none⟩))).run Try.prog w = .ok (.bool b) w := by
  have u3 := Try.underlying4
  have a3 := Try.isAgg4
  have z3 := Try.sizeOf4
  go_simp
theorem run_uP {P : Program} {s : Sem Unit} {w w' : World} (h : s.run P w = .ok () w') : (do s; pure Next.skip : Sem Next).run P w = .ok .skip w' := by
  rw [Sem.run_bind, h]; rfl
theorem wpk_skipvP {P : Program} {ops : Array Oper} {Q : Exit → Act → World → Prop} {rest : List Oper} {o : Oper} {a : Act} {w w' : World} {N : Nat} {l : List (Nat × Value)} (h : Kn N l a) (hw : Region.wanted o (yielded ops a.tmps) = true) (hd : o.dst = none)
    (hr : (execOp a.eval o).run P w = .ok .skip w') (k : ∀ a', Kn N l a' → wpList P ops Q rest a' w') : wpList P ops Q (o :: rest) a w := by
  refine wpList_step fun K hK => ?_
  rw [if_pos hw]
  unfold Oper.wp
  rw [hr, Oper.upon_skip, hd]
  exact hK _ _ (k _ h)
theorem addNP (x y : Operand) (i j k : Int) (hk : i + j = k) (h1 : -9223372036854775808 ≤ k) (h2 : k ≤ 9223372036854775807) (w : World) : (do eqGuard .add 3 x y (.int .i64 i) (.int .i64 j); binOp .add 3 (.int .i64 i) (.int .i64 j) : Sem Value).run Try.prog w = .ok (.int .i64 k) w := by
  have u3 := Try.underlying3
  have a3 := Try.isAgg3
  have z3 := Try.sizeOf3
  subst hk
  have e1 : IntKind.i64.wrap (i + j) = i + j := IntWalk.i64_in _ (by omega)
  go_simp
end Go.Proofs.Ytpalgffmdinfpaa
end
section
namespace Go.Proofs.Ytpalgffmdinfpaa
open Go.RowKit
set_option linter.unusedSimpArgs false
set_option linter.unusedVariables false
set_option maxRecDepth 100000

abbrev GrF := Int × Int → Option (Bool × Int)
abbrev WtF := Int → Option (Int × Int)
def tabC (gm wm : Nat) : List Value := [.map (some gm), .map (some wm)]
/-- a table in memory: its grants by client and inode, its waits by inode -/
structure TabP (w : World) (tg gm wm n m : Nat) (g : GrF) (wt : WtF) : Prop where
  t : Blk w tg 54 (tabC gm wm)
  g : MapG KG w gm n g
  w : MapG KW w wm m wt
  ne : gm ≠ wm ∧ tg ≠ gm ∧ tg ≠ wm
theorem TabP.turns {X : Nat → Prop} {w w' : World} {tg gm wm n m : Nat} {g : GrF} {wt : WtF} (h : TabP w tg gm wm n m g wt) (t : Turns X w w') (h1 : ¬ X tg) (h2 : ¬ X gm) (h3 : ¬ X wm) : TabP w' tg gm wm n m g wt := ⟨t.blk h.t h1, h.g.turns t h2, h.w.turns t h3, h.ne⟩
theorem TabP.mono {w w' : World} {tg gm wm n m : Nat} {g : GrF} {wt : WtF} (h : TabP w tg gm wm n m g wt) (b : Below w.heap.size w w') : TabP w' tg gm wm n m g wt := h.turns (X := fun _ => False) (Turns.of_below b) (fun e => e) (fun e => e) (fun e => e)
theorem TabP.lt {w : World} {tg gm wm n m : Nat} {g : GrF} {wt : WtF} (h : TabP w tg gm wm n m g wt) : tg < w.heap.size ∧ gm < w.heap.size ∧ wm < w.heap.size := ⟨h.t.lt, h.g.lt, h.w.lt⟩
theorem TabP.setG {w w' : World} {tg gm wm n m n' : Nat} {g g' : GrF} {wt : WtF} (h : TabP w tg gm wm n m g wt) (t : Turns (fun k => k = gm) w w') (hg : MapG KG w' gm n' g') : TabP w' tg gm wm n' m g' wt := ⟨t.blk h.t h.ne.2.1, hg, h.w.turns t (fun e => h.ne.1 e.symm), h.ne⟩
theorem TabP.setW {w w' : World} {tg gm wm n m m' : Nat} {g : GrF} {wt wt' : WtF} (h : TabP w tg gm wm n m g wt) (t : Turns (fun k => k = wm) w w') (hw : MapG KW w' wm m' wt') : TabP w' tg gm wm n m' g wt' := ⟨t.blk h.t h.ne.2.2, h.g.turns t h.ne.1, hw, h.ne⟩
def kC (c i : Int) : List Value := [.int .i64 c, .int .i64 i]
def gC (o : Bool) (u : Int) : List Value := [.bool o, .int .i64 u]
theorem infoKL : (Try.prog.info? 60).map (·.size) = some 2 := by kernel_rfl
theorem infoGL : (Try.prog.info? 62).map (·.size) = some 2 := by kernel_rfl
theorem infoWL : (Try.prog.info? 70).map (·.size) = some 2 := by kernel_rfl
theorem kC_one (c i : Int) : ∀ v ∈ kC c i, v.oneCell' = true := by intro v hv; simp [kC] at hv; rcases hv with rfl | rfl <;> rfl
theorem gC_one (o : Bool) (u : Int) : ∀ v ∈ gC o u, v.oneCell' = true := by intro v hv; simp [gC] at hv; rcases hv with rfl | rfl <;> rfl
theorem run_allocKL {o : Oper} (ho : o.op = .alloc 60) (ρ : Operand → Value) (w : World) : (execOp ρ o).run Try.prog w = .ok (.value (.pointer (some ⟨w.heap.size, 0, none⟩))) (w.alloc (.cells (kC 0 0).toArray 60)) := by
  unfold execOp; rw [ho]; rfl
theorem run_allocGL {o : Oper} (ho : o.op = .alloc 62) (ρ : Operand → Value) (w : World) : (execOp ρ o).run Try.prog w = .ok (.value (.pointer (some ⟨w.heap.size, 0, none⟩))) (w.alloc (.cells (gC false 0).toArray 62)) := by
  unfold execOp; rw [ho]; rfl
theorem run_allocWL {o : Oper} (ho : o.op = .alloc 70) (ρ : Operand → Value) (w : World) : (execOp ρ o).run Try.prog w = .ok (.value (.pointer (some ⟨w.heap.size, 0, none⟩))) (w.alloc (.cells (kC 0 0).toArray 70)) := by
  unfold execOp; rw [ho]; rfl
theorem buildKL (c i : Int) (w : World) : (Instr.build 60 #[(0, .int .i64 c), (1, .int .i64 i)]).run Try.prog w = .ok (.agg (kC c i).toArray) w := by
  have u3 := Try.underlying60
  have z3 := Try.sizeOf60
  unfold kC
  go_simp
theorem loadGM {w : World} {g off : Nat} {q : Option Nat} (h : w.cell? ⟨g, off, none⟩ = some (.map q)) : (Instr.loadAt 51 (.pointer (some ⟨g, off, none⟩))).run Try.prog w = .ok (.map q) w := by
  have u3 := Try.underlying51
  have a3 := Try.isAgg51
  have z3 := Try.sizeOf51
  go_simp
theorem loadWM {w : World} {g off : Nat} {q : Option Nat} (h : w.cell? ⟨g, off, none⟩ = some (.map q)) : (Instr.loadAt 52 (.pointer (some ⟨g, off, none⟩))).run Try.prog w = .ok (.map q) w := by
  have u3 := Try.underlying52
  have a3 := Try.isAgg52
  have z3 := Try.sizeOf52
  go_simp
theorem loadStL {w : World} {t : TypeId} {g : Nat} {L : List Value} {fs : Array Field} (h : w.rangeAt g 0 L) (hu : Try.prog.underlying t = some (.struct fs)) (hn : (Try.prog.info? t).map (·.size) = some L.length) : (Instr.loadAt t (.pointer (some ⟨g, 0, none⟩))).run Try.prog w = .ok (.agg L.toArray) w :=
  run_loadAt_mid _ _ _ _ L _ h hu rfl (by rw [hn])
theorem lookGL {w : World} {gm n : Nat} {g : GrF} (h : MapG KG w gm n g) {c i : Int} (hk : wfK (c, i)) {o : Bool} {u : Int} (hg : g (c, i) = some (o, u)) : (Instr.lookup 51 (.map (some gm)) (.agg (kC c i).toArray) true).run Try.prog w = .ok (.tuple #[.agg (gC o u).toArray, .bool true]) w := by
  have z := h.look (K := KG) (i := (c, i)) hk
  rw [hg] at z
  exact z
theorem lookGN {w : World} {gm n : Nat} {g : GrF} (h : MapG KG w gm n g) {c i : Int} (hk : wfK (c, i)) (hg : g (c, i) = none) : (Instr.lookup 51 (.map (some gm)) (.agg (kC c i).toArray) true).run Try.prog w = .ok (.tuple #[.agg (gC false 0).toArray, .bool false]) w := by
  have z := h.look (K := KG) (i := (c, i)) hk
  rw [hg] at z
  exact z
theorem dropGL {w : World} {gm n : Nat} {g : GrF} (h : MapG KG w gm n g) {c i : Int} (hk : wfK (c, i)) {o : Oper} {x y : Operand} (ho : o.op = .call { callee := .builtin .delete, args := #[x, y], argTypes := #[51, 60] }) {ρ : Operand → Value} (hx : ρ x = .map (some gm)) (hy : ρ y = .agg (kC c i).toArray) :
    ∃ w', (execOp ρ o).run Try.prog w = .ok (.value (.tuple #[])) w' ∧ MapG KG w' gm n (updG g (c, i) none) ∧ Turns (fun k => k = gm) w w' := by
  obtain ⟨w', hrun, h1, h2⟩ := h.drop (K := KG) (i := (c, i)) hk o.type
  refine ⟨w', ?_, h1, h2⟩
  have hrun' : (Builtin.delete_ #[51, 60] o.type #[.map (some gm), .agg (kC c i).toArray]).run Try.prog w = .ok (.tuple #[]) w' := hrun
  unfold execOp
  rw [ho]
  simp [resolve, invoke, builtin, hx, hy, hrun', Result.andThen]
theorem run_storeM {P : Program} {w : World} {T : TypeId} {g off : Nat} {e : TypeId} {vs L : List Value} (hn : (P.info? T).map (·.size) = some vs.length) (h1 : ∀ v ∈ vs, v.oneCell' = true) (hb : Blk w g e L) (hL : off + vs.length ≤ L.length) :
    ∃ w', (Instr.storeAt T (.pointer (some ⟨g, off, none⟩)) (.agg vs.toArray)).run P w = .ok () w' ∧ Blk w' g e (splice L off vs) ∧ w.grownBy w' (some g) := by
  obtain ⟨h2, h3⟩ := Blk.setCells vs off w L hb hL
  refine ⟨_, run_storeAt_mid w g off T vs.toArray (by simpa using hb.there off vs.length hL) (by simpa using hn) (all_oneCell_toArray h1), h2, h3⟩
/-- an operation that yields a value that goes nowhere -/
theorem op_gone {P : Program} {Q : Exit → Act → World → Prop} {oi : Oper} {a : Act} {w w' : World} {N : Nat} {l : List (Nat × Value)} {K : Act → World → Prop} (h : Kn N l a) (hd : oi.dst = none) {v : Value} (hrun : (execOp a.eval oi).run P w = .ok (.value v) w') (k : ∀ a', Kn N l a' → K a' w') : Oper.wp P oi a w K Q := by
  unfold Oper.wp
  rw [hrun, Oper.upon_value, hd]
  exact k _ h
theorem op_dropGL {Q : Exit → Act → World → Prop} {oi : Oper} {a : Act} {w : World} {N : Nat} {l : List (Nat × Value)} {K : Act → World → Prop} {gm n : Nat} {g : GrF} (h : Kn N l a) (hd : oi.dst = none) (hm : MapG KG w gm n g) {c i : Int} (hk : wfK (c, i)) {x y : Operand} (ho : oi.op = .call { callee := .builtin .delete, args := #[x, y], argTypes := #[51, 60] }) (hx : a.eval x = .map (some gm)) (hy : a.eval y = .agg (kC c i).toArray)
    (k : ∀ a' w', Kn N l a' → MapG KG w' gm n (updG g (c, i) none) → Turns (fun k => k = gm) w w' → K a' w') : Oper.wp Try.prog oi a w K Q := by
  obtain ⟨w', r, m, t⟩ := dropGL hm hk ho hx hy
  exact op_gone h hd r fun a' h' => k a' w' h' m t
theorem MapG.congr {ι α : Type} {K : MapK ι α} {w : World} {b n : Nat} {g g' : ι → Option α} (h : MapG K w b n g) (hg : ∀ i, K.ok i → g' i = g i) : MapG K w b n g' := by
  obtain ⟨D, h1, h2, h3⟩ := h
  exact ⟨D, h1, fun i hi => by rw [hg i hi]; exact h2 i hi, fun i a hi ha => h3 i a hi (by rw [← hg i hi]; exact ha)⟩
theorem eqIP (x y : Operand) (v u : Int) (w : World) {b : Bool} (h : (v == u) = b) : (do eqGuard .eql 3 x y (.int .i64 v) (.int .i64 u); binOp .eql 3 (.int .i64 v) (.int .i64 u) : Sem Value).run Try.prog w = .ok (.bool b) w := by
  have u3 := Try.underlying3
  have a3 := Try.isAgg3
  have z3 := Try.sizeOf3
  subst h
  go_simp
theorem op_dropRL {Q : Exit → Act → World → Prop} {oi : Oper} {a : Act} {w : World} {N : Nat} {l : List (Nat × Value)} {K : Act → World → Prop} {gm r n cnt : Nat} {g : GrF} {left : Int × Int → Bool} (h : Kn N l a) (hd : oi.dst = none) (hm : RanG KG w gm r n g left cnt) {c i : Int} (hk : wfK (c, i)) {x y : Operand} (ho : oi.op = .call { callee := .builtin .delete, args := #[x, y], argTypes := #[51, 60] }) (hx : a.eval x = .map (some gm)) (hy : a.eval y = .agg (kC c i).toArray)
    (k : ∀ a' w' cnt', Kn N l a' → RanG KG w' gm r n (updG g (c, i) none) (fun j => left j && !decide (j = (c, i))) cnt' → cnt' ≤ cnt → Turns (fun k => k = gm) w w' → K a' w') : Oper.wp Try.prog oi a w K Q := by
  obtain ⟨w', cnt', hrun, m, hc, t⟩ := hm.drop (K := KG) (i := (c, i)) hk oi.type
  have hrun' : (Builtin.delete_ #[51, 60] oi.type #[.map (some gm), .agg (kC c i).toArray]).run Try.prog w = .ok (.tuple #[]) w' := hrun
  refine op_gone h hd (v := .tuple #[]) ?_ fun a' h' => k a' w' cnt' h' m hc t
  unfold execOp
  rw [ho]
  simp [resolve, invoke, builtin, hx, hy, hrun', Result.andThen]
/-- a wait is deleted within a range -/
theorem wpk_dropRW {ops : Array Oper} {Q : Exit → Act → World → Prop} {rest : List Oper} {oi : Oper} {a : Act} {w : World} {N : Nat} {l : List (Nat × Value)} {wm r n cnt : Nat} {g : WtF} {left : Int → Bool} (h : Kn N l a) (hw : oi.guard = none) (hd : oi.dst = none) (hm : RanG KW w wm r n g left cnt) {i : Int} (hk : (Lit.int .i64 i).wf = true) {x y : Operand} (ho : oi.op = .call { callee := .builtin .delete, args := #[x, y], argTypes := #[52, 3] }) (hx : a.eval x = .map (some wm)) (hy : a.eval y = .int .i64 i)
    (k : ∀ a' w' cnt', Kn N l a' → RanG KW w' wm r n (updG g i none) (fun j => left j && !decide (j = i)) cnt' → cnt' ≤ cnt → Turns (fun k => k = wm) w w' → wpList Try.prog ops Q rest a' w') : wpList Try.prog ops Q (oi :: rest) a w := by
  obtain ⟨w', cnt', hrun, m, hc, t⟩ := hm.drop (K := KW) (i := i) hk oi.type
  have hrun' : (Builtin.delete_ #[52, 3] oi.type #[.map (some wm), .int .i64 i]).run Try.prog w = .ok (.tuple #[]) w' := hrun
  refine wpList_step fun K hK => ?_
  rw [if_pos (wanted_none hw)]
  refine op_gone h hd (v := .tuple #[]) ?_ fun a' h' => hK a' w' (k a' w' cnt' h' m hc t)
  unfold execOp
  rw [ho]
  simp [resolve, invoke, builtin, hx, hy, hrun', Result.andThen]
def dropG (c : Int) (g : GrF) : GrF := fun p => if p.1 = c then none else g p
def dropW (c : Int) (wt : WtF) : WtF := fun i => match wt i with | some a => if a.1 = c then none else some a | none => none
theorem dropG_start (c : Int) (g : GrF) (p : Int × Int) : g p = if (g p).isSome = true then g p else dropG c g p := by
  unfold dropG; cases h : g p <;> simp [h]
theorem dropW_start (c : Int) (wt : WtF) (i : Int) : wt i = if (wt i).isSome = true then wt i else dropW c wt i := by
  unfold dropW; cases h : wt i <;> simp [h]
theorem results_nil {P : Program} {fn : Func} (h : fn.results = #[]) {tmps : Array Value} {w : World} : (results fn tmps).run P w = .ok (.tuple #[]) w := by simp [results, h]
end Go.Proofs.Ytpalgffmdinfpaa
end
section
namespace Go.Proofs.Ytpalgffmdinfpaa
open Go.RowKit
set_option linter.unusedSimpArgs false
set_option linter.unusedVariables false
set_option maxRecDepth 100000
theorem fa_54_0_0 (g : Nat) (w : World) : (Instr.fieldAt 54 (.pointer (some ⟨g, 0, none⟩)) 0).run Try.prog w = .ok (.pointer (some ⟨g, 0, none⟩)) w := rfl

set_option maxHeartbeats 4000000 in
theorem give_some {w : World} {tg gm wm n m : Nat} {g : GrF} {wt : WtF} (h : TabP w tg gm wm n m g wt) {c i : Int} (hk : wfK (c, i)) (hgs : ∃ o u, g (c, i) = some (o, u)) :
    Calls Try.prog 21 #[.pointer (some ⟨tg, 0, none⟩), .int .i64 c, .int .i64 i] w fun e w' => e = .returned (.int .i64 (if (g (c, i)).isSome then 0 else 10)) ∧ TabP w' tg gm wm n m (updG g (c, i) none) wt ∧ Turns (fun k => k = gm) w w' := by
  obtain ⟨o, u, hg⟩ := hgs
  have HT := hid h; clear h
  go_enter Try.func21, Try.ntmps21
  iterate 3 go_step
  refine wpk_enter (N := 29) (l := [(0, .pointer (some ⟨tg, 0, none⟩)), (1, .int .i64 c), (2, .int .i64 i)]) ⟨rfl, (by intro x hx; simp only [List.mem_cons, List.not_mem_nil, or_false] at hx; rcases hx with rfl | rfl | rfl <;> rfl), rfl⟩ fun a2 h1 => ?_
  refine wv h1 rfl rfl rfl rfl (.int .i64 0) rfl fun a4 h3 => ?_
  iterate 5 go_step
  refine wmk h3 rfl rfl rfl rfl 1 rfl (fun _ => rfl) fun a6 h5 => ?_
  refine wmk h5 rfl rfl rfl rfl 2 rfl (fun _ => rfl) fun a8 h7 => ?_
  refine wv h7 rfl rfl rfl rfl (.agg (kC c i).toArray) (by unfold execOp; simp only [List.map_toArray, List.map_cons, List.map_nil, h7.ev 10 rfl, h7.ev 11 rfl]; exact run_v (buildKL _ _ _)) fun a10 h9 => ?_
  refine wv h9 rfl rfl rfl rfl (.pointer (some ⟨w.heap.size, 0, none⟩)) (run_allocKL rfl _ w) fun a12 h11 => ?_
  obtain ⟨wkb, hwkb⟩ : ∃ y, y = w.alloc (.cells (kC 0 0).toArray 60) := ⟨_, rfl⟩
  obtain ⟨kb, hkb⟩ : ∃ y, y = w.heap.size := ⟨_, rfl⟩
  have Kkb := hid (show Blk wkb kb 60 (kC 0 0) by rw [hwkb, hkb]; exact blk_newO rfl _ _)
  have Hwkb := hid (show TabP wkb tg gm wm n m g wt by rw [hwkb]; exact HT.out.mono (albO _ _))
  have Bwkb := hid (show Below w.heap.size w wkb by rw [hwkb]; exact albO _ _)
  rw [← hkb] at h11; rw [← hwkb]; clear hwkb
  refine wpk_storeP h11 rfl rfl rfl kb 0 (h11.ev 7 rfl) (kC c i) (h11.ev 12 rfl) (by rw [infoKL]; rfl) (kC_one _ _) Kkb.out (by show 0 + 2 ≤ 2; omega) fun a14 w1 h13 kq gq => ?_
  rw [splice_all (by rfl)] at kq
  have hlt := HT.out.lt; have hkn : kb ≠ tg ∧ kb ≠ gm ∧ kb ≠ wm := ⟨by omega, by omega, by omega⟩
  have HK1 := hid kq; have HT1 := hid (Hwkb.out.turns (Turns.of_grown (X := fun k => k = kb) gq rfl) (fun e => hkn.1 e.symm) (fun e => hkn.2.1 e.symm) (fun e => hkn.2.2 e.symm))
  have T1 := hid ((Turns.of_below (X := fun k => k = gm) Bwkb.out).trans' (Turns.of_grown (X := fun k => k = kb) gq rfl) (fun k h1 h2 => by omega)); clear kq gq Kkb
  have h15 := h13.subs (l' := [(7, _), (6, _), (0, _), (1, _), (2, _)]) rfl
  clear h13
  iterate 5 go_step
  have HT2 := hid (HT1.out.mono (Below.refl _ _).drew); have HK2 := hid (HK1.out.mono (Below.refl _ _).drew)
  refine wp_region_held_drew (S := fun w' => TabP w' tg gm wm n m g wt ∧ Blk w' kb 60 (kC c i)) (by kernel_rfl) ⟨HT2.out, HK2.out⟩ (fun hS1 => ?_)
  refine wpk_take hS1 h15 0 rfl rfl (by decide) (fr rfl) (by kernel_rfl) (by kernel_rfl) (by kernel_rfl) (fun _ _ _ _ h => h) (.pointer (some ⟨tg, 0, none⟩)) (Or.inl ⟨Eq.refl true, fun w1 hSw => (by show (execOp _ (⟨_, .move (.tmp 0), _, _, _, _⟩ : Oper)).run _ _ = _; exact (by unfold execOp; simp only [h15.ev 0 rfl]; rfl))⟩) fun a17 h16 => ?_
  refine wpk_take hS1 h16 1 rfl rfl (by decide) (fr rfl) (by kernel_rfl) (by kernel_rfl) (by kernel_rfl) (fun _ _ _ _ h => h) (.pointer (some ⟨tg, 0, none⟩)) (Or.inl ⟨Eq.refl true, fun w1 hSw => (by show (execOp _ (⟨_, .nilCheck (.tmp 14), _, _, _, _⟩ : Oper)).run _ _ = _; exact (by unfold execOp; simp only [h16.ev 14 rfl]; exact rfl))⟩) fun a19 h18 => ?_
  refine wpk_take hS1 h18 2 rfl rfl (by decide) (fr rfl) (by kernel_rfl) (by kernel_rfl) (by kernel_rfl) (fun _ _ _ _ h => h) (.pointer (some ⟨tg, 0, none⟩)) (Or.inl ⟨Eq.refl true, fun w1 hSw => (by show (execOp _ (⟨_, .fieldAddr 54 (.tmp 15) 0, _, _, _, _⟩ : Oper)).run _ _ = _; exact (by unfold execOp; simp only [h18.ev 15 rfl]; exact run_v (fa_54_0_0 (tg) _)))⟩) fun a21 h20 => ?_
  refine wpk_take hS1 h20 3 rfl rfl (by decide) (fr rfl) (by kernel_rfl) (by kernel_rfl) (by kernel_rfl) (fun _ _ _ _ h => h) (.map (some gm)) (Or.inl ⟨Eq.refl true, fun w1 hSw => (by show (execOp _ (⟨_, .load 51 (.tmp 16), _, _, _, _⟩ : Oper)).run _ _ = _; exact (by unfold execOp; simp only [h20.ev 16 rfl]; exact run_v (loadGM (hSw.1.t.cell (i := 0) (by show 0 < 2; omega)))))⟩) fun a23 h22 => ?_
  refine wpk_take hS1 h22 4 rfl rfl (by decide) (fr rfl) (by kernel_rfl) (by kernel_rfl) (by kernel_rfl) (fun _ _ _ _ h => h) (.agg (kC c i).toArray) (Or.inl ⟨Eq.refl true, fun w1 hSw => (by show (execOp _ (⟨_, .load 60 (.tmp 7), _, _, _, _⟩ : Oper)).run _ _ = _; exact (by unfold execOp; simp only [h22.ev 7 rfl]; exact run_v (loadStL (L := kC c i) (hSw.2.range) Try.underlying60 (by rw [infoKL]; rfl))))⟩) fun a25 h24 => ?_
  refine wpk_take hS1 h24 5 rfl rfl (by decide) (fr rfl) (by kernel_rfl) (by kernel_rfl) (by kernel_rfl) (fun _ _ _ _ h => h) (.tuple #[.agg (gC o u).toArray, .bool true]) (Or.inl ⟨Eq.refl true, fun w1 hSw => (by show (execOp _ (⟨_, .lookup 51 (.tmp 17) (.tmp 18) true, _, _, _, _⟩ : Oper)).run _ _ = _; exact (by unfold execOp; simp only [h24.ev 17 rfl, h24.ev 18 rfl]; exact run_v (lookGL hSw.1.g hk hg)))⟩) fun a27 h26 => ?_
  refine wpk_take hS1 h26 6 rfl rfl (by decide) (fr rfl) (by kernel_rfl) (by kernel_rfl) (by kernel_rfl) (fun _ _ _ _ h => h) (.tuple #[.agg (gC o u).toArray, .bool true]) (Or.inl ⟨Eq.refl true, fun w1 hSw => (by show (execOp _ (⟨_, .move (.tmp 19), _, _, _, _⟩ : Oper)).run _ _ = _; exact (by unfold execOp; simp only [h26.ev 19 rfl]; rfl))⟩) fun a29 h28 => ?_
  refine wpk_take hS1 h28 7 rfl rfl (by decide) (fr rfl) (by kernel_rfl) (by kernel_rfl) (by kernel_rfl) (fun _ _ _ _ h => h) (.agg (gC o u).toArray) (Or.inl ⟨Eq.refl true, fun w1 hSw => (by show (execOp _ (⟨_, .extract (.tmp 13) 0, _, _, _, _⟩ : Oper)).run _ _ = _; exact (by unfold execOp; simp only [h28.ev 13 rfl]; exact rfl))⟩) fun a31 h30 => ?_
  refine wpk_take hS1 h30 8 rfl rfl (by decide) (fr rfl) (by kernel_rfl) (by kernel_rfl) (by kernel_rfl) (fun _ _ _ _ h => h) (.bool true) (Or.inl ⟨Eq.refl true, fun w1 hSw => (by show (execOp _ (⟨_, .extract (.tmp 13) 1, _, _, _, _⟩ : Oper)).run _ _ = _; exact (by unfold execOp; simp only [h30.ev 13 rfl]; exact rfl))⟩) fun a33 h32 => ?_
  obtain ⟨w3, hw3⟩ : ∃ y, y = w1.drew.alloc (.cells (gC false 0).toArray 62) := ⟨_, rfl⟩
  obtain ⟨ge, hge⟩ : ∃ y, y = w1.heap.size := ⟨_, rfl⟩
  have k3 : Blk w3 ge 62 (gC false 0) := by rw [hw3, hge]; exact blk_newO rfl _ _
  have t3 := hid (show TabP w3 tg gm wm n m g wt by rw [hw3]; exact HT2.out.mono (albO _ _)); have kk3 := hid (show Blk w3 kb 60 (kC c i) by rw [hw3]; exact HK2.out.mono (albO _ _))
  refine wpk_only 9 rfl rfl (by kernel_rfl) fun KK hK => op_val (w' := w3) h32 rfl (by decide) (fr rfl) (.pointer (some ⟨ge, 0, none⟩)) (by rw [hw3, hge]; exact run_allocGL rfl _ w1.drew) fun a35 h34 => hK _ _ ⟨t3.out, kk3.out⟩ fun hS3 => ?_
  clear hK KK
  obtain ⟨w4, hrun4, k4, g4⟩ := run_storeM (P := Try.prog) (T := 62) (g := ge) (off := 0) (vs := gC o u) (by rw [infoGL]; rfl) (gC_one _ _) k3 (by show 0 + 2 ≤ 2; omega)
  have hlt3 := t3.out.lt; have hkk := kk3.out.lt; have hk1 := HT1.out.lt; have hk2 := HK1.out.lt
  have t4 := hid (t3.out.turns (Turns.of_grown (X := fun k => k = ge) g4 rfl) (by omega) (by omega) (by omega)); have kk4 := hid ((Turns.of_grown (X := fun k => k = ge) g4 rfl).blk kk3.out (by omega))
  refine wpk_only 10 rfl rfl (by kernel_rfl) fun KK hK => op_skip (w' := w4) h34 rfl (by show (execOp _ (⟨_, .store 62 (.tmp 8) (.tmp 20), _, _, _, _⟩ : Oper)).run _ _ = _; unfold execOp; simp only [h34.ev 8 rfl, h34.ev 20 rfl]; exact run_uP hrun4) fun a37 h36 => hK _ _ ⟨t4.out, kk4.out⟩ fun hS4 => ?_
  clear hK KK
  refine wpk_take hS4 h36 11 rfl rfl (by decide) (fr rfl) (by kernel_rfl) (by kernel_rfl) (by kernel_rfl) (fun _ _ _ _ h => h) (.bool true) (Or.inl ⟨Eq.refl true, fun w1 hSw => (by show (execOp _ (⟨_, .assign (.tmp 21), _, _, _, _⟩ : Oper)).run _ _ = _; exact (by unfold execOp; simp only [h36.ev 21 rfl]; rfl))⟩) fun a39 h38 => ?_
  have T4 := hid ((Turns.of_below (X := fun k => k = gm) (show Below w1.heap.size w1 w3 by rw [hw3]; exact (Below.refl _ _).drew.alloc (Nat.le_refl _) _)).trans' (Turns.of_grown (X := fun k => k = ge) g4 rfl) (fun k h1 h2 => by omega))
  refine wpAnyH_done (by kernel_rfl) ?_ _
  have h40 := h38.subs (l' := [(9, _), (7, _), (6, _), (0, _), (1, _), (2, _)]) rfl
  clear h38
  iterate 4 go_step
  refine wmk h40 rfl rfl rfl rfl 9 rfl (fun _ => rfl) fun a42 h41 => ?_
  refine wv h41 rfl rfl rfl rfl (.bool false) (run_not rfl (h41.ev 22 rfl)) fun a44 h43 => ?_
  have h45 := h43.subs (l' := [(23, _), (9, _), (7, _), (6, _), (0, _), (1, _), (2, _)]) rfl
  clear h43
  iterate 3 go_step
  refine wp_cond (t := false) (h45.ev 23 rfl) ?_
  simp only [Bool.false_eq_true, if_false]
  have h46 := h45.subs (l' := [(9, _), (7, _), (6, _), (0, _), (1, _), (2, _)]) rfl
  clear h45
  iterate 4 go_step
  have HT5 := hid (t4.out.mono (Below.refl _ _).drew); have HK5 := hid (kk4.out.mono (Below.refl _ _).drew)
  refine wp_region_held_drew (S := fun w' => Blk w' tg 54 (tabC gm wm) ∧ Blk w' kb 60 (kC c i)) (by kernel_rfl) ⟨HT5.out.t, HK5.out⟩ (fun hS1 => ?_)
  refine wpk_take hS1 h46 0 rfl rfl (by decide) (fr rfl) (by kernel_rfl) (by kernel_rfl) (by kernel_rfl) (fun _ _ _ _ h => h) (.pointer (some ⟨tg, 0, none⟩)) (Or.inl ⟨Eq.refl true, fun w1 hSw => (by show (execOp _ (⟨_, .move (.tmp 0), _, _, _, _⟩ : Oper)).run _ _ = _; exact (by unfold execOp; simp only [h46.ev 0 rfl]; rfl))⟩) fun a48 h47 => ?_
  refine wpk_take hS1 h47 1 rfl rfl (by decide) (fr rfl) (by kernel_rfl) (by kernel_rfl) (by kernel_rfl) (fun _ _ _ _ h => h) (.pointer (some ⟨tg, 0, none⟩)) (Or.inl ⟨Eq.refl true, fun w1 hSw => (by show (execOp _ (⟨_, .nilCheck (.tmp 24), _, _, _, _⟩ : Oper)).run _ _ = _; exact (by unfold execOp; simp only [h47.ev 24 rfl]; exact rfl))⟩) fun a50 h49 => ?_
  refine wpk_take hS1 h49 2 rfl rfl (by decide) (fr rfl) (by kernel_rfl) (by kernel_rfl) (by kernel_rfl) (fun _ _ _ _ h => h) (.pointer (some ⟨tg, 0, none⟩)) (Or.inl ⟨Eq.refl true, fun w1 hSw => (by show (execOp _ (⟨_, .fieldAddr 54 (.tmp 25) 0, _, _, _, _⟩ : Oper)).run _ _ = _; exact (by unfold execOp; simp only [h49.ev 25 rfl]; exact run_v (fa_54_0_0 (tg) _)))⟩) fun a52 h51 => ?_
  refine wpk_take hS1 h51 3 rfl rfl (by decide) (fr rfl) (by kernel_rfl) (by kernel_rfl) (by kernel_rfl) (fun _ _ _ _ h => h) (.map (some gm)) (Or.inl ⟨Eq.refl true, fun w1 hSw => (by show (execOp _ (⟨_, .load 51 (.tmp 26), _, _, _, _⟩ : Oper)).run _ _ = _; exact (by unfold execOp; simp only [h51.ev 26 rfl]; exact run_v (loadGM (hSw.1.cell (i := 0) (by show 0 < 2; omega)))))⟩) fun a54 h53 => ?_
  refine wpk_take hS1 h53 4 rfl rfl (by decide) (fr rfl) (by kernel_rfl) (by kernel_rfl) (by kernel_rfl) (fun _ _ _ _ h => h) (.agg (kC c i).toArray) (Or.inl ⟨Eq.refl true, fun w1 hSw => (by show (execOp _ (⟨_, .load 60 (.tmp 7), _, _, _, _⟩ : Oper)).run _ _ = _; exact (by unfold execOp; simp only [h53.ev 7 rfl]; exact run_v (loadStL (L := kC c i) (hSw.2.range) Try.underlying60 (by rw [infoKL]; rfl))))⟩) fun a56 h55 => ?_
  refine wpk_only 5 rfl rfl (by kernel_rfl) fun KK hK => op_dropGL h55 rfl HT5.out.g hk rfl (h55.ev 27 rfl) (h55.ev 28 rfl) fun a58 w6 h57 m6 t6 => hK _ _ ⟨t6.blk HT5.out.t HT5.out.ne.2.1, t6.blk HK5.out (fun e => hkn.2.1 e)⟩ fun hS6 => ?_
  clear hK KK
  refine wpAnyH_done (by kernel_rfl) ?_ _
  have h59 := h57.subs (l' := [(9, _), (7, _), (6, _), (0, _), (1, _), (2, _)]) rfl
  clear h57
  iterate 4 go_step
  have h60 := h59.subs (l' := [(9, _), (7, _), (0, _), (1, _), (2, _)]) rfl
  clear h59
  refine wv h60 rfl rfl rfl rfl (.int .i64 0) rfl fun a62 h61 => ?_
  iterate 4 go_step
  exact bodyPost_ret (results_tmp1 rfl (h61.known (6, .int .i64 0) (by simp))) h61.defs ⟨by rw [hg]; rfl, HT5.out.setG t6 m6, (T1.out.trans T4.out).trans ((Turns.refl _ w4).drew.trans t6)⟩

set_option maxHeartbeats 4000000 in
theorem give_none {w : World} {tg gm wm n m : Nat} {g : GrF} {wt : WtF} (h : TabP w tg gm wm n m g wt) {c i : Int} (hk : wfK (c, i)) (hg : g (c, i) = none) :
    Calls Try.prog 21 #[.pointer (some ⟨tg, 0, none⟩), .int .i64 c, .int .i64 i] w fun e w' => e = .returned (.int .i64 (if (g (c, i)).isSome then 0 else 10)) ∧ TabP w' tg gm wm n m (updG g (c, i) none) wt ∧ Turns (fun k => k = gm) w w' := by
  have HT := hid h; clear h
  go_enter Try.func21, Try.ntmps21
  iterate 3 go_step
  refine wpk_enter (N := 29) (l := [(0, .pointer (some ⟨tg, 0, none⟩)), (1, .int .i64 c), (2, .int .i64 i)]) ⟨rfl, (by intro x hx; simp only [List.mem_cons, List.not_mem_nil, or_false] at hx; rcases hx with rfl | rfl | rfl <;> rfl), rfl⟩ fun a2 h1 => ?_
  refine wv h1 rfl rfl rfl rfl (.int .i64 0) rfl fun a4 h3 => ?_
  iterate 5 go_step
  refine wmk h3 rfl rfl rfl rfl 1 rfl (fun _ => rfl) fun a6 h5 => ?_
  refine wmk h5 rfl rfl rfl rfl 2 rfl (fun _ => rfl) fun a8 h7 => ?_
  refine wv h7 rfl rfl rfl rfl (.agg (kC c i).toArray) (by unfold execOp; simp only [List.map_toArray, List.map_cons, List.map_nil, h7.ev 10 rfl, h7.ev 11 rfl]; exact run_v (buildKL _ _ _)) fun a10 h9 => ?_
  refine wv h9 rfl rfl rfl rfl (.pointer (some ⟨w.heap.size, 0, none⟩)) (run_allocKL rfl _ w) fun a12 h11 => ?_
  obtain ⟨wkb, hwkb⟩ : ∃ y, y = w.alloc (.cells (kC 0 0).toArray 60) := ⟨_, rfl⟩
  obtain ⟨kb, hkb⟩ : ∃ y, y = w.heap.size := ⟨_, rfl⟩
  have Kkb := hid (show Blk wkb kb 60 (kC 0 0) by rw [hwkb, hkb]; exact blk_newO rfl _ _)
  have Hwkb := hid (show TabP wkb tg gm wm n m g wt by rw [hwkb]; exact HT.out.mono (albO _ _))
  have Bwkb := hid (show Below w.heap.size w wkb by rw [hwkb]; exact albO _ _)
  rw [← hkb] at h11; rw [← hwkb]; clear hwkb
  refine wpk_storeP h11 rfl rfl rfl kb 0 (h11.ev 7 rfl) (kC c i) (h11.ev 12 rfl) (by rw [infoKL]; rfl) (kC_one _ _) Kkb.out (by show 0 + 2 ≤ 2; omega) fun a14 w1 h13 kq gq => ?_
  rw [splice_all (by rfl)] at kq
  have hlt := HT.out.lt; have hkn : kb ≠ tg ∧ kb ≠ gm ∧ kb ≠ wm := ⟨by omega, by omega, by omega⟩
  have HK1 := hid kq; have HT1 := hid (Hwkb.out.turns (Turns.of_grown (X := fun k => k = kb) gq rfl) (fun e => hkn.1 e.symm) (fun e => hkn.2.1 e.symm) (fun e => hkn.2.2 e.symm))
  have T1 := hid ((Turns.of_below (X := fun k => k = gm) Bwkb.out).trans' (Turns.of_grown (X := fun k => k = kb) gq rfl) (fun k h1 h2 => by omega)); clear kq gq Kkb
  have h15 := h13.subs (l' := [(7, _), (6, _), (0, _), (1, _), (2, _)]) rfl
  clear h13
  iterate 5 go_step
  have HT2 := hid (HT1.out.mono (Below.refl _ _).drew); have HK2 := hid (HK1.out.mono (Below.refl _ _).drew)
  refine wp_region_held_drew (S := fun w' => TabP w' tg gm wm n m g wt ∧ Blk w' kb 60 (kC c i)) (by kernel_rfl) ⟨HT2.out, HK2.out⟩ (fun hS1 => ?_)
  refine wpk_take hS1 h15 0 rfl rfl (by decide) (fr rfl) (by kernel_rfl) (by kernel_rfl) (by kernel_rfl) (fun _ _ _ _ h => h) (.pointer (some ⟨tg, 0, none⟩)) (Or.inl ⟨Eq.refl true, fun w1 hSw => (by show (execOp _ (⟨_, .move (.tmp 0), _, _, _, _⟩ : Oper)).run _ _ = _; exact (by unfold execOp; simp only [h15.ev 0 rfl]; rfl))⟩) fun a17 h16 => ?_
  refine wpk_take hS1 h16 1 rfl rfl (by decide) (fr rfl) (by kernel_rfl) (by kernel_rfl) (by kernel_rfl) (fun _ _ _ _ h => h) (.pointer (some ⟨tg, 0, none⟩)) (Or.inl ⟨Eq.refl true, fun w1 hSw => (by show (execOp _ (⟨_, .nilCheck (.tmp 14), _, _, _, _⟩ : Oper)).run _ _ = _; exact (by unfold execOp; simp only [h16.ev 14 rfl]; exact rfl))⟩) fun a19 h18 => ?_
  refine wpk_take hS1 h18 2 rfl rfl (by decide) (fr rfl) (by kernel_rfl) (by kernel_rfl) (by kernel_rfl) (fun _ _ _ _ h => h) (.pointer (some ⟨tg, 0, none⟩)) (Or.inl ⟨Eq.refl true, fun w1 hSw => (by show (execOp _ (⟨_, .fieldAddr 54 (.tmp 15) 0, _, _, _, _⟩ : Oper)).run _ _ = _; exact (by unfold execOp; simp only [h18.ev 15 rfl]; exact run_v (fa_54_0_0 (tg) _)))⟩) fun a21 h20 => ?_
  refine wpk_take hS1 h20 3 rfl rfl (by decide) (fr rfl) (by kernel_rfl) (by kernel_rfl) (by kernel_rfl) (fun _ _ _ _ h => h) (.map (some gm)) (Or.inl ⟨Eq.refl true, fun w1 hSw => (by show (execOp _ (⟨_, .load 51 (.tmp 16), _, _, _, _⟩ : Oper)).run _ _ = _; exact (by unfold execOp; simp only [h20.ev 16 rfl]; exact run_v (loadGM (hSw.1.t.cell (i := 0) (by show 0 < 2; omega)))))⟩) fun a23 h22 => ?_
  refine wpk_take hS1 h22 4 rfl rfl (by decide) (fr rfl) (by kernel_rfl) (by kernel_rfl) (by kernel_rfl) (fun _ _ _ _ h => h) (.agg (kC c i).toArray) (Or.inl ⟨Eq.refl true, fun w1 hSw => (by show (execOp _ (⟨_, .load 60 (.tmp 7), _, _, _, _⟩ : Oper)).run _ _ = _; exact (by unfold execOp; simp only [h22.ev 7 rfl]; exact run_v (loadStL (L := kC c i) (hSw.2.range) Try.underlying60 (by rw [infoKL]; rfl))))⟩) fun a25 h24 => ?_
  refine wpk_take hS1 h24 5 rfl rfl (by decide) (fr rfl) (by kernel_rfl) (by kernel_rfl) (by kernel_rfl) (fun _ _ _ _ h => h) (.tuple #[.agg (gC false 0).toArray, .bool false]) (Or.inl ⟨Eq.refl true, fun w1 hSw => (by show (execOp _ (⟨_, .lookup 51 (.tmp 17) (.tmp 18) true, _, _, _, _⟩ : Oper)).run _ _ = _; exact (by unfold execOp; simp only [h24.ev 17 rfl, h24.ev 18 rfl]; exact run_v (lookGN hSw.1.g hk hg)))⟩) fun a27 h26 => ?_
  refine wpk_take hS1 h26 6 rfl rfl (by decide) (fr rfl) (by kernel_rfl) (by kernel_rfl) (by kernel_rfl) (fun _ _ _ _ h => h) (.tuple #[.agg (gC false 0).toArray, .bool false]) (Or.inl ⟨Eq.refl true, fun w1 hSw => (by show (execOp _ (⟨_, .move (.tmp 19), _, _, _, _⟩ : Oper)).run _ _ = _; exact (by unfold execOp; simp only [h26.ev 19 rfl]; rfl))⟩) fun a29 h28 => ?_
  refine wpk_take hS1 h28 7 rfl rfl (by decide) (fr rfl) (by kernel_rfl) (by kernel_rfl) (by kernel_rfl) (fun _ _ _ _ h => h) (.agg (gC false 0).toArray) (Or.inl ⟨Eq.refl true, fun w1 hSw => (by show (execOp _ (⟨_, .extract (.tmp 13) 0, _, _, _, _⟩ : Oper)).run _ _ = _; exact (by unfold execOp; simp only [h28.ev 13 rfl]; exact rfl))⟩) fun a31 h30 => ?_
  refine wpk_take hS1 h30 8 rfl rfl (by decide) (fr rfl) (by kernel_rfl) (by kernel_rfl) (by kernel_rfl) (fun _ _ _ _ h => h) (.bool false) (Or.inl ⟨Eq.refl true, fun w1 hSw => (by show (execOp _ (⟨_, .extract (.tmp 13) 1, _, _, _, _⟩ : Oper)).run _ _ = _; exact (by unfold execOp; simp only [h30.ev 13 rfl]; exact rfl))⟩) fun a33 h32 => ?_
  obtain ⟨w3, hw3⟩ : ∃ y, y = w1.drew.alloc (.cells (gC false 0).toArray 62) := ⟨_, rfl⟩
  obtain ⟨ge, hge⟩ : ∃ y, y = w1.heap.size := ⟨_, rfl⟩
  have k3 : Blk w3 ge 62 (gC false 0) := by rw [hw3, hge]; exact blk_newO rfl _ _
  have t3 := hid (show TabP w3 tg gm wm n m g wt by rw [hw3]; exact HT2.out.mono (albO _ _)); have kk3 := hid (show Blk w3 kb 60 (kC c i) by rw [hw3]; exact HK2.out.mono (albO _ _))
  refine wpk_only 9 rfl rfl (by kernel_rfl) fun KK hK => op_val (w' := w3) h32 rfl (by decide) (fr rfl) (.pointer (some ⟨ge, 0, none⟩)) (by rw [hw3, hge]; exact run_allocGL rfl _ w1.drew) fun a35 h34 => hK _ _ ⟨t3.out, kk3.out⟩ fun hS3 => ?_
  clear hK KK
  obtain ⟨w4, hrun4, k4, g4⟩ := run_storeM (P := Try.prog) (T := 62) (g := ge) (off := 0) (vs := gC false 0) (by rw [infoGL]; rfl) (gC_one _ _) k3 (by show 0 + 2 ≤ 2; omega)
  have hlt3 := t3.out.lt; have hkk := kk3.out.lt; have hk1 := HT1.out.lt; have hk2 := HK1.out.lt
  have t4 := hid (t3.out.turns (Turns.of_grown (X := fun k => k = ge) g4 rfl) (by omega) (by omega) (by omega)); have kk4 := hid ((Turns.of_grown (X := fun k => k = ge) g4 rfl).blk kk3.out (by omega))
  refine wpk_only 10 rfl rfl (by kernel_rfl) fun KK hK => op_skip (w' := w4) h34 rfl (by show (execOp _ (⟨_, .store 62 (.tmp 8) (.tmp 20), _, _, _, _⟩ : Oper)).run _ _ = _; unfold execOp; simp only [h34.ev 8 rfl, h34.ev 20 rfl]; exact run_uP hrun4) fun a37 h36 => hK _ _ ⟨t4.out, kk4.out⟩ fun hS4 => ?_
  clear hK KK
  refine wpk_take hS4 h36 11 rfl rfl (by decide) (fr rfl) (by kernel_rfl) (by kernel_rfl) (by kernel_rfl) (fun _ _ _ _ h => h) (.bool false) (Or.inl ⟨Eq.refl true, fun w1 hSw => (by show (execOp _ (⟨_, .assign (.tmp 21), _, _, _, _⟩ : Oper)).run _ _ = _; exact (by unfold execOp; simp only [h36.ev 21 rfl]; rfl))⟩) fun a39 h38 => ?_
  have T4 := hid ((Turns.of_below (X := fun k => k = gm) (show Below w1.heap.size w1 w3 by rw [hw3]; exact (Below.refl _ _).drew.alloc (Nat.le_refl _) _)).trans' (Turns.of_grown (X := fun k => k = ge) g4 rfl) (fun k h1 h2 => by omega))
  refine wpAnyH_done (by kernel_rfl) ?_ _
  have h40 := h38.subs (l' := [(9, _), (7, _), (6, _), (0, _), (1, _), (2, _)]) rfl
  clear h38
  iterate 4 go_step
  refine wmk h40 rfl rfl rfl rfl 9 rfl (fun _ => rfl) fun a42 h41 => ?_
  refine wv h41 rfl rfl rfl rfl (.bool true) (run_not rfl (h41.ev 22 rfl)) fun a44 h43 => ?_
  have h45 := h43.subs (l' := [(23, _), (9, _), (7, _), (6, _), (0, _), (1, _), (2, _)]) rfl
  clear h43
  iterate 3 go_step
  refine wp_cond (t := true) (h45.ev 23 rfl) ?_
  simp only [if_true]
  have h46 := h45.subs (l' := [(9, _), (7, _), (6, _), (0, _), (1, _), (2, _)]) rfl
  clear h45
  iterate 2 go_step
  have h47 := h46.subs (l' := [(9, _), (7, _), (0, _), (1, _), (2, _)]) rfl
  clear h46
  refine wv h47 rfl rfl rfl rfl (.int .i64 10) rfl fun a49 h48 => ?_
  iterate 4 go_step
  simp only [Exit.then, Exit.inBlock]
  have e : updG g (c, i) none = g := by funext j; by_cases q : j = (c, i) <;> simp [updG, q, hg]
  exact bodyPost_ret (results_tmp1 rfl (h48.known (6, .int .i64 10) (by simp))) h48.defs ⟨by rw [hg]; rfl, by rw [e]; exact t4.out, T1.out.trans T4.out⟩
end Go.Proofs.Ytpalgffmdinfpaa
end
section
namespace Go.Proofs.Ytpalgffmdinfpaa
open Go.RowKit
set_option linter.unusedSimpArgs false
set_option linter.unusedVariables false
set_option maxRecDepth 100000
theorem fa_54_0_1 (g : Nat) (w : World) : (Instr.fieldAt 54 (.pointer (some ⟨g, 0, none⟩)) 1).run Try.prog w = .ok (.pointer (some ⟨g, 1, none⟩)) w := rfl
theorem fa_60_0_0 (g : Nat) (w : World) : (Instr.fieldAt 60 (.pointer (some ⟨g, 0, none⟩)) 0).run Try.prog w = .ok (.pointer (some ⟨g, 0, none⟩)) w := rfl
theorem fa_70_0_0 (g : Nat) (w : World) : (Instr.fieldAt 70 (.pointer (some ⟨g, 0, none⟩)) 0).run Try.prog w = .ok (.pointer (some ⟨g, 0, none⟩)) w := rfl

set_option maxHeartbeats 4000000 in
theorem dropT_any {w : World} {tg gm wm n m : Nat} {g : GrF} {wt : WtF} (h : TabP w tg gm wm n m g wt) (c : Int) :
    Calls Try.prog 18 #[.pointer (some ⟨tg, 0, none⟩), .int .i64 c] w fun e w' => e = .returned (.tuple #[]) ∧ TabP w' tg gm wm n m (dropG c g) (dropW c wt) ∧ Turns (fun k => k = gm ∨ k = wm) w w' := by
  have HT := hid h; clear h
  go_enter Try.func18, Try.ntmps18
  iterate 4 go_step
  refine wpk_enter (N := 44) (l := [(0, .pointer (some ⟨tg, 0, none⟩)), (1, .int .i64 c)]) ⟨rfl, (by intro x hx; simp only [List.mem_cons, List.not_mem_nil, or_false] at hx; rcases hx with rfl | rfl <;> rfl), rfl⟩ fun a2 h1 => ?_
  refine wmk h1 rfl rfl rfl rfl 0 rfl (fun _ => rfl) fun a4 h3 => ?_
  refine wv h3 rfl rfl rfl rfl (.pointer (some ⟨tg, 0, none⟩)) (by unfold execOp; simp only [h3.ev 7 rfl]; exact rfl) fun a6 h5 => ?_
  refine wv h5 rfl rfl rfl rfl (.pointer (some ⟨tg, 0, none⟩)) (by unfold execOp; simp only [h5.ev 8 rfl]; exact run_v (fa_54_0_0 (tg) _)) fun a8 h7 => ?_
  refine wv h7 rfl rfl rfl rfl (.map (some gm)) (by unfold execOp; simp only [h7.ev 9 rfl]; exact run_v (loadGM (HT.out.t.cell (i := 0) (by show 0 < 2; omega)))) fun a10 h9 => ?_
  obtain ⟨wA, hrA, ⟨cntA, RA⟩, bA⟩ := HT.out.g.range
  obtain ⟨rA, hr_A⟩ : ∃ y, y = w.heap.size := ⟨_, rfl⟩
  rw [← hr_A] at hrA RA
  refine wv h9 rfl rfl rfl rfl (.pointer (some ⟨rA, 0, none⟩)) (by unfold execOp; simp only [h9.ev 10 rfl]; exact run_v hrA) fun a12 h11 => ?_
  have HRA := hid RA; have HTA := hid (HT.out.mono bA); have hlt := HT.out.lt; have TA := hid (Turns.of_below (X := fun k => k = gm) bA); have hrA : w.heap.size ≤ rA := by rw [hr_A]; exact Nat.le_refl _
  clear RA bA hrA
  have hrA : w.heap.size ≤ rA := by rw [hr_A]; exact Nat.le_refl _
  have h13 := h11.subs (l' := [(11, _), (0, _), (1, _)]) rfl
  clear h11
  iterate 4 go_step
  have h14 := h13.subs (l' := [(11, _), (1, _), (0, _)]) rfl
  clear h13
  refine wp_loop (I := fun a' w' => ∃ (g' : GrF) (left : Int × Int → Bool) (cnt : Nat), Kn 44 [(11, .pointer (some ⟨rA, 0, none⟩)), (1, .int .i64 c), (0, .pointer (some ⟨tg, 0, none⟩))] a' ∧ RanG KG w' gm rA n g' left cnt ∧ (∀ p, wfK p → g' p = if left p = true then g p else dropG c g p) ∧ Blk w' tg 54 (tabC gm wm) ∧ MapG KW w' wm m wt ∧ Turns (fun k => k = gm) w w') (μ := fun _ w' => w'.rangeLeft gm rA) ⟨g, _, cntA, h14, HRA.out, fun p _ => dropG_start c g p, HTA.out.t, HTA.out.w, TA.out⟩ ?_
  clear HRA TA h14
  rintro aL aw ⟨g', left, cnt, hK, hr, hinv, ht, hw, htt⟩; have HR := hid hr; have HI := hid hinv; have HB := hid ht; have HW := hid hw; have TT := hid htt; clear hr hinv ht hw htt
  have hne := HT.out.ne; have hrl := HR.out.lt; have hrn := HR.out.ne; have hll := HR.out.left_eq
  rcases HR.out.next 0 with ⟨hl, hrun⟩ | ⟨⟨c1, i1⟩, ⟨o, u⟩, w2, cnt2, hok, hlf, hgp, hrun, hr2, hcl, t2, hen⟩
  case inr =>
    have HR2 := hid hr2; have T2 := hid t2; have HB2 := hid (t2.blk HB.out (by omega)); have HW2 := hid (HW.out.turns t2 (by have := HW.out.lt; omega)); clear hr2 t2
    iterate 3 go_step
    refine wv hK rfl rfl rfl rfl (.tuple #[.bool true, .agg (kC c1 i1).toArray, .agg (gC o u).toArray]) (by unfold execOp; simp only [hK.ev 11 rfl]; exact run_v hrun) fun a16 h15 => ?_
    refine wv h15 rfl rfl rfl rfl (.bool true) (by unfold execOp; simp only [h15.ev 12 rfl]; exact rfl) fun a18 h17 => ?_
    have h19 := h17.subs (l' := [(13, _), (11, _), (1, _), (0, _)]) rfl
    clear h17
    iterate 4 go_step
    refine wp_cond (t := true) (h19.ev 13 rfl) ?_
    simp only [if_true]
    have h20 := h19.subs (l' := [(11, _), (1, _), (0, _)]) rfl
    clear h19
    iterate 6 go_step
    refine wv h20 rfl rfl rfl rfl (.tuple #[.agg (kC c1 i1).toArray, .agg (gC o u).toArray]) (by unfold execOp; simp only [h20.ev 11 rfl]; exact run_v hen) fun a22 h21 => ?_
    refine wv h21 rfl rfl rfl rfl (.agg (kC c1 i1).toArray) (by unfold execOp; simp only [h21.ev 14 rfl]; exact rfl) fun a24 h23 => ?_
    refine wv h23 rfl rfl rfl rfl (.pointer (some ⟨w2.heap.size, 0, none⟩)) (run_allocKL rfl _ w2) fun a26 h25 => ?_
    obtain ⟨w3, hw3⟩ : ∃ y, y = w2.alloc (.cells (kC 0 0).toArray 60) := ⟨_, rfl⟩
    obtain ⟨kb, hkb⟩ : ∃ y, y = w2.heap.size := ⟨_, rfl⟩
    have K3 : Blk w3 kb 60 (kC 0 0) := by rw [hw3, hkb]; exact blk_newO rfl _ _
    have b3 : Below w2.heap.size w2 w3 := by rw [hw3]; exact albO _ _
    rw [← hkb] at h25; rw [← hw3]; clear hw3
    refine wpk_storeP h25 rfl rfl rfl kb 0 (h25.ev 4 rfl) (kC c1 i1) (h25.ev 15 rfl) (by rw [infoKL]; rfl) (kC_one _ _) K3 (by show 0 + 2 ≤ 2; omega) fun a28 w4 h27 kq gq => ?_
    rw [splice_all (by rfl)] at kq
    have q1 := HB2.out.lt; have q2 := HW2.out.lt; have q3 := HR2.out.lt; have q4 := HR2.out.map.lt; have q5 := TT.out.size; have q6 := T2.out.size
    have t4 : Turns (fun k => k = kb) w2 w4 := (Turns.of_below b3).trans (Turns.of_grown gq rfl)
    have HK4 := hid kq; have HR4 := hid (HR2.out.turns t4 (by omega) (by omega)); have HB4 := hid (t4.blk HB2.out (by omega)); have HW4 := hid (HW2.out.turns t4 (by omega)); have T4 := hid ((TT.out.trans' T2.out (fun k h1 h2 => by omega)).trans' t4 (fun k h1 h2 => by omega)); clear t4 kq gq b3 K3
    have h29 := h27.subs (l' := [(4, _), (11, _), (1, _), (0, _)]) rfl
    clear h27
    iterate 3 go_step
    by_cases hc : c1 = c
    case pos =>
      iterate 2 go_step
      refine wv h29 rfl rfl rfl rfl (.pointer (some ⟨kb, 0, none⟩)) (by unfold execOp; simp only [h29.ev 4 rfl]; exact run_v (fa_60_0_0 (kb) _)) fun a31 h30 => ?_
      refine wv h30 rfl rfl rfl rfl (.int .i64 c1) (by unfold execOp; simp only [h30.ev 16 rfl]; exact run_v (loadIP (HK4.out.cell (i := 0) (by show 0 < 2; omega)))) fun a33 h32 => ?_
      refine wmk h32 rfl rfl rfl rfl 1 rfl (fun _ => rfl) fun a35 h34 => ?_
      refine wv h34 rfl rfl rfl rfl (.bool true) (by unfold execOp; simp only [h34.ev 17 rfl, h34.ev 18 rfl]; exact run_v (eqIP _ _ _ _ _ (beq_iff_eq.2 (by omega)))) fun a37 h36 => ?_
      have h38 := h36.subs (l' := [(19, _), (4, _), (11, _), (1, _), (0, _)]) rfl
      clear h36
      iterate 3 go_step
      refine wp_cond (t := true) (h38.ev 19 rfl) ?_
      simp only [if_true]
      have h39 := h38.subs (l' := [(4, _), (11, _), (1, _), (0, _)]) rfl
      clear h38
      have HR5 := hid (HR4.out.mono (Below.refl _ _).drew); have HK5 := hid (HK4.out.mono (Below.refl _ _).drew); have HB5 := hid (HB4.out.mono (Below.refl _ _).drew); have HW5 := hid (HW4.out.mono (Below.refl _ _).drew)
      refine wp_region_held_drew (S := fun w' => Blk w' tg 54 (tabC gm wm) ∧ Blk w' kb 60 (kC c1 i1)) (by kernel_rfl) ⟨HB5.out, HK5.out⟩ (fun hS1 => ?_)
      refine wpk_take hS1 h39 0 rfl rfl (by decide) (fr rfl) (by kernel_rfl) (by kernel_rfl) (by kernel_rfl) (fun _ _ _ _ h => h) (.pointer (some ⟨tg, 0, none⟩)) (Or.inl ⟨Eq.refl true, fun w1 hSw => (by show (execOp _ (⟨_, .move (.tmp 0), _, _, _, _⟩ : Oper)).run _ _ = _; exact (by unfold execOp; simp only [h39.ev 0 rfl]; rfl))⟩) fun a41 h40 => ?_
      refine wpk_take hS1 h40 1 rfl rfl (by decide) (fr rfl) (by kernel_rfl) (by kernel_rfl) (by kernel_rfl) (fun _ _ _ _ h => h) (.pointer (some ⟨tg, 0, none⟩)) (Or.inl ⟨Eq.refl true, fun w1 hSw => (by show (execOp _ (⟨_, .nilCheck (.tmp 20), _, _, _, _⟩ : Oper)).run _ _ = _; exact (by unfold execOp; simp only [h40.ev 20 rfl]; exact rfl))⟩) fun a43 h42 => ?_
      refine wpk_take hS1 h42 2 rfl rfl (by decide) (fr rfl) (by kernel_rfl) (by kernel_rfl) (by kernel_rfl) (fun _ _ _ _ h => h) (.pointer (some ⟨tg, 0, none⟩)) (Or.inl ⟨Eq.refl true, fun w1 hSw => (by show (execOp _ (⟨_, .fieldAddr 54 (.tmp 21) 0, _, _, _, _⟩ : Oper)).run _ _ = _; exact (by unfold execOp; simp only [h42.ev 21 rfl]; exact run_v (fa_54_0_0 (tg) _)))⟩) fun a45 h44 => ?_
      refine wpk_take hS1 h44 3 rfl rfl (by decide) (fr rfl) (by kernel_rfl) (by kernel_rfl) (by kernel_rfl) (fun _ _ _ _ h => h) (.map (some gm)) (Or.inl ⟨Eq.refl true, fun w1 hSw => (by show (execOp _ (⟨_, .load 51 (.tmp 22), _, _, _, _⟩ : Oper)).run _ _ = _; exact (by unfold execOp; simp only [h44.ev 22 rfl]; exact run_v (loadGM (hSw.1.cell (i := 0) (by show 0 < 2; omega)))))⟩) fun a47 h46 => ?_
      refine wpk_take hS1 h46 4 rfl rfl (by decide) (fr rfl) (by kernel_rfl) (by kernel_rfl) (by kernel_rfl) (fun _ _ _ _ h => h) (.agg (kC c1 i1).toArray) (Or.inl ⟨Eq.refl true, fun w1 hSw => (by show (execOp _ (⟨_, .load 60 (.tmp 4), _, _, _, _⟩ : Oper)).run _ _ = _; exact (by unfold execOp; simp only [h46.ev 4 rfl]; exact run_v (loadStL (L := kC c1 i1) (hSw.2.range) Try.underlying60 (by rw [infoKL]; rfl))))⟩) fun a49 h48 => ?_
      refine wpk_only 5 rfl rfl (by kernel_rfl) fun KK hKK => op_dropRL h48 rfl HR5.out hok rfl (h48.ev 23 rfl) (h48.ev 24 rfl) fun a51 w6 cnt6 h50 m6 hc6 t6 => hKK _ _ ⟨t6.blk HB5.out hne.2.1, t6.blk HK5.out (by omega)⟩ fun hS6 => ?_
      clear hKK KK
      refine wpAnyH_done (by kernel_rfl) ?_ _
      have h52 := h50.subs (l' := [(4, _), (11, _), (1, _), (0, _)]) rfl
      clear h50
      go_step
      refine ⟨⟨_, _, cnt6, h52.subs rfl, m6, fun q hq => ?_, hS6.1, HW5.out.turns t6 (fun e => hne.1 e.symm), T4.out.trans ((Turns.refl _ w4).drew.trans t6)⟩, ?_⟩
      · by_cases e : q = (c1, i1)
        · subst e; rw [updG_same]; simp [dropG, hc]
        · rw [updG_ne _ _ e, HI.out q hq]; simp [e]
      · rw [m6.left_eq, hll]; omega
    iterate 2 go_step
    refine wv h29 rfl rfl rfl rfl (.pointer (some ⟨kb, 0, none⟩)) (by unfold execOp; simp only [h29.ev 4 rfl]; exact run_v (fa_60_0_0 (kb) _)) fun a54 h53 => ?_
    refine wv h53 rfl rfl rfl rfl (.int .i64 c1) (by unfold execOp; simp only [h53.ev 16 rfl]; exact run_v (loadIP (HK4.out.cell (i := 0) (by show 0 < 2; omega)))) fun a56 h55 => ?_
    refine wmk h55 rfl rfl rfl rfl 1 rfl (fun _ => rfl) fun a58 h57 => ?_
    refine wv h57 rfl rfl rfl rfl (.bool false) (by unfold execOp; simp only [h57.ev 17 rfl, h57.ev 18 rfl]; exact run_v (eqIP _ _ _ _ _ (beq_eq_false_iff_ne.2 (by omega)))) fun a60 h59 => ?_
    have h61 := h59.subs (l' := [(19, _), (4, _), (11, _), (1, _), (0, _)]) rfl
    clear h59
    iterate 3 go_step
    refine wp_cond (t := false) (h61.ev 19 rfl) ?_
    simp only [Bool.false_eq_true, if_false]
    have h62 := h61.subs (l' := [(4, _), (11, _), (1, _), (0, _)]) rfl
    clear h61
    iterate 2 go_step
    refine ⟨⟨g', _, cnt2, h62.subs rfl, HR4.out, fun q hq => ?_, HB4.out, HW4.out, T4.out⟩, ?_⟩
    · by_cases e : q = (c1, i1)
      · subst e; rw [HI.out _ hq, hlf]; simp [dropG, hc]
      · rw [HI.out q hq]; simp [e]
    · rw [HR4.out.left_eq, hll]; omega
  iterate 3 go_step
  refine wv hK rfl rfl rfl rfl (.tuple #[.bool false]) (by unfold execOp; simp only [hK.ev 11 rfl]; exact run_v hrun) fun a64 h63 => ?_
  refine wv h63 rfl rfl rfl rfl (.bool false) (by unfold execOp; simp only [h63.ev 12 rfl]; exact rfl) fun a66 h65 => ?_
  have h67 := h65.subs (l' := [(13, _), (11, _), (1, _), (0, _)]) rfl
  clear h65
  iterate 4 go_step
  refine wp_cond (t := false) (h67.ev 13 rfl) ?_
  simp only [Bool.false_eq_true, if_false]
  have h68 := h67.subs (l' := [(11, _), (1, _), (0, _)]) rfl
  clear h67
  iterate 4 go_step
  have HT2 : Hid (TabP aw tg gm wm n m (dropG c g) wt) := hid ⟨HB.out, HR.out.map.congr (fun p hp => by rw [HI.out p hp, hl p hp]; rfl), HW.out, HT.out.ne⟩
  clear HR HI HB HW hrun
  iterate 3 go_step
  refine wmk h68 rfl rfl rfl rfl 0 rfl (fun _ => rfl) fun a70 h69 => ?_
  refine wv h69 rfl rfl rfl rfl (.pointer (some ⟨tg, 0, none⟩)) (by unfold execOp; simp only [h69.ev 25 rfl]; exact rfl) fun a72 h71 => ?_
  refine wv h71 rfl rfl rfl rfl (.pointer (some ⟨tg, 1, none⟩)) (by unfold execOp; simp only [h71.ev 26 rfl]; exact run_v (fa_54_0_1 (tg) _)) fun a74 h73 => ?_
  refine wv h73 rfl rfl rfl rfl (.map (some wm)) (by unfold execOp; simp only [h73.ev 27 rfl]; exact run_v (loadWM (HT2.out.t.cell (i := 1) (by show 1 < 2; omega)))) fun a76 h75 => ?_
  obtain ⟨wB, hrB, ⟨cntB, RB⟩, bB⟩ := HT2.out.w.range
  obtain ⟨rB, hr_B⟩ : ∃ y, y = aw.heap.size := ⟨_, rfl⟩
  rw [← hr_B] at hrB RB
  refine wv h75 rfl rfl rfl rfl (.pointer (some ⟨rB, 0, none⟩)) (by unfold execOp; simp only [h75.ev 28 rfl]; exact run_v hrB) fun a78 h77 => ?_
  have HRB := hid RB; have HTB := hid (HT2.out.mono bB); have TB := hid (TT.out.trans (Turns.of_below (X := fun k => k = gm) bB)); have hrB : w.heap.size ≤ rB := by rw [hr_B]; exact TT.out.size
  clear RB bB
  have h79 := h77.subs (l' := [(29, _), (11, _), (1, _), (0, _)]) rfl
  clear h77
  iterate 4 go_step
  have h80 := h79.subs (l' := [(29, _), (1, _), (0, _)]) rfl
  clear h79
  refine wp_loop (I := fun a' w' => ∃ (t' : WtF) (left : Int → Bool) (cnt : Nat), Kn 44 [(29, .pointer (some ⟨rB, 0, none⟩)), (1, .int .i64 c), (0, .pointer (some ⟨tg, 0, none⟩))] a' ∧ RanG KW w' wm rB m t' left cnt ∧ (∀ p, (Lit.int .i64 p).wf = true → t' p = if left p = true then wt p else dropW c wt p) ∧ Blk w' tg 54 (tabC gm wm) ∧ MapG KG w' gm n (dropG c g) ∧ Turns (fun k => k = gm ∨ k = wm) w w') (μ := fun _ w' => w'.rangeLeft wm rB) ⟨wt, _, cntB, h80, HRB.out, fun p _ => dropW_start c wt p, HTB.out.t, HTB.out.g, TB.out.mono (fun k e => .inl e)⟩ ?_
  clear HRB TB HTB HT2 TT h80
  rintro aL2 aw2 ⟨t', left2, cnt2, hK2, hr, hinv, ht, hw, htt⟩; have HR := hid hr; have HI := hid hinv; have HB := hid ht; have HG := hid hw; have TT := hid htt; clear hr hinv ht hw htt
  have hrl := HR.out.lt; have hrn := HR.out.ne; have hll := HR.out.left_eq
  rcases HR.out.next 0 with ⟨hl2, hrun⟩ | ⟨i1, ⟨cl, un⟩, w2, cnt3, hok, hlf, hgp, hrun, hr2, hcl, t2, hen⟩
  case inr =>
    have HR2 := hid hr2; have T2 := hid t2; have HB2 := hid (t2.blk HB.out (by omega)); have HG2 := hid (HG.out.turns t2 (by have := HG.out.lt; omega)); clear hr2 t2
    iterate 3 go_step
    refine wv hK2 rfl rfl rfl rfl (.tuple #[.bool true, .int .i64 i1, .agg (kC cl un).toArray]) (by unfold execOp; simp only [hK2.ev 29 rfl]; exact run_v hrun) fun a82 h81 => ?_
    refine wv h81 rfl rfl rfl rfl (.bool true) (by unfold execOp; simp only [h81.ev 30 rfl]; exact rfl) fun a84 h83 => ?_
    have h85 := h83.subs (l' := [(31, _), (29, _), (1, _), (0, _)]) rfl
    clear h83
    iterate 4 go_step
    refine wp_cond (t := true) (h85.ev 31 rfl) ?_
    simp only [if_true]
    have h86 := h85.subs (l' := [(29, _), (1, _), (0, _)]) rfl
    clear h85
    iterate 6 go_step
    refine wv h86 rfl rfl rfl rfl (.tuple #[.int .i64 i1, .agg (kC cl un).toArray]) (by unfold execOp; simp only [h86.ev 29 rfl]; exact run_v hen) fun a88 h87 => ?_
    refine wv h87 rfl rfl rfl rfl (.int .i64 i1) (by unfold execOp; simp only [h87.ev 32 rfl]; exact rfl) fun a90 h89 => ?_
    refine wv h89 rfl rfl rfl rfl (.agg (kC cl un).toArray) (by unfold execOp; simp only [h89.ev 32 rfl]; exact rfl) fun a92 h91 => ?_
    refine wv h91 rfl rfl rfl rfl (.pointer (some ⟨w2.heap.size, 0, none⟩)) (run_allocWL rfl _ w2) fun a94 h93 => ?_
    obtain ⟨w3, hw3⟩ : ∃ y, y = w2.alloc (.cells (kC 0 0).toArray 70) := ⟨_, rfl⟩
    obtain ⟨kb, hkb⟩ : ∃ y, y = w2.heap.size := ⟨_, rfl⟩
    have K3 : Blk w3 kb 70 (kC 0 0) := by rw [hw3, hkb]; exact blk_newO rfl _ _
    have b3 : Below w2.heap.size w2 w3 := by rw [hw3]; exact albO _ _
    rw [← hkb] at h93; rw [← hw3]; clear hw3
    refine wmk h93 rfl rfl rfl rfl 33 rfl (fun _ => rfl) fun a96 h95 => ?_
    refine wpk_storeP h95 rfl rfl rfl kb 0 (h95.ev 6 rfl) (kC cl un) (h95.ev 34 rfl) (by rw [infoWL]; rfl) (kC_one _ _) K3 (by show 0 + 2 ≤ 2; omega) fun a98 w4 h97 kq gq => ?_
    rw [splice_all (by rfl)] at kq
    have q1 := HB2.out.lt; have q2 := HG2.out.lt; have q3 := HR2.out.lt; have q4 := HR2.out.map.lt; have q5 := TT.out.size; have q6 := T2.out.size
    have t4 : Turns (fun k => k = kb) w2 w4 := (Turns.of_below b3).trans (Turns.of_grown gq rfl)
    have HK4 := hid kq; have HR4 := hid (HR2.out.turns t4 (by omega) (by omega)); have HB4 := hid (t4.blk HB2.out (by omega)); have HG4 := hid (HG2.out.turns t4 (by omega)); have T4 := hid ((TT.out.trans' T2.out (fun k h1 h2 => by omega)).trans' t4 (fun k h1 h2 => by omega)); clear t4 kq gq b3 K3
    have h99 := h97.subs (l' := [(5, _), (6, _), (29, _), (1, _), (0, _)]) rfl
    clear h97
    iterate 3 go_step
    have hgp2 : wt i1 = some (cl, un) := by have z := HI.out i1 hok; rw [hgp, hlf] at z; simpa using z.symm
    by_cases hc : cl = c
    case pos =>
      iterate 2 go_step
      refine wv h99 rfl rfl rfl rfl (.pointer (some ⟨kb, 0, none⟩)) (by unfold execOp; simp only [h99.ev 6 rfl]; exact run_v (fa_70_0_0 (kb) _)) fun a101 h100 => ?_
      refine wv h100 rfl rfl rfl rfl (.int .i64 cl) (by unfold execOp; simp only [h100.ev 35 rfl]; exact run_v (loadIP (HK4.out.cell (i := 0) (by show 0 < 2; omega)))) fun a103 h102 => ?_
      refine wmk h102 rfl rfl rfl rfl 1 rfl (fun _ => rfl) fun a105 h104 => ?_
      refine wv h104 rfl rfl rfl rfl (.bool true) (by unfold execOp; simp only [h104.ev 36 rfl, h104.ev 37 rfl]; exact run_v (eqIP _ _ _ _ _ (beq_iff_eq.2 (by omega)))) fun a107 h106 => ?_
      have h108 := h106.subs (l' := [(38, _), (5, _), (6, _), (29, _), (1, _), (0, _)]) rfl
      clear h106
      iterate 3 go_step
      refine wp_cond (t := true) (h108.ev 38 rfl) ?_
      simp only [if_true]
      have h109 := h108.subs (l' := [(5, _), (6, _), (29, _), (1, _), (0, _)]) rfl
      clear h108
      go_step
      refine wmk h109 rfl rfl rfl rfl 0 rfl (fun _ => rfl) fun a111 h110 => ?_
      refine wv h110 rfl rfl rfl rfl (.pointer (some ⟨tg, 0, none⟩)) (by unfold execOp; simp only [h110.ev 39 rfl]; exact rfl) fun a113 h112 => ?_
      refine wv h112 rfl rfl rfl rfl (.pointer (some ⟨tg, 1, none⟩)) (by unfold execOp; simp only [h112.ev 40 rfl]; exact run_v (fa_54_0_1 (tg) _)) fun a115 h114 => ?_
      refine wv h114 rfl rfl rfl rfl (.map (some wm)) (by unfold execOp; simp only [h114.ev 41 rfl]; exact run_v (loadWM (HB4.out.cell (i := 1) (by show 1 < 2; omega)))) fun a117 h116 => ?_
      refine wmk h116 rfl rfl rfl rfl 5 rfl (fun _ => rfl) fun a119 h118 => ?_
      refine wpk_dropRW h118 rfl rfl HR4.out hok rfl (h118.ev 42 rfl) (h118.ev 43 rfl) fun a121 w6 cnt6 h120 m6 hc6 t6 => ?_
      have h122 := h120.subs (l' := [(5, _), (6, _), (29, _), (1, _), (0, _)]) rfl
      clear h120
      iterate 2 go_step
      refine ⟨⟨_, _, cnt6, h122.subs rfl, m6, fun q hq => ?_, t6.blk HB4.out hne.2.2, HG4.out.turns t6 hne.1, T4.out.trans (t6.mono (fun k e => .inr e))⟩, ?_⟩
      · by_cases e : q = i1
        · subst e; rw [updG_same]; simp [dropW, hgp2, hc]
        · rw [updG_ne _ _ e, HI.out q hq]; simp [e]
      · rw [m6.left_eq, hll]; omega
    iterate 2 go_step
    refine wv h99 rfl rfl rfl rfl (.pointer (some ⟨kb, 0, none⟩)) (by unfold execOp; simp only [h99.ev 6 rfl]; exact run_v (fa_70_0_0 (kb) _)) fun a124 h123 => ?_
    refine wv h123 rfl rfl rfl rfl (.int .i64 cl) (by unfold execOp; simp only [h123.ev 35 rfl]; exact run_v (loadIP (HK4.out.cell (i := 0) (by show 0 < 2; omega)))) fun a126 h125 => ?_
    refine wmk h125 rfl rfl rfl rfl 1 rfl (fun _ => rfl) fun a128 h127 => ?_
    refine wv h127 rfl rfl rfl rfl (.bool false) (by unfold execOp; simp only [h127.ev 36 rfl, h127.ev 37 rfl]; exact run_v (eqIP _ _ _ _ _ (beq_eq_false_iff_ne.2 (by omega)))) fun a130 h129 => ?_
    have h131 := h129.subs (l' := [(38, _), (5, _), (6, _), (29, _), (1, _), (0, _)]) rfl
    clear h129
    iterate 3 go_step
    refine wp_cond (t := false) (h131.ev 38 rfl) ?_
    simp only [Bool.false_eq_true, if_false]
    have h132 := h131.subs (l' := [(5, _), (6, _), (29, _), (1, _), (0, _)]) rfl
    clear h131
    iterate 2 go_step
    refine ⟨⟨t', _, cnt3, h132.subs rfl, HR4.out, fun q hq => ?_, HB4.out, HG4.out, T4.out⟩, ?_⟩
    · by_cases e : q = i1
      · subst e; rw [HI.out _ hq, hlf]; simp [dropW, hgp2, hc]
      · rw [HI.out q hq]; simp [e]
    · rw [HR4.out.left_eq, hll]; omega
  iterate 3 go_step
  refine wv hK2 rfl rfl rfl rfl (.tuple #[.bool false]) (by unfold execOp; simp only [hK2.ev 29 rfl]; exact run_v hrun) fun a134 h133 => ?_
  refine wv h133 rfl rfl rfl rfl (.bool false) (by unfold execOp; simp only [h133.ev 30 rfl]; exact rfl) fun a136 h135 => ?_
  have h137 := h135.subs (l' := [(31, _), (29, _), (1, _), (0, _)]) rfl
  clear h135
  iterate 4 go_step
  refine wp_cond (t := false) (h137.ev 31 rfl) ?_
  simp only [Bool.false_eq_true, if_false]
  have h138 := h137.subs (l' := [(29, _), (1, _), (0, _)]) rfl
  clear h137
  iterate 4 go_step
  exact ⟨h138.defs, _, results_nil rfl, rfl, ⟨HB.out, HG.out, HR.out.map.congr (fun p hp => by rw [HI.out p hp, hl2 p hp]; rfl), HT.out.ne⟩, TT.out⟩
end Go.Proofs.Ytpalgffmdinfpaa
end
section
namespace Go.Proofs.Ytpalgffmdinfpaa
open Go.Shelf
def shI_ren : Go.Shelf.Ren := ⟨fun | 189 => 29 | 125 => 33 | 257 => 34 | 128 => 43 | 129 => 44 | 294 => 45 | 295 => 46 | 296 => 47 | 297 => 48 | 298 => 49 | 299 => 50 | 216 => 51 | 300 => 52 | 301 => 53 | 328 => 59 | 329 => 55 | 330 => 56 | 331 => 60 | 332 => 61 | 215 => 62 | 343 => 64 | n => n, fun | 28 => 38 | 3 => 3 | 46 => 76 | 0 => 0 | 51 => 87 | 53 => 89 | 4 => 4 | 183 => 80 | 182 => 79 | 131 => 84 | 5 => 5 | 9 => 9 | 218 => 95 | 222 => 99 | 228 => 104 | 229 => 105 | n => n, fun | n => n⟩
theorem shI : Go.Proofs.Lays.n189 Try.prog shI_ren := {
  mixed := by kernel_rfl
  f125 := Try.func33.trans (congrArg some (by kernel_rfl))
  f128 := Try.func43.trans (congrArg some (by kernel_rfl))
  f129 := Try.func44.trans (congrArg some (by kernel_rfl))
  f189 := Try.func29.trans (congrArg some (by kernel_rfl))
  f215 := Try.func62.trans (congrArg some (by kernel_rfl))
  f216 := Try.func51.trans (congrArg some (by kernel_rfl))
  f257 := Try.func34.trans (congrArg some (by kernel_rfl))
  f294 := Try.func45.trans (congrArg some (by kernel_rfl))
  f295 := Try.func46.trans (congrArg some (by kernel_rfl))
  f296 := Try.func47.trans (congrArg some (by kernel_rfl))
  f297 := Try.func48.trans (congrArg some (by kernel_rfl))
  f298 := Try.func49.trans (congrArg some (by kernel_rfl))
  f299 := Try.func50.trans (congrArg some (by kernel_rfl))
  f300 := Try.func52.trans (congrArg some (by kernel_rfl))
  f301 := Try.func53.trans (congrArg some (by kernel_rfl))
  f328 := Try.func59.trans (congrArg some (by kernel_rfl))
  f329 := Try.func55.trans (congrArg some (by kernel_rfl))
  f330 := Try.func56.trans (congrArg some (by kernel_rfl))
  f331 := Try.func60.trans (congrArg some (by kernel_rfl))
  f332 := Try.func61.trans (congrArg some (by kernel_rfl))
  f343 := Try.func64.trans (congrArg some (by kernel_rfl))
  t0 := Try.underlying0
  a0 := Try.isAgg0
  z0 := Try.sizeOf0
  v0 := Try.zeroValue0
  t3 := Try.underlying3
  a3 := Try.isAgg3
  z3 := Try.sizeOf3
  v3 := Try.zeroValue3
  t4 := Try.underlying4
  a4 := Try.isAgg4
  z4 := Try.sizeOf4
  v4 := Try.zeroValue4
  t5 := Try.underlying5
  a5 := Try.isAgg5
  z5 := Try.sizeOf5
  v5 := Try.zeroValue5
  t9 := Try.underlying9
  a9 := Try.isAgg9
  z9 := Try.sizeOf9
  v9 := Try.zeroValue9
  t28 := Try.underlying38
  a28 := Try.isAgg38
  z28 := Try.sizeOf38
  v28 := Try.zeroValue38
  t46 := Try.underlying76
  a46 := Try.isAgg76
  z46 := Try.sizeOf76
  v46 := Try.zeroValue76
  t51 := Try.underlying87
  a51 := Try.isAgg87
  z51 := Try.sizeOf87
  v51 := Try.zeroValue87
  t53 := Try.underlying89
  a53 := Try.isAgg89
  z53 := Try.sizeOf89
  v53 := Try.zeroValue89
  t131 := Try.underlying84
  a131 := Try.isAgg84
  z131 := Try.sizeOf84
  v131 := Try.zeroValue84
  t182 := Try.underlying79
  a182 := Try.isAgg79
  z182 := Try.sizeOf79
  v182 := Try.zeroValue79
  t183 := Try.underlying80
  a183 := Try.isAgg80
  z183 := Try.sizeOf80
  v183 := Try.zeroValue80
  t218 := Try.underlying95
  a218 := Try.isAgg95
  z218 := Try.sizeOf95
  v218 := Try.zeroValue95
  t222 := Try.underlying99
  a222 := Try.isAgg99
  z222 := Try.sizeOf99
  v222 := Try.zeroValue99
  t228 := Try.underlying104
  a228 := Try.isAgg104
  z228 := Try.sizeOf104
  v228 := Try.zeroValue104
  t229 := Try.underlying105
  a229 := Try.isAgg105
  z229 := Try.sizeOf105
  v229 := Try.zeroValue105 }
open Go.Sort Go.RowKit in
theorem slices_Sort_int (blk off cap : Nat) (zs : List Int) (w : World) (hH : Holds (Value.int .i64) w blk off zs.toArray) (hblk : blk < w.heap.size) (hsz : zs.length < 4611686018427387904) :
    Calls Try.prog 29 #[.slice (some ⟨blk, off, none⟩) zs.length cap] w fun e w' =>
      e = .returned (.tuple #[]) ∧ ∃ n os, w' = grow (putRow (Value.int .i64) (Sort.ahead w n) blk off (zs.mergeSort fun x y => decide (x ≤ y)).toArray) os := Any.slices_Sort_int shI blk off cap zs w hH hblk hsz
def shC_ren : Go.Shelf.Ren := ⟨fun | 20 => 30 | n => n, fun | 22 => 38 | 3 => 3 | 4 => 4 | 0 => 0 | n => n, fun | n => n⟩
theorem shC : Go.Proofs.Lays2.n20 Try.prog shC_ren := {
  mixed := by kernel_rfl
  f20 := Try.func30.trans (congrArg some (by kernel_rfl))
  t0 := Try.underlying0
  a0 := Try.isAgg0
  z0 := Try.sizeOf0
  v0 := Try.zeroValue0
  t3 := Try.underlying3
  a3 := Try.isAgg3
  z3 := Try.sizeOf3
  v3 := Try.zeroValue3
  t4 := Try.underlying4
  a4 := Try.isAgg4
  z4 := Try.sizeOf4
  v4 := Try.zeroValue4
  t22 := Try.underlying38
  a22 := Try.isAgg38
  z22 := Try.sizeOf38
  v22 := Try.zeroValue38
  i3 := by kernel_rfl }
open Go.RowKit Go.Lib Go.Sort in
/-- slices.Compact at []int: "Compact replaces consecutive runs of equal elements with a single copy. This is like the uniq command found on Unix. Compact modifies the contents of the slice s and returns the modified slice, which may have a smaller length. Compact zeroes the elements between the new length and the original length. The result preserves the nilness of s.": IT RETURNS THE SLICE CUT TO 'Lib.compact zs'; ITS CELLS HOLD 'Lib.compact zs', THEN ZERO VALUES up to the old length; all else is as it was, but for the count of draws. IN THE WORDS OF slices.Sort's CONTRACT ('Holds', 'putRow'): so the everyday 'slices.Sort(xs); xs = slices.Compact(xs)' goes from the one contract to the other. It asks 'zs.length ≤ cap' (every slice's: the reslicing 's[:k]' looks at it). Length 0, nil: '.._empty'. (LAID: no walk: one application.) -/
theorem slices_Compact_int (blk off cap : Nat) (zs : List Int) (w : World) (hH : Holds (Value.int .i64) w blk off zs.toArray) (hsz : zs.length ≤ 9223372036854775807) (hcap : zs.length ≤ cap) :
    Calls Try.prog 30 #[.slice (some ⟨blk, off, none⟩) zs.length cap] w fun e w' => e = .returned (.slice (some ⟨blk, off, none⟩) (Lib.compact zs).length cap) ∧ ∃ q, w' = putRow (Value.int .i64) (Sort.ahead w q) blk off (Lib.compact zs ++ List.replicate (zs.length - (Lib.compact zs).length) 0).toArray := Any.slices_Compact_int shC blk off cap zs w hH hsz hcap
open Go.RowKit Go.Lib Go.Sort in
/-- The same at a slice of length 0, a nil one too: it comes back as it is. (LAID: no walk: one application.) -/
theorem slices_Compact_int_empty (a : Option Addr) (cap : Nat) (w : World) :
    Calls Try.prog 30 #[.slice a 0 cap] w fun e w' => e = .returned (.slice a 0 cap) ∧ w' = w := Any.slices_Compact_int_empty shC a cap w
open Go.RowKit Go.Sort in
/-- .. and plain. (LAID: no walk: one application.) -/
theorem slices_Sort_int_none (p : Option Addr) (cap : Nat) (w : World) :
    Calls Try.prog 29 #[.slice p 0 cap] w fun e w' => e = .returned (.tuple #[]) ∧ w' = w := Any.slices_Sort_int_none shI p cap w
end Go.Proofs.Ytpalgffmdinfpaa
end
section
namespace Go.Proofs.Ytpalgffmdinfpaa
open Go.RowKit Go.Sort
set_option linter.unusedSimpArgs false
set_option linter.unusedVariables false
set_option maxRecDepth 100000

abbrev OwnI (w : World) (B : Nat) (a : Option Addr) (c : Nat) (L : List Int) : Prop := Own w B 3 1 a L.length c (L.map iV)
def sortI (L : List Int) : List Int := L.mergeSort fun x y => decide (x ≤ y)
theorem sortI_len (L : List Int) : (sortI L).length = L.length := by unfold sortI; simp
theorem sortI_any (a : Option Addr) (c : Nat) (L : List Int) (w : World) (B : Nat) (h : OwnI w B a c L) (hB : B ≤ w.heap.size) (hn : L.length ≤ 1000) :
    Calls Try.prog 29 #[.slice a L.length c] w fun e w' => e = .returned (.tuple #[]) ∧ OwnI w' B a c (sortI L) ∧ Turns (fun k => some k = a.map (·.block)) w w' ∧ Below B w w' := by
  have h' := h
  rcases h.2 with ⟨hnil, h0⟩ | ⟨g, cap, cur, hv, hbase, hb, h1, h2, h3, h4⟩
  · have hl : L = [] := List.eq_nil_of_length_eq_zero h0
    subst hl
    exact (slices_Sort_int_none a c w).mono fun e w' q => ⟨q.1, by rw [q.2, show sortI [] = [] by unfold sortI; simp]; exact h', by rw [q.2]; exact Turns.refl _ _, by rw [q.2]; exact Below.refl _ _⟩
  · cases hv
    have hh : Sort.Holds (Value.int .i64) w g 0 L.toArray := holds_of_blockI hb (by have z : cur.toList.take (L.length * 1) = L.map iV := h4; rw [Nat.mul_one] at z; exact z)
    have hg : g < w.heap.size := (Array.getElem?_eq_some_iff.1 hb).1
    refine (slices_Sort_int g 0 c L w hh hg (by omega)).mono fun e w' q => ?_
    obtain ⟨q1, n, os, rfl⟩ := q
    have G := grownBy_sortedI (w := w) (g := g) (n := n) (os := os) (sortI L).toArray
    refine ⟨q1, ?_, Turns.of_grown (X := fun k => some k = (some (⟨g, 0, none⟩ : Addr)).map (·.block)) G rfl, (Below.refl _ w).grown G hB (fun q hq => by cases hq; exact hbase)⟩
    unfold OwnI
    rw [sortI_len]
    exact ownsRow_sortedI (n := n) (os := os) (ss := L) (ts := sortI L) (sortI_len L) hbase hb h1 h2 h3
def GrOk (g : GrF) : Prop := ∀ p a, g p = some a → 1 ≤ p.1 ∧ p.1 ≤ 8 ∧ 1 ≤ p.2 ∧ p.2 ≤ 32
def confB (g : GrF) (c i : Int) (own : Bool) (k : Int) : Bool := match g (k, i) with | some a => decide (k ≠ c) && (own || a.1) | none => false
def all8 : List Int := [1, 2, 3, 4, 5, 6, 7, 8]
def agL (g : GrF) (c i : Int) (own : Bool) : List Int := all8.filter (confB g c i own)
theorem mem_all8 {k : Int} : k ∈ all8 ↔ 1 ≤ k ∧ k ≤ 8 := by unfold all8; simp; omega
theorem agL_mem {g : GrF} (h : GrOk g) {c i : Int} {own : Bool} {k : Int} : k ∈ agL g c i own ↔ confB g c i own k = true := by
  unfold agL
  rw [List.mem_filter, mem_all8]
  refine ⟨fun q => q.2, fun q => ⟨?_, q⟩⟩
  unfold confB at q
  split at q
  · rename_i a ha
    have := h _ _ ha
    exact ⟨this.1, this.2.1⟩
  · cases q
theorem agL_lt (g : GrF) (c i : Int) (own : Bool) : (agL g c i own).Pairwise (fun x y => x < y) := List.Pairwise.filter _ (by unfold all8; simp)
theorem sortI_eq {L M : List Int} (h1 : L.Nodup) (h2 : M.Pairwise (fun x y => x < y)) (h : ∀ k, k ∈ L ↔ k ∈ M) : sortI L = M := by
  unfold sortI
  refine List.Perm.eq_of_pairwise (le := fun a b => decide (a ≤ b) = true) (fun a b _ _ h1 h2 => by simp only [decide_eq_true_eq] at h1 h2; omega) (List.pairwise_mergeSort (fun a b c => by simp only [decide_eq_true_eq]; omega) (fun a b => by simp only [Bool.or_eq_true, decide_eq_true_eq]; omega) L) (h2.imp fun {a b} h => by simp only [decide_eq_true_eq]; omega) ?_
  exact (List.mergeSort_perm _ _).trans ((List.perm_ext_iff_of_nodup h1 (h2.imp fun {a b} h => by omega)).2 h)
/-- what a range has gathered -/
structure GathA (g : GrF) (c i : Int) (own : Bool) (left : Int × Int → Bool) (L : List Int) : Prop where
  nd : L.Nodup
  mem : ∀ k, (Lit.int .i64 k).wf = true → (k ∈ L ↔ left (k, i) = false ∧ confB g c i own k = true)
  wf : ∀ k ∈ L, (Lit.int .i64 k).wf = true
theorem nodup_len8 {L : List Int} (h : L.Nodup) (hm : ∀ k ∈ L, 1 ≤ k ∧ k ≤ 8) : L.length ≤ 8 := by
  have z := List.Nodup.length_le_of_subset h (l₂ := all8) (fun k hk => mem_all8.2 (hm k hk))
  exact z
theorem conf_bd {g : GrF} (h : GrOk g) {c i : Int} {own : Bool} {k : Int} (q : confB g c i own k = true) : 1 ≤ k ∧ k ≤ 8 := mem_all8.1 ((List.mem_filter.1 ((agL_mem h).2 q)).1)
theorem GathA.start (g : GrF) (c i : Int) (own : Bool) (left : Int × Int → Bool) (h : ∀ k, (Lit.int .i64 k).wf = true → left (k, i) = (g (k, i)).isSome) : GathA g c i own left [] := by
  refine ⟨List.nodup_nil, fun k hk => ⟨fun q => (by cases q), fun q => ?_⟩, fun k hk => by cases hk⟩
  rw [h k hk] at q
  unfold confB at q
  split at q
  · rename_i a ha; rw [ha] at q; cases q.1
  · cases q.2
theorem GathA.len {g : GrF} {c i : Int} {own : Bool} {left : Int × Int → Bool} {L : List Int} (h : GathA g c i own left L) (ok : GrOk g) : L.length ≤ 8 := nodup_len8 h.nd fun k hk => conf_bd ok ((h.mem k (h.wf k hk)).1 hk).2
/-- one more that conflicts -/
theorem GathA.push {g : GrF} {c i : Int} {own : Bool} {left : Int × Int → Bool} {L : List Int} (h : GathA g c i own left L) {k0 : Int} (hw : (Lit.int .i64 k0).wf = true) (hl : left (k0, i) = true) (hc : confB g c i own k0 = true) : GathA g c i own (fun j => left j && !decide (j = (k0, i))) (L ++ [k0]) := by
  have hn : k0 ∉ L := fun q => by have := ((h.mem k0 hw).1 q).1; rw [hl] at this; cases this
  refine ⟨List.nodup_append.2 ⟨h.nd, by simp, fun a ha b hb => ?_⟩, fun k hk => ?_, fun k hk => ?_⟩
  · simp at hb; subst hb; exact fun e => hn (e ▸ ha)
  · rw [List.mem_append, h.mem k hk, List.mem_singleton]
    by_cases e : k = k0
    · subst e; simp [hc]
    · have : ¬ (k, i) = (k0, i) := fun q => e (Prod.mk.inj q).1
      simp [e, this]
  · rcases List.mem_append.1 hk with q | q
    · exact h.wf k q
    · rw [List.mem_singleton] at q; subst q; exact hw
/-- one that doesn't -/
theorem GathA.pass {g : GrF} {c i : Int} {own : Bool} {left : Int × Int → Bool} {L : List Int} (h : GathA g c i own left L) {p : Int × Int} (hc : p.2 = i → confB g c i own p.1 = false) : GathA g c i own (fun j => left j && !decide (j = p)) L := by
  refine ⟨h.nd, fun k hk => ?_, h.wf⟩
  rw [h.mem k hk]
  by_cases e : (k, i) = p
  · have : confB g c i own k = false := by have := hc (by rw [← e]); rw [← e] at this; exact this
    simp [this]
  · simp [e]
theorem GathA.done {g : GrF} {c i : Int} {own : Bool} {left : Int × Int → Bool} {L : List Int} (h : GathA g c i own left L) (ok : GrOk g) (hl : ∀ k, (Lit.int .i64 k).wf = true → left (k, i) = false) : sortI L = agL g c i own :=
  sortI_eq h.nd (agL_lt g c i own) fun k => by
    rw [agL_mem ok]
    constructor
    · intro q; exact ((h.mem k (h.wf k q)).1 q).2
    · intro q
      have hb := conf_bd ok q
      have hw : (Lit.int .i64 k).wf = true := WalkArith.wf_i64 (by omega)
      exact (h.mem k hw).2 ⟨hl k hw, q⟩
end Go.Proofs.Ytpalgffmdinfpaa
end
section
namespace Go.Proofs.Ytpalgffmdinfpaa
open Go.RowKit
set_option linter.unusedSimpArgs false
set_option linter.unusedVariables false
set_option maxRecDepth 100000

theorem wanted_undef {o : Oper} {y : Nat → Option Bool} {g : Nat} {want : Bool} (hg : o.guard = some (g, want)) (hy : y g = none) : Region.wanted o y = false := by
  unfold Region.wanted
  rw [hg]
  simp [hy]
theorem yields_undef {ops : Array Oper} {tmps : Array Value} {j k : Nat} (hd : (ops[j]?).bind (·.dst) = some k) (h : tmps[k]? = some undef) : yielded ops tmps j = none := by
  unfold yielded
  rw [hd]
  simp [h, undef]
theorem EIL : ElemT Try.prog 38 3 1 8 := elemT Try.underlying38 (z := .int .i64 0) (by kernel_rfl) rfl (by omega)
theorem buildIL (n : Int) (w : World) : (Instr.buildSlice 38 1 #[(0, .int .i64 n)]).run Try.prog w = .ok (.slice (some ⟨w.heap.size, 0, none⟩) ([n] : List Int).length 1) (w.alloc (.cells #[iV n] 3)) := by
  have u3 := Try.underlying38
  have u9 := Try.underlying3
  have z3 := Try.sizeOf3
  unfold iV
  go_simp
theorem iV_one (L : List Int) : ∀ v ∈ L.map iV, v.oneCell' = true := by
  intro v hv
  obtain ⟨n, _, rfl⟩ := List.mem_map.1 hv
  rfl
theorem own_turnsL {X : Nat → Prop} {w w' : World} {B : Nat} {e : TypeId} {sz : Nat} {a : Option Addr} {n c : Nat} {cs : List Value} (h : Own w B e sz a n c cs) (t : Turns X w w') (hx : ∀ k, X k → k < B ∨ w.heap.size ≤ k) : Own w' B e sz a n c cs := by
  refine ⟨h.1, ?_⟩
  rcases h.2 with hn | ⟨b, cap, cur, hv, hb, hh, rest⟩
  · exact .inl hn
  · have hlt := (Array.getElem?_eq_some_iff.1 hh).1
    exact .inr ⟨b, cap, cur, hv, hb, (t.block b hlt (fun q => by have := hx b q; omega)).trans hh, rest⟩
theorem own_weak {w : World} {B B' : Nat} {e : TypeId} {sz : Nat} {a : Option Addr} {n c : Nat} {cs : List Value} (h : Own w B e sz a n c cs) (hB : B' ≤ B) : Own w B' e sz a n c cs := by
  refine ⟨h.1, ?_⟩
  rcases h.2 with hn | ⟨b, cap, cur, hv, hb, rest⟩
  · exact .inl hn
  · exact .inr ⟨b, cap, cur, hv, Nat.le_trans hB hb, rest⟩
theorem neqIP (x y : Operand) (v u : Int) (w : World) {b : Bool} (h : (v != u) = b) : (do eqGuard .neq 3 x y (.int .i64 v) (.int .i64 u); binOp .neq 3 (.int .i64 v) (.int .i64 u) : Sem Value).run Try.prog w = .ok (.bool b) w := by
  have u3 := Try.underlying3
  have a3 := Try.isAgg3
  have z3 := Try.sizeOf3
  subst h
  go_simp
end Go.Proofs.Ytpalgffmdinfpaa
end
