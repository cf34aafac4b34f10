/- Laws that keep what is large opaque: a whole value stored into the middle of a block, an operation that the kernel runs; lists of structs in cells. -/
import Derived.Test.YtcackliabemecaaGreatDoorLibS
namespace Go.Proofs.YtcackliabemecaaGreatDoor
open Go.RowKit
set_option linter.unusedSimpArgs false
set_option linter.unusedVariables false

theorem wpl_runTo {P : Program} {ops : Array Oper} {rest : List Oper} {o : Oper} {a : Act} {w : World} {Q : Exit → Act → World → Prop} (hg : o.guard = none)
    (v : Value) (w' : World) (hrun : (execOp a.eval o).run P w = .ok (.value v) w')
    (h : wpList P ops Q rest (a.put o.dst v) w') : wpList P ops Q (o :: rest) a w := by
  refine wpList_plain hg fun K hK => ?_
  unfold Oper.wp
  rw [hrun, Oper.upon_value]
  exact hK _ _ h

/-- a whole value stored into the middle of a block -/
theorem wpl_storeM {P : Program} {w : World} {ops : Array Oper} {rest : List Oper} {o : Oper} {act : Act} {Q : Exit → Act → World → Prop} (hgd : o.guard = none) (T : TypeId) (x y : Operand)
    (ho : o.op = .store T x y) (g off : Nat) (hx : act.eval x = .pointer (some ⟨g, off, none⟩)) {e : TypeId} (vs : List Value) (hy : act.eval y = .agg vs.toArray) (hn : (P.info? T).map (·.size) = some vs.length) (h1 : ∀ v ∈ vs, v.oneCell' = true) {L : List Value} (hb : Blk w g e L) (hL : off + vs.length ≤ L.length)
    (h : ∀ w', Blk w' g e (splice L off vs) → w.grownBy w' (some g) → wpList P ops Q rest (act.put o.dst undef) w') : wpList P ops Q (o :: rest) act w := by
  refine wpList_store_mid hgd T x y ho g off vs.toArray hx hy (by simpa using hb.there off vs.length hL) (by simpa using hn) (all_oneCell_toArray h1) ?_
  obtain ⟨h2, h3⟩ := Blk.setCells vs off w L hb hL
  exact h _ h2 h3
theorem row_blkO {w : World} {g : Nat} {e : TypeId} {L : List Value} (h : Blk w g e L) (sz n : Nat) (hl : L.length = n * sz) (hm : n ≤ 9223372036854775807) : Row w sz (some ⟨g, 0, none⟩) n n L :=
  ⟨hl, Nat.le_refl _, by unfold maxLen; omega, (fun h => by cases h), fun hn => ⟨g, 0, rfl, h.lt, fun j u hu => by
    obtain ⟨h1, h2⟩ := List.getElem?_eq_some_iff.1 hu
    rw [Nat.zero_add, h.cell h1, h2]⟩⟩
theorem own_someO {w : World} {B : Nat} {e : TypeId} {sz : Nat} {a : Option Addr} {n c : Nat} {cs : List Value} (h : Own w B e sz a n c cs) (hn : 0 < n) : ∃ g, a = some ⟨g, 0, none⟩ := by
  obtain ⟨h0, h⟩ := h
  rcases h with ⟨hv, h1⟩ | ⟨g, cap, cur, hv, _⟩
  · omega
  · cases hv; exact ⟨g, rfl⟩
theorem own_apartO {w : World} {B B' : Nat} {e e' : TypeId} {sz sz' : Nat} {a a' : Option Addr} {n n' c c' : Nat} {cs cs' : List Value} (h : Own w B e sz a n c cs) (h' : Own w B' e' sz' a' n' c' cs') (hne : e ≠ e') :
    (Value.slice a n c).ownBlock = none ∨ (Value.slice a n c).ownBlock ≠ (Value.slice a' n' c').ownBlock := by
  rcases h.2 with ⟨hv, _⟩ | ⟨g, cap, cur, hv, _, hgg, _⟩
  · cases hv; exact .inl rfl
  · rcases h'.2 with ⟨hv', _⟩ | ⟨g', cap', cur', hv', _, hgg', _⟩
    · cases hv; cases hv'; exact .inr (by simp [Value.ownBlock])
    · cases hv; cases hv'
      refine .inr fun he => ?_
      simp only [Value.ownBlock, Option.some.injEq] at he
      subst he
      rw [hgg] at hgg'
      simp only [Option.some.injEq, Obj.cells.injEq] at hgg'
      exact hne hgg'.2.1
theorem Own.staysO {w w' : World} {B : Nat} {e : TypeId} {sz : Nat} {a : Option Addr} {n c : Nat} {cs : List Value} {row : Option Nat} (h : Own w B e sz a n c cs) (hg : w.grownBy w' row) (hne : (Value.slice a n c).ownBlock = none ∨ (Value.slice a n c).ownBlock ≠ row) : Own w' B e sz a n c cs := World.ownsRow.kept h hg hne
theorem blk_newO {W : World} {n : Nat} (h : W.heap.size = n) (e : TypeId) (L : List Value) : Blk (W.alloc (.cells L.toArray e)) n e L := by subst h; exact heap_alloc_new W _
theorem albO (W : World) (o : Obj) : Below W.heap.size W (W.alloc o) := (Below.refl _ W).alloc (Nat.le_refl _) o
/-- lists of structs, all cells of one behind the other -/
theorem flat_len {α : Type} (enc : α → List Value) (sz : Nat) (h : ∀ x, (enc x).length = sz) : ∀ L : List α, (L.flatMap enc).length = L.length * sz
  | [] => by simp
  | x :: r => by
    show (enc x ++ r.flatMap enc).length = _
    rw [List.length_append, h, flat_len enc sz h r, List.length_cons, Nat.succ_mul]; omega
theorem flat_get {α : Type} (enc : α → List Value) (sz : Nat) (h : ∀ x, (enc x).length = sz) : ∀ (L : List α) (i j : Nat) (hi : i < L.length), j < sz → (L.flatMap enc)[i * sz + j]? = (enc L[i])[j]?
  | x :: r, 0, j, _, hj => by
    show (enc x ++ r.flatMap enc)[0 * sz + j]? = _
    rw [Nat.zero_mul, Nat.zero_add, List.getElem?_append_left (by rw [h]; exact hj)]; rfl
  | x :: r, i + 1, j, hi, hj => by
    show (enc x ++ r.flatMap enc)[(i + 1) * sz + j]? = _
    rw [List.getElem?_append_right (by rw [h, Nat.succ_mul]; omega), h, Nat.succ_mul, show i * sz + sz + j - sz = i * sz + j by omega, flat_get enc sz h r i j (by simpa using hi) hj]; rfl
theorem flat_set {α : Type} (enc : α → List Value) (sz : Nat) (h : ∀ x, (enc x).length = sz) : ∀ (L : List α) (i : Nat) (y : α), i < L.length → (L.set i y).flatMap enc = splice (L.flatMap enc) (i * sz) (enc y)
  | x :: r, 0, y, _ => by
    show enc y ++ r.flatMap enc = splice (enc x ++ r.flatMap enc) (0 * sz) (enc y)
    unfold splice
    simp [h]
  | x :: r, i + 1, y, hi => by
    show enc x ++ (r.set i y).flatMap enc = splice (enc x ++ r.flatMap enc) ((i + 1) * sz) (enc y)
    rw [flat_set enc sz h r i y (by simpa using hi)]
    unfold splice
    have hx := h x
    have e1 : (i + 1) * sz = (enc x).length + i * sz := by rw [hx, Nat.succ_mul]; omega
    rw [e1, List.take_length_add_append, Nat.add_assoc, List.drop_length_add_append]
    simp only [List.append_assoc]
theorem row_flat {α : Type} {enc : α → List Value} {sz : Nat} (h : ∀ x, (enc x).length = sz) {w : World} {a : Option Addr} {c : Nat} {L : List α} (r : Row w sz a L.length c (L.flatMap enc)) (hn : 0 < L.length) :
    ∃ b off, a = some ⟨b, off, none⟩ ∧ b < w.heap.size ∧ ∀ i (hi : i < L.length) j u, (enc L[i])[j]? = some u → w.cell? ⟨b, off + i * sz + j, none⟩ = some u := by
  obtain ⟨b, off, e, hlt, hc⟩ := r.at hn
  refine ⟨b, off, e, hlt, fun i hi j u hu => ?_⟩
  have hj : j < sz := by rw [← h L[i]]; exact (List.getElem?_eq_some_iff.1 hu).1
  rw [Nat.add_assoc]
  exact hc _ _ (by rw [flat_get enc sz h L i j hi hj]; exact hu)
/-- cells of one's own row, some of them stored anew -/
theorem own_splice {w : World} {B : Nat} {e : TypeId} {sz g n c : Nat} {cs : List Value} (h : Own w B e sz (some ⟨g, 0, none⟩) n c cs) :
    ∃ L, Blk w g e L ∧ n * sz ≤ L.length ∧ B ≤ g ∧ ∀ w' off (vs : List Value), off + vs.length ≤ n * sz → Blk w' g e (splice L off vs) → Own w' B e sz (some ⟨g, 0, none⟩) n c (splice cs off vs) := by
  have h0 := h.1
  obtain ⟨L, hb, hl, hB, ht, hnc, hc⟩ := Own.blk h
  have hle : n * sz ≤ L.length := by rw [hl]; exact Nat.mul_le_mul_right sz hnc
  refine ⟨L, hb, hle, hB, fun w' off vs hv hb' => ?_⟩
  have hs : (splice L off vs).length = L.length := length_splice L off vs (by omega)
  have q := Own.of_blk (B := B) (sz := sz) (n := n) (c := c) hb' hB hnc hc (by rw [hs, hl])
  have e1 : L = cs ++ L.drop (n * sz) := by rw [← ht, List.take_append_drop]
  have e2 : (splice L off vs).take (n * sz) = splice cs off vs := by
    rw [e1, splice_append cs _ vs off (by omega)]
    exact List.take_left' (by rw [length_splice cs off vs (by omega)]; exact h0)
  rw [e2] at q
  exact q
theorem if_wanted {c : Prop} [Decidable c] {A B : Prop} (h : c) (a : A) : if c then A else B := by rw [if_pos h]; exact a
end Go.Proofs.YtcackliabemecaaGreatDoor
