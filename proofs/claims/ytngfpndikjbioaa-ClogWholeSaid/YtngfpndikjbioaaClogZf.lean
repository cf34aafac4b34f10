import Derived.Test.YtngfpndikjbioaaClogZe
import Derived.Test.YtngfpndikjbioaaLibI
namespace Go.Proofs.Ytngfpndikjbioaa
open Go.RowKit Go.WideShapes
set_option linter.unusedSimpArgs false
set_option linter.unusedVariables false

/-- a record -/
structure RecT where
  c : Int
  i : Int
  t : Bool
  o : Int
  s : ByteArray
def rec0 : RecT := ⟨0, 0, false, 0, ⟨#[]⟩⟩
def recCells (r : RecT) : List Value := [.int .i64 r.c, .int .i64 r.i, .bool r.t, .int .i64 r.o, .string r.s]
def recVal (r : RecT) : Value := recV r.c r.i r.t r.o r.s
def decT (xs : List UInt8) : RecT := if decE xs = 0 then ⟨dC xs, dI xs, dT xs, dO xs, dS xs⟩ else rec0
theorem decV_T (xs : List UInt8) : decV xs = recVal (decT xs) := by
  unfold decV decT
  split
  · rfl
  · rfl
abbrev RowR (w : World) (a : Option Addr) (c : Nat) (L : List RecT) : Prop := Row w 5 a L.length c (L.flatMap recCells)
theorem flat5_get : ∀ (L : List RecT) (i j : Nat), i < L.length → j < 5 → (L.flatMap recCells)[i * 5 + j]? = (recCells (L.getD i rec0))[j]? := by
  intro L
  induction L with
  | nil => intro i j hi; simp at hi
  | cons r L ih =>
    intro i j hi hj
    rw [List.flatMap_cons]
    have hr : (recCells r).length = 5 := rfl
    cases i with
    | zero => rw [Nat.zero_mul, Nat.zero_add, List.getElem?_append_left (by rw [hr]; exact hj)]; rfl
    | succ i =>
      rw [List.getElem?_append_right (by rw [hr]; omega), hr, show (i + 1) * 5 + j - 5 = i * 5 + j by omega, ih i j (by simpa using hi) hj]
      simp
theorem flat5_len (L : List RecT) : (L.flatMap recCells).length = L.length * 5 := by
  induction L with
  | nil => rfl
  | cons r L ih => rw [List.flatMap_cons, List.length_append, ih, List.length_cons]; show 5 + _ = _; omega
theorem rowR_cells {w : World} {a : Option Addr} {c : Nat} {L : List RecT} (h : RowR w a c L) (hn : 0 < L.length) :
    ∃ b off, a = some ⟨b, off, none⟩ ∧ b < w.heap.size ∧ ∀ i, i < L.length → ∀ j u, (recCells (L.getD i rec0))[j]? = some u → w.cell? ⟨b, off + i * 5 + j, none⟩ = some u := by
  obtain ⟨b, off, e, hlt, hc⟩ := h.at hn
  refine ⟨b, off, e, hlt, fun i hi j u hu => ?_⟩
  have hj : j < 5 := (List.getElem?_eq_some_iff.1 hu).1
  have := hc (i * 5 + j) u (by rw [flat5_get L i j hi hj]; exact hu)
  rw [Nat.add_assoc]; exact this
theorem rowR_len {w : World} {a : Option Addr} {c : Nat} {L : List RecT} (h : RowR w a c L) : L.length ≤ 9223372036854775807 := by
  have h1 := h.2.1; have h2 := h.2.2.1; unfold maxLen at h2; omega

/-- what a log's bytes hold from a place on: the records, and where each ends -/
def scanR : Nat → List UInt8 → Nat → List (RecT × Nat)
  | 0, _, _ => []
  | f + 1, ys, h => if decE (ys.drop h) = 0 then (decT (ys.drop h), h + decN (ys.drop h)) :: scanR f ys (h + decN (ys.drop h)) else []
def scanT (ys : List UInt8) (h : Nat) : List (RecT × Nat) := scanR (ys.length + 1 - h) ys h
theorem dec_ok_facts {xs : List UInt8} (h : decE xs = 0) : decN xs = dAll xs ∧ 17 ≤ decN xs ∧ decN xs ≤ xs.length ∧ dGood xs = true := by
  have hN : decN xs = dAll xs := by unfold decN; rw [if_pos h]
  unfold decE at h
  split at h
  · next h1 =>
    split at h
    · split at h
      · next hg =>
        have := of_dGood h1 hg
        refine ⟨hN, ?_, ?_, hg⟩
        · rw [hN]; unfold dAll; omega
        · rw [hN]; exact this.2.2.2.1
      · simp at h
    · simp at h
  · simp at h
theorem scanR_more : ∀ (f g : Nat) (ys : List UInt8) (h : Nat), h ≤ ys.length → ys.length + 1 - h ≤ f → ys.length + 1 - h ≤ g → scanR f ys h = scanR g ys h := by
  intro f
  induction f with
  | zero => intro g ys h h1 h2; omega
  | succ f ih =>
    intro g ys h h1 h2 h3
    cases g with
    | zero => omega
    | succ g =>
      unfold scanR
      by_cases hd : decE (ys.drop h) = 0
      · rw [if_pos hd, if_pos hd]
        have := dec_ok_facts hd
        simp only [List.length_drop] at this
        rw [ih g ys (h + decN (ys.drop h)) (by omega) (by omega) (by omega)]
      · rw [if_neg hd, if_neg hd]
theorem scanT_good {ys : List UInt8} {h : Nat} (hl : h ≤ ys.length) (hd : decE (ys.drop h) = 0) : scanT ys h = (decT (ys.drop h), h + decN (ys.drop h)) :: scanT ys (h + decN (ys.drop h)) := by
  have hf := dec_ok_facts hd
  simp only [List.length_drop] at hf
  unfold scanT
  rw [show ys.length + 1 - h = (ys.length - h) + 1 by omega]
  show (if _ then _ else _) = _
  rw [if_pos hd, scanR_more (ys.length - h) (ys.length + 1 - (h + decN (ys.drop h))) ys _ (by omega) (by omega) (by omega)]
theorem scanT_bad {ys : List UInt8} {h : Nat} (hd : decE (ys.drop h) ≠ 0) : scanT ys h = [] := by
  unfold scanT
  cases ys.length + 1 - h with
  | zero => rfl
  | succ f => show (if _ then _ else _) = _; rw [if_neg hd]
theorem decE_nil : decE [] = 3 := by unfold decE; rw [if_neg (by simp)]

/-- a row of one's own stays where another row, of other elements, has grown -/
theorem own_apart {w : World} {B B' : Nat} {e e' : TypeId} {sz sz' : Nat} {a a' : Option Addr} {n n' c c' : Nat} {cs cs' : List Value} (h : Own w B e sz a n c cs) (h' : Own w B' e' sz' a' n' c' cs') (hne : e ≠ e') :
    (Value.slice a n c).ownBlock = none ∨ (Value.slice a n c).ownBlock ≠ (Value.slice a' n' c').ownBlock := by
  rcases h.2 with ⟨hv, _⟩ | ⟨g, cap, cur, hv, _, hgg, _⟩
  · cases hv; exact .inl rfl
  · rcases h'.2 with ⟨hv', _⟩ | ⟨g', cap', cur', hv', _, hgg', _⟩
    · cases hv; cases hv'; exact .inr (by simp [Value.ownBlock])
    · cases hv; cases hv'
      refine .inr fun he => ?_
      simp only [Value.ownBlock, Option.some.injEq] at he
      subst he
      rw [hgg] at hgg'
      simp only [Option.some.injEq, Obj.cells.injEq] at hgg'
      exact hne hgg'.2.1
theorem Own.stays {w w' : World} {B : Nat} {e : TypeId} {sz : Nat} {a : Option Addr} {n c : Nat} {cs : List Value} {row : Option Nat} (h : Own w B e sz a n c cs) (hg : w.grownBy w' row) (hne : (Value.slice a n c).ownBlock = none ∨ (Value.slice a n c).ownBlock ≠ row) : Own w' B e sz a n c cs := World.ownsRow.kept h hg hne

set_option maxHeartbeats 2000000 in
set_option maxRecDepth 100000 in
theorem same16_any (a b : Option Addr) (c d : Nat) (L : List RecT) (w : World) (ha : RowR w a c L) (hb : RowR w b d L) :
    Calls Try.prog 23 #[.slice a L.length c, .slice b L.length d] w fun e w' => e = .returned (.bool true) ∧ Below w.heap.size w w' := by
  have hl := rowR_len ha
  go_enter Try.func23, Try.ntmps23
  go_wp2
  go_loopw [5] (fun i wr => ∃ j : Nat, j ≤ L.length ∧ i = .int .i64 j ∧ Below w.heap.size w wr)
    (fun i _ => L.length - (intOf i).toNat)
  case atStart => exact ⟨0, Nat.zero_le _, rfl, Below.refl _ _⟩
  case round =>
    obtain ⟨j, hj, rfl, hbel⟩ := hrel
    by_cases hlt : j < L.length
    · obtain ⟨ba, oa, rfl, hba, hca⟩ := rowR_cells (ha.mono hbel) (by omega)
      obtain ⟨bb, ob, rfl, hbb, hcb⟩ := rowR_cells (hb.mono hbel) (by omega)
      have ca := hca j hlt
      have cb := hcb j hlt
      have hlt' : (j : Int) < (L.length : Int) := by omega
      clear hca hcb ha hb
      generalize L.getD j rec0 = r at *
      obtain ⟨rc, ri, rt, ro, rs⟩ := r
      have a0 := ca 0 _ rfl; have a1 := ca 1 _ rfl; have a2 := ca 2 _ rfl; have a3 := ca 3 _ rfl; have a4 := ca 4 _ rfl
      have b0 := cb 0 _ rfl; have b1 := cb 1 _ rfl; have b2 := cb 2 _ rfl; have b3 := cb 3 _ rfl; have b4 := cb 4 _ rfl
      simp only [Nat.add_zero] at a0 b0
      clear ca cb
      go_wp2
      go_quiet (fail)
      go_wp2
      go_roundw
      case rel => exact ⟨j + 1, by omega, by go_num, bel_drewN hbel _⟩
      case measure => simp [intOf]; omega
    · obtain rfl : j = L.length := by omega
      go_wp2
      go_ret
      exact ⟨rfl, hbel⟩

theorem Blk.own {w : World} {B g : Nat} {e : TypeId} {L : List Value} (h : Blk w g e L) (hB : B ≤ g) (hl : L.length ≤ maxLen) : Own w B e 1 (some ⟨g, 0, none⟩) L.length L.length L :=
  ⟨by simp, .inr ⟨g, L.length, L.toArray, rfl, hB, h, Nat.le_refl _, hl, by simp, by simp⟩⟩
def head8 (x : Int) : List UInt8 := if (putF [] x 8).length = 0 then List.replicate 8 0 else putF [] x 8
theorem head8_len (x : Int) (hx : x ≤ 9223372036854775807) : (head8 x).length = 8 := by
  unfold head8 putF
  by_cases hf : fitsB x 8 = true
  · rw [if_pos hf]; simp [le_length]
  · rw [if_neg hf]; simp
def logF (x : Int) (xs : List UInt8) : List UInt8 := head8 x ++ xs.take 1016 ++ List.replicate (1016 - (xs.take 1016).length) 0
theorem logF_len (x : Int) (xs : List UInt8) (hx : x ≤ 9223372036854775807) : (logF x xs).length = 1024 := by
  have := head8_len x hx
  unfold logF
  simp only [List.length_append, List.length_replicate, this, List.length_take]
  omega

set_option maxHeartbeats 2000000 in
set_option maxRecDepth 100000 in
theorem log16_any (x : Int) (a : Option Addr) (c : Nat) (xs : List UInt8) (w : World) (ha : RowB w a c xs) (hx : x ≤ 9223372036854775807) :
    Calls Try.prog 20 #[.int .i64 x, .slice a xs.length c] w (RetB w (logF x xs)) := by
  have hl := rowB_len ha
  have hcap : xs.length ≤ c := ha.2.1
  have HP := fun w1 => putRef_any none 0 [] x 8 w1 (Row.nil _ _) (by simp) hx
  have h8 : (putF [] x 8).length = 0 ∨ (putF [] x 8).length = 8 := by
    unfold putF
    by_cases hf : fitsB x 8 = true
    · rw [if_pos hf]; simp [le_length]
    · rw [if_neg hf]; simp
  have hH : head8 x = if (putF [] x 8).length = 0 then List.replicate 8 0 else putF [] x 8 := rfl
  unfold logF
  generalize head8 x = H at *
  generalize putF [] x 8 = P at *
  --LOG
  rcases h8 with h8 | h8
  · rw [if_pos h8] at hH
    subst hH
    by_cases hlong : 1016 < xs.length
    · skip
      have t1 : True := trivial
      have t2 : True := trivial
      obtain ⟨rb, roff, rfl, _⟩ := ha.bytes (by omega)
      obtain ⟨ys, hys⟩ : ∃ ys, ys = xs.take 1016 := ⟨_, rfl⟩
      have lys : ys.length = 1016 := by rw [hys]; simp; omega
      have ry : RowB w (some ⟨rb, roff, none⟩) c ys := by rw [hys]; exact rowB_take ha 1016
      rw [← hys, lys]
      have h' : (1016 : Int) < (xs.length : Int) := by omega
      have h1016c : (1016 : Nat) ≤ c := by omega
      clear hys ha
      have HR := hid ry; have LY := hid lys; have H8 := hid h8
      obtain ⟨R, hR⟩ : ∃ R, R = List.replicate 8 0 ++ ys ++ List.replicate (0) (0 : UInt8) := ⟨_, rfl⟩
      rw [← hR]
      have HRR := hid hR
      clear hR
      clear ry lys
      go_enter Try.func20, Try.ntmps20
      go_wp2_with fail
      refine (HP w).mono ?_
      rintro e w4 ⟨a4, c4, rfl, o4, b4⟩
      rw [h8]
      go_wp2_with (first
        | (at_make; refine wpl_make rfl (.const (.int .i64 8)) (.const (.int .i64 8)) rfl Try.underlying25 info8 rfl (n := 8) rfl rfl rfl rfl (by omega) (by omega) ?_; intro w5 k5 b5; have o5 := Blk.own (B := w.heap.size) k5 b4.size (by unfold maxLen; simp); have B5 := hid (Nat.le_trans b4.size b5.size); have BEL := hid (below_trans b4 b5 b4.size); have RY := hid (HR.out.mono (below_trans b4 b5 b4.size)); clear k5)
        | (at_builtin; have _t := t1; refine wpl_append rfl (.tmp 17) (.tmp 18) rfl E8 w.heap.size rfl rfl (show Own w5 w.heap.size 5 1 _ 8 8 ((List.replicate 8 (0 : UInt8)).map byteV) from o5) (by have := RY.out; unfold RowB at this; rw [LY.out] at this; exact this) (byteV_one ys) (by omega) (by omega) B5.out ?_; clear t1; intro a6 c6 w6 o6 g6 b6)
        | (at_builtin; have _t := t2; refine wpl_append_zeros rfl (.tmp 20) (.tmp 23) rfl Try.underlying25 Try.underlying3 (z := .int .u8 0) (bytes := 1) (by kernel_rfl) rfl rfl w.heap.size (k := 0) rfl rfl (by omega) o6 (by omega) (by omega) (Nat.le_trans B5.out b6.size) ?_; clear t2; intro a7 c7 w7 o7 _ b7))
      go_ret
      have hle : R.length = 8 + 1016 + (0) := by
        rw [HRR.out]; simp only [List.length_append, List.length_replicate, LY.out]; try omega
      refine ⟨a7, c7, by rw [hle]; rfl, ?_, below_trans (below_trans BEL.out b6 (Nat.le_refl _)) b7 (Nat.le_refl _)⟩
      unfold OwnB
      rw [hle, HRR.out, List.map_append, List.map_append]
      first | exact o7 | (rw [List.map_replicate (n := 1016 - n)]; exact o7) | (simp only [List.map_replicate] at o7 ⊢; exact o7)
    · skip
      have t1 : True := trivial
      have t2 : True := trivial
      obtain ⟨ys, hys⟩ : ∃ ys, ys = xs := ⟨_, rfl⟩
      have lys : ys.length = xs.length := by rw [hys]
      have ry : RowB w a c ys := by rw [hys]; exact ha
      rw [List.take_of_length_le (show xs.length ≤ 1016 by omega), ← hys, lys]
      have h' : ¬ (1016 : Int) < (xs.length : Int) := by omega
      clear hys ha
      generalize xs.length = n at *
      have ez : IntKind.i64.wrap (1024 - (8 + (n : Int))) = ((1016 - n : Nat) : Int) := by rw [show (1024 - (8 + (n : Int))) = ((1016 - n : Nat) : Int) by omega]; exact IntWalk.i64_in _ (by omega)
      have HR := hid ry; have LY := hid lys; have H8 := hid h8
      obtain ⟨R, hR⟩ : ∃ R, R = List.replicate 8 0 ++ ys ++ List.replicate (1016 - n) (0 : UInt8) := ⟨_, rfl⟩
      rw [← hR]
      have HRR := hid hR
      clear hR
      clear ry lys
      go_enter Try.func20, Try.ntmps20
      go_wp2_with fail
      refine (HP w).mono ?_
      rintro e w4 ⟨a4, c4, rfl, o4, b4⟩
      rw [h8]
      go_wp2_with (first
        | (at_make; refine wpl_make rfl (.const (.int .i64 8)) (.const (.int .i64 8)) rfl Try.underlying25 info8 rfl (n := 8) rfl rfl rfl rfl (by omega) (by omega) ?_; intro w5 k5 b5; have o5 := Blk.own (B := w.heap.size) k5 b4.size (by unfold maxLen; simp); have B5 := hid (Nat.le_trans b4.size b5.size); have BEL := hid (below_trans b4 b5 b4.size); have RY := hid (HR.out.mono (below_trans b4 b5 b4.size)); clear k5)
        | (at_builtin; have _t := t1; refine wpl_append rfl (.tmp 17) (.tmp 18) rfl E8 w.heap.size rfl rfl (show Own w5 w.heap.size 5 1 _ 8 8 ((List.replicate 8 (0 : UInt8)).map byteV) from o5) (by have := RY.out; unfold RowB at this; rw [LY.out] at this; exact this) (byteV_one ys) (by omega) (by omega) B5.out ?_; clear t1; intro a6 c6 w6 o6 g6 b6)
        | (at_builtin; have _t := t2; refine wpl_append_zeros rfl (.tmp 20) (.tmp 23) rfl Try.underlying25 Try.underlying3 (z := .int .u8 0) (bytes := 1) (by kernel_rfl) rfl rfl w.heap.size (k := 1016 - n) rfl rfl (by omega) o6 (by omega) (by omega) (Nat.le_trans B5.out b6.size) ?_; clear t2; intro a7 c7 w7 o7 _ b7))
      go_ret
      have hle : R.length = 8 + n + (1016 - n) := by
        rw [HRR.out]; simp only [List.length_append, List.length_replicate, LY.out]; try omega
      refine ⟨a7, c7, by rw [hle]; rfl, ?_, below_trans (below_trans BEL.out b6 (Nat.le_refl _)) b7 (Nat.le_refl _)⟩
      unfold OwnB
      rw [hle, HRR.out, List.map_append, List.map_append]
      first | exact o7 | (rw [List.map_replicate (n := 1016 - n)]; exact o7) | (simp only [List.map_replicate] at o7 ⊢; exact o7)
  · rw [if_neg (by omega)] at hH
    subst hH
    by_cases hlong : 1016 < xs.length
    · skip
      have t1 : True := trivial
      have t2 : True := trivial
      obtain ⟨rb, roff, rfl, _⟩ := ha.bytes (by omega)
      obtain ⟨ys, hys⟩ : ∃ ys, ys = xs.take 1016 := ⟨_, rfl⟩
      have lys : ys.length = 1016 := by rw [hys]; simp; omega
      have ry : RowB w (some ⟨rb, roff, none⟩) c ys := by rw [hys]; exact rowB_take ha 1016
      rw [← hys, lys]
      have h' : (1016 : Int) < (xs.length : Int) := by omega
      have h1016c : (1016 : Nat) ≤ c := by omega
      clear hys ha
      have HR := hid ry; have LY := hid lys; have H8 := hid h8
      obtain ⟨R, hR⟩ : ∃ R, R = H ++ ys ++ List.replicate (0) (0 : UInt8) := ⟨_, rfl⟩
      rw [← hR]
      have HRR := hid hR
      clear hR
      clear ry lys
      go_enter Try.func20, Try.ntmps20
      go_wp2_with fail
      refine (HP w).mono ?_
      rintro e w4 ⟨a4, c4, rfl, o4, b4⟩
      rw [h8]
      obtain ⟨w5, hw5⟩ : ∃ w5, w5 = w4 := ⟨_, rfl⟩
      rw [← hw5] at o4 b4 ⊢
      have o5 : Own w5 w.heap.size 5 1 a4 8 c4 (H.map byteV) := by
        have q := o4
        unfold OwnB at q
        rw [h8] at q
        exact q
      have B5 := hid b4.size; have BEL := hid b4; have RY := hid (HR.out.mono b4)
      clear hw5 o4
      go_wp2_with (first
        | (at_builtin; have _t := t1; refine wpl_append rfl (.tmp 17) (.tmp 18) rfl E8 w.heap.size rfl rfl o5 (by have := RY.out; unfold RowB at this; rw [LY.out] at this; exact this) (byteV_one ys) (by omega) (by omega) B5.out ?_; clear t1; intro a6 c6 w6 o6 g6 b6)
        | (at_builtin; have _t := t2; refine wpl_append_zeros rfl (.tmp 20) (.tmp 23) rfl Try.underlying25 Try.underlying3 (z := .int .u8 0) (bytes := 1) (by kernel_rfl) rfl rfl w.heap.size (k := 0) rfl rfl (by omega) o6 (by omega) (by omega) (Nat.le_trans B5.out b6.size) ?_; clear t2; intro a7 c7 w7 o7 _ b7))
      go_ret
      have hle : R.length = 8 + 1016 + (0) := by
        rw [HRR.out]; simp only [List.length_append, List.length_replicate, LY.out, H8.out]; try omega
      refine ⟨a7, c7, by rw [hle]; rfl, ?_, below_trans (below_trans BEL.out b6 (Nat.le_refl _)) b7 (Nat.le_refl _)⟩
      unfold OwnB
      rw [hle, HRR.out, List.map_append, List.map_append]
      first | exact o7 | (rw [List.map_replicate (n := 1016 - n)]; exact o7) | (simp only [List.map_replicate] at o7 ⊢; exact o7)
    · skip
      have t1 : True := trivial
      have t2 : True := trivial
      obtain ⟨ys, hys⟩ : ∃ ys, ys = xs := ⟨_, rfl⟩
      have lys : ys.length = xs.length := by rw [hys]
      have ry : RowB w a c ys := by rw [hys]; exact ha
      rw [List.take_of_length_le (show xs.length ≤ 1016 by omega), ← hys, lys]
      have h' : ¬ (1016 : Int) < (xs.length : Int) := by omega
      clear hys ha
      generalize xs.length = n at *
      have ez : IntKind.i64.wrap (1024 - (8 + (n : Int))) = ((1016 - n : Nat) : Int) := by rw [show (1024 - (8 + (n : Int))) = ((1016 - n : Nat) : Int) by omega]; exact IntWalk.i64_in _ (by omega)
      have HR := hid ry; have LY := hid lys; have H8 := hid h8
      obtain ⟨R, hR⟩ : ∃ R, R = H ++ ys ++ List.replicate (1016 - n) (0 : UInt8) := ⟨_, rfl⟩
      rw [← hR]
      have HRR := hid hR
      clear hR
      clear ry lys
      go_enter Try.func20, Try.ntmps20
      go_wp2_with fail
      refine (HP w).mono ?_
      rintro e w4 ⟨a4, c4, rfl, o4, b4⟩
      rw [h8]
      obtain ⟨w5, hw5⟩ : ∃ w5, w5 = w4 := ⟨_, rfl⟩
      rw [← hw5] at o4 b4 ⊢
      have o5 : Own w5 w.heap.size 5 1 a4 8 c4 (H.map byteV) := by
        have q := o4
        unfold OwnB at q
        rw [h8] at q
        exact q
      have B5 := hid b4.size; have BEL := hid b4; have RY := hid (HR.out.mono b4)
      clear hw5 o4
      go_wp2_with (first
        | (at_builtin; have _t := t1; refine wpl_append rfl (.tmp 17) (.tmp 18) rfl E8 w.heap.size rfl rfl o5 (by have := RY.out; unfold RowB at this; rw [LY.out] at this; exact this) (byteV_one ys) (by omega) (by omega) B5.out ?_; clear t1; intro a6 c6 w6 o6 g6 b6)
        | (at_builtin; have _t := t2; refine wpl_append_zeros rfl (.tmp 20) (.tmp 23) rfl Try.underlying25 Try.underlying3 (z := .int .u8 0) (bytes := 1) (by kernel_rfl) rfl rfl w.heap.size (k := 1016 - n) rfl rfl (by omega) o6 (by omega) (by omega) (Nat.le_trans B5.out b6.size) ?_; clear t2; intro a7 c7 w7 o7 _ b7))
      go_ret
      have hle : R.length = 8 + n + (1016 - n) := by
        rw [HRR.out]; simp only [List.length_append, List.length_replicate, LY.out, H8.out]; try omega
      refine ⟨a7, c7, by rw [hle]; rfl, ?_, below_trans (below_trans BEL.out b6 (Nat.le_refl _)) b7 (Nat.le_refl _)⟩
      unfold OwnB
      rw [hle, HRR.out, List.map_append, List.map_append]
      first | exact o7 | (rw [List.map_replicate (n := 1016 - n)]; exact o7) | (simp only [List.map_replicate] at o7 ⊢; exact o7)

end Go.Proofs.Ytngfpndikjbioaa
