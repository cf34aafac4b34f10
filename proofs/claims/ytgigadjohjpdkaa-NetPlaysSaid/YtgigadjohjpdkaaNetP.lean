/- Packets in transit: the code's bag and the document's, side by side. -/
import Derived.Test.YtgigadjohjpdkaaNetO
namespace Go.Proofs.Ytgigadjohjpdkaa
open Go.RowKit
set_option linter.unusedSimpArgs false
set_option linter.unusedVariables false

theorem BagP.stayR {w w' : World} {B g : Nat} {ra : Option Addr} {rc : Nat} {L : List PkT} (h : BagP w B g ra rc L) (s : StayT 28 52 w w') : BagP w' B g ra rc L :=
  ⟨h.1, h.2.1.stayT s (by decide) (by decide), h.2.2.1.stayT s (by decide) (by decide), fun p hp => (h.2.2.2 p hp).stayT s (by decide) (by decide)⟩
theorem RefP.stayN {w w' : World} {B g : Nat} {ra : Option Addr} {rc : Nat} {M : List (Int × List UInt8)} (h : RefP w B g ra rc M) (s : StayT 46 56 w w') : RefP w' B g ra rc M :=
  ⟨h.1, h.2.1.stayT s (by decide) (by decide), h.2.2.stayT s (by decide) (by decide)⟩

/-- both bags in memory -/
def Mid (w : World) (B gb gr : Nat) (L : List PkT) (M : List (Int × List UInt8)) : Prop :=
  (∃ ra rc, BagP w B gb ra rc L) ∧ (∃ ra rc, RefP w B gr ra rc M) ∧ L.length ≤ 200 ∧ M.length ≤ 200 ∧ (∀ p ∈ L, p.xs.length ≤ 50) ∧ B ≤ w.heap.size
theorem Mid.mono {w w' : World} {B gb gr : Nat} {L : List PkT} {M : List (Int × List UInt8)} (h : Mid w B gb gr L M) (b : Below w.heap.size w w') : Mid w' B gb gr L M := by
  obtain ⟨⟨ra, rc, h1⟩, ⟨rb, rd, h2⟩, h3, h4, h5, h6⟩ := h
  exact ⟨⟨ra, rc, h1.mono b⟩, ⟨rb, rd, h2.mono b⟩, h3, h4, h5, Nat.le_trans h6 b.size⟩
/-- is there such a place? -/
def inP (k : Int) (n : Nat) : Bool := decide (0 ≤ k ∧ k < n)
def takeV (M : List (Int × List UInt8)) (k : Int) : Int × List UInt8 := if inP k M.length then M.getD k.toNat (0, []) else (0, [])
def offV (M : List (Int × List UInt8)) (k : Int) (st : Bool) : List (Int × List UInt8) := if inP k M.length && !st then M.eraseIdx k.toNat else M
def sendV (M : List (Int × List UInt8)) (to : Int) (ys : List UInt8) : List (Int × List UInt8) := if okTo to M.length then M ++ [(to, ys)] else M
def loseV (M : List (Int × List UInt8)) (node : Int) : List (Int × List UInt8) := M.filter (fun q => !decide (q.1 = node))
theorem map_erase {α β : Type} (f : α → β) : ∀ (L : List α) (k : Nat), (L.eraseIdx k).map f = (L.map f).eraseIdx k
  | [], _ => rfl
  | x :: r, 0 => rfl
  | x :: r, k + 1 => by
    show f x :: (r.eraseIdx k).map f = f x :: (r.map f).eraseIdx k
    rw [map_erase f r k]
theorem map_lose (node : Int) : ∀ (L : List PkT), (L.filter (fun p => !decide (p.to = node))).map seenP = loseV (L.map seenP) node
  | [] => rfl
  | p :: r => by
    have ih := map_lose node r
    unfold loseV at ih ⊢
    rw [List.map_cons]
    by_cases h : p.to = node
    · rw [List.filter_cons_of_neg (by simp [h]), List.filter_cons_of_neg (by simp [seenP, h])]; exact ih
    · rw [List.filter_cons_of_pos (by simp [h]), List.filter_cons_of_pos (by simp [seenP, h]), List.map_cons, ih]

theorem c_send (B gb gr : Nat) (L : List PkT) (M : List (Int × List UInt8)) (to : Int) (a : Option Addr) (c m : Nat) (ys : List UInt8) (w : World) (h : Mid w B gb gr L M) (hr : RowB w a c ys) (hm : m = ys.length) (hy : m ≤ 50) :
    Calls Try.prog 10 #[.pointer (some ⟨gb, 0, none⟩), .int .i64 to, .slice a m c] w fun e w' => e = .returned (.bool (okTo to L.length)) ∧ ∃ L', L'.map seenP = sendV (L.map seenP) to ys ∧ Mid w' B gb gr L' M ∧ Below B w w' ∧ StayT 46 56 w w' := by
  subst hm
  obtain ⟨⟨ra, rc, h1⟩, ⟨rb, rd, h2⟩, h3, h4, h5, h6⟩ := h
  cases hok : okTo to L.length
  · refine (send_no gb ra L.length rc to a c _ w h1.2.1 hok).mono ?_
    rintro e w' ⟨he, rfl⟩
    refine ⟨he, L, ?_, ⟨⟨ra, rc, h1⟩, ⟨rb, rd, h2⟩, h3, h4, h5, h6⟩, Below.refl _ _, StayT.refl _ _ _⟩
    unfold sendV
    rw [List.length_map, hok]; rfl
  · have hlt : L.length < 200 := (of_decide_eq_true hok).2.2
    refine (send_yes B gb ra rc L to a c ys w h1 h6 hr (by omega) hok).mono ?_
    rintro e w' ⟨ra', rc', a', c', he, hp, hb, hs⟩
    refine ⟨he, _, ?_, ⟨⟨ra', rc', hp⟩, ⟨rb, rd, h2.stayN hs⟩, by rw [List.length_append]; simp; omega, h4, ?_, Nat.le_trans h6 hs.1⟩, hb, hs⟩
    · unfold sendV
      rw [List.length_map, hok, List.map_append]; rfl
    · intro p hq
      rcases List.mem_append.1 hq with hq | hq
      · exact h5 p hq
      · rw [List.mem_singleton.1 hq]; exact hy
theorem r_send (B gb gr : Nat) (L : List PkT) (M : List (Int × List UInt8)) (to : Int) (a : Option Addr) (c m : Nat) (ys : List UInt8) (w : World) (h : Mid w B gb gr L M) (hr : RowB w a c ys) (hm : m = ys.length) (hy : m ≤ 50) :
    Calls Try.prog 14 #[.pointer (some ⟨gr, 0, none⟩), .int .i64 to, .slice a m c] w fun e w' => e = .returned (.bool (okTo to M.length)) ∧ Mid w' B gb gr L (sendV M to ys) ∧ Below B w w' ∧ StayT 28 52 w w' := by
  subst hm
  obtain ⟨⟨ra, rc, h1⟩, ⟨rb, rd, h2⟩, h3, h4, h5, h6⟩ := h
  unfold sendV
  cases hok : okTo to M.length
  · refine (rsend_no gr rb M.length rd to a c _ w h2.2.1 h4 hok).mono ?_
    rintro e w' ⟨he, rfl⟩
    exact ⟨he, ⟨⟨ra, rc, h1⟩, ⟨rb, rd, h2⟩, h3, h4, h5, h6⟩, Below.refl _ _, StayT.refl _ _ _⟩
  · have hlt : M.length < 200 := (of_decide_eq_true hok).2.2
    refine (rsend_yes B gr rb rd M to a c ys w h2 h6 hr (by omega) hok).mono ?_
    rintro e w' ⟨rb', rd', he, hp, hb, hs⟩
    exact ⟨he, ⟨⟨ra, rc, h1.stayR hs⟩, ⟨rb', rd', hp⟩, h3, by simp; omega, h5, Nat.le_trans h6 hs.1⟩, hb, hs⟩

theorem inP_nat {k : Int} {n : Nat} (h : inP k n = true) : ∃ j : Nat, k = j ∧ j < n := by
  have := of_decide_eq_true h
  exact ⟨k.toNat, by omega, by omega⟩
theorem takeV_at (L : List PkT) (j : Nat) (hj : j < L.length) : takeV (L.map seenP) (j : Int) = (L[j].to, L[j].xs) := by
  unfold takeV
  have : inP (j : Int) (L.map seenP).length = true := by rw [List.length_map]; exact decide_eq_true (by omega)
  rw [if_pos this, Int.toNat_natCast, List.getD_eq_getElem?_getD, List.getElem?_map, List.getElem?_eq_getElem hj]; rfl
theorem takeV_at' (M : List (Int × List UInt8)) (j : Nat) (hj : j < M.length) : takeV M (j : Int) = M[j] := by
  unfold takeV
  have : inP (j : Int) M.length = true := decide_eq_true (by omega)
  rw [if_pos this, Int.toNat_natCast, List.getD_eq_getElem?_getD, List.getElem?_eq_getElem hj]; rfl
theorem takeV_no {M : List (Int × List UInt8)} {k : Int} (h : inP k M.length = false) : takeV M k = (0, []) := by unfold takeV; rw [h]; rfl

theorem c_take (B gb gr : Nat) (L : List PkT) (M : List (Int × List UInt8)) (k : Int) (st : Bool) (w : World) (h : Mid w B gb gr L M) :
    Calls Try.prog 13 #[.pointer (some ⟨gb, 0, none⟩), .int .i64 k, .bool st] w fun e w' => ∃ a c, e = .returned (.tuple #[.int .i64 (takeV (L.map seenP) k).1, .slice a (takeV (L.map seenP) k).2.length c, .bool (inP k L.length)]) ∧ OwnB w' w.heap.size a c (takeV (L.map seenP) k).2 ∧ ∃ L', L'.map seenP = offV (L.map seenP) k st ∧ Mid w' B gb gr L' M ∧ Below B w w' ∧ StayT 46 56 w w' := by
  obtain ⟨⟨ra, rc, h1⟩, ⟨rb, rd, h2⟩, h3, h4, h5, h6⟩ := h
  cases hok : inP k L.length
  · have hv := takeV_no (M := L.map seenP) (k := k) (by rw [List.length_map]; exact hok)
    rw [hv]
    refine (take_no gb ra L.length rc k st w h1.2.1 (of_decide_eq_false hok)).mono ?_
    rintro e w' ⟨he, rfl⟩
    refine ⟨none, 0, he, Own.nil _ _ _ _, L, ?_, ⟨⟨ra, rc, h1⟩, ⟨rb, rd, h2⟩, h3, h4, h5, h6⟩, Below.refl _ _, StayT.refl _ _ _⟩
    unfold offV
    rw [List.length_map, hok]; rfl
  · obtain ⟨j, rfl, hj⟩ := inP_nat hok
    rw [takeV_at L j hj]
    have hx := h5 _ (List.getElem_mem hj)
    cases st
    · refine (take_off B gb ra rc L j w h1 hj (by omega) (by omega) h6).mono ?_
      rintro e w' ⟨a, c, he, ho, hp, hb, hs, _⟩
      refine ⟨a, c, he, ho, _, ?_, ⟨⟨ra, rc, hp⟩, ⟨rb, rd, h2.stayN hs⟩, by rw [List.length_eraseIdx]; split <;> omega, h4, fun p hq => h5 p (List.mem_of_mem_eraseIdx hq), Nat.le_trans h6 hs.1⟩, hb, hs⟩
      unfold offV
      rw [List.length_map, hok, map_erase]; rfl
    · refine (take_stay B gb ra rc L j w h1 hj (by omega)).mono ?_
      rintro e w' ⟨a, c, he, ho, hb⟩
      have hs := StayT.of_below (T1 := 46) (T2 := 56) hb
      refine ⟨a, c, he, ho, L, ?_, ⟨⟨ra, rc, h1.mono hb⟩, ⟨rb, rd, h2.mono hb⟩, h3, h4, h5, Nat.le_trans h6 hs.1⟩, hb.mono h6, hs⟩
      unfold offV
      rw [List.length_map, hok]; rfl
theorem r_take (B gb gr : Nat) (L : List PkT) (M : List (Int × List UInt8)) (k : Int) (st : Bool) (w : World) (h : Mid w B gb gr L M) :
    Calls Try.prog 15 #[.pointer (some ⟨gr, 0, none⟩), .int .i64 k, .bool st] w fun e w' => e = .returned (.tuple #[.int .i64 (takeV M k).1, .string ⟨(takeV M k).2.toArray⟩, .bool (inP k M.length)]) ∧ Mid w' B gb gr L (offV M k st) ∧ Below B w w' ∧ StayT 28 52 w w' := by
  obtain ⟨⟨ra, rc, h1⟩, ⟨rb, rd, h2⟩, h3, h4, h5, h6⟩ := h
  unfold offV
  cases hok : inP k M.length
  · rw [takeV_no hok]
    refine (rtake_no gr rb M.length rd k st w h2.2.1 (of_decide_eq_false hok)).mono ?_
    rintro e w' ⟨he, rfl⟩
    exact ⟨he, ⟨⟨ra, rc, h1⟩, ⟨rb, rd, h2⟩, h3, h4, h5, h6⟩, Below.refl _ _, StayT.refl _ _ _⟩
  · obtain ⟨j, rfl, hj⟩ := inP_nat hok
    rw [takeV_at' M j hj]
    cases st
    · refine (rtake_off B gr rb rd M j w h2 hj h4 h6).mono ?_
      rintro e w' ⟨he, rb', rd', hp, hb, hs⟩
      exact ⟨he, ⟨⟨ra, rc, h1.stayR hs⟩, ⟨rb', rd', hp⟩, h3, by show (M.eraseIdx j).length ≤ 200; rw [List.length_eraseIdx]; split <;> omega, h5, Nat.le_trans h6 hs.1⟩, hb, hs⟩
    · refine (rtake_stay B gr rb rd M j w h2 hj h4 h6).mono ?_
      rintro e w' ⟨he, hb⟩
      have hs := StayT.of_below (T1 := 28) (T2 := 52) hb
      exact ⟨he, ⟨⟨ra, rc, h1.mono hb⟩, ⟨rb, rd, h2.mono hb⟩, h3, h4, h5, Nat.le_trans h6 hs.1⟩, hb.mono h6, hs⟩

theorem c_drop (B gb gr : Nat) (L : List PkT) (M : List (Int × List UInt8)) (k : Int) (w : World) (h : Mid w B gb gr L M) :
    Calls Try.prog 16 #[.pointer (some ⟨gb, 0, none⟩), .int .i64 k] w fun e w' => e = .returned (.bool (inP k L.length)) ∧ ∃ L', L'.map seenP = offV (L.map seenP) k false ∧ Mid w' B gb gr L' M ∧ Below B w w' ∧ StayT 46 56 w w' := by
  obtain ⟨⟨ra, rc, h1⟩, ⟨rb, rd, h2⟩, h3, h4, h5, h6⟩ := h
  cases hok : inP k L.length
  · refine (drop_no gb ra L.length rc k w h1.2.1 (of_decide_eq_false hok)).mono ?_
    rintro e w' ⟨he, rfl⟩
    refine ⟨he, L, ?_, ⟨⟨ra, rc, h1⟩, ⟨rb, rd, h2⟩, h3, h4, h5, h6⟩, Below.refl _ _, StayT.refl _ _ _⟩
    unfold offV
    rw [List.length_map, hok]; rfl
  · obtain ⟨j, rfl, hj⟩ := inP_nat hok
    refine (drop_yes B gb ra rc L j w h1 hj (by omega)).mono ?_
    rintro e w' ⟨he, hp, hb, _, hs, _⟩
    refine ⟨he, _, ?_, ⟨⟨ra, rc, hp⟩, ⟨rb, rd, h2.stayN hs⟩, by rw [List.length_eraseIdx]; split <;> omega, h4, fun p hq => h5 p (List.mem_of_mem_eraseIdx hq), Nat.le_trans h6 hs.1⟩, hb h6, hs⟩
    unfold offV
    rw [List.length_map, hok, map_erase]; rfl
theorem r_drop (B gb gr : Nat) (L : List PkT) (M : List (Int × List UInt8)) (k : Int) (w : World) (h : Mid w B gb gr L M) :
    Calls Try.prog 17 #[.pointer (some ⟨gr, 0, none⟩), .int .i64 k] w fun e w' => e = .returned (.bool (inP k M.length)) ∧ Mid w' B gb gr L (offV M k false) ∧ Below B w w' ∧ StayT 28 52 w w' := by
  obtain ⟨⟨ra, rc, h1⟩, ⟨rb, rd, h2⟩, h3, h4, h5, h6⟩ := h
  unfold offV
  cases hok : inP k M.length
  · refine (rdrop_no gr rb M.length rd k w h2.2.1 (of_decide_eq_false hok)).mono ?_
    rintro e w' ⟨he, rfl⟩
    exact ⟨he, ⟨⟨ra, rc, h1⟩, ⟨rb, rd, h2⟩, h3, h4, h5, h6⟩, Below.refl _ _, StayT.refl _ _ _⟩
  · obtain ⟨j, rfl, hj⟩ := inP_nat hok
    refine (rdrop_yes B gr rb rd M j w h2 hj h4 h6).mono ?_
    rintro e w' ⟨he, rb', rd', hp, hb, hs, _⟩
    exact ⟨he, ⟨⟨ra, rc, h1.stayR hs⟩, ⟨rb', rd', hp⟩, h3, by show (M.eraseIdx j).length ≤ 200; rw [List.length_eraseIdx]; split <;> omega, h5, Nat.le_trans h6 hs.1⟩, hb, hs⟩
theorem c_lose (B gb gr : Nat) (L : List PkT) (M : List (Int × List UInt8)) (node : Int) (w : World) (h : Mid w B gb gr L M) :
    Calls Try.prog 18 #[.pointer (some ⟨gb, 0, none⟩), .int .i64 node] w fun e w' => e = .returned (.tuple #[]) ∧ ∃ L', L'.map seenP = loseV (L.map seenP) node ∧ Mid w' B gb gr L' M ∧ Below B w w' ∧ StayT 46 56 w w' := by
  obtain ⟨⟨ra, rc, h1⟩, ⟨rb, rd, h2⟩, h3, h4, h5, h6⟩ := h
  refine (lose_any B gb ra rc L node w h1 (by omega) h6).mono ?_
  rintro e w' ⟨he, ra', rc', hp, hb, hs⟩
  exact ⟨he, _, map_lose node L, ⟨⟨ra', rc', hp⟩, ⟨rb, rd, h2.stayN hs⟩, Nat.le_trans (List.length_filter_le _ _) h3, h4, fun p hq => h5 p (List.mem_filter.1 hq).1, Nat.le_trans h6 hs.1⟩, hb, hs⟩
theorem r_lose (B gb gr : Nat) (L : List PkT) (M : List (Int × List UInt8)) (node : Int) (w : World) (h : Mid w B gb gr L M) :
    Calls Try.prog 19 #[.pointer (some ⟨gr, 0, none⟩), .int .i64 node] w fun e w' => e = .returned (.tuple #[]) ∧ Mid w' B gb gr L (loseV M node) ∧ Below B w w' ∧ StayT 28 52 w w' := by
  obtain ⟨⟨ra, rc, h1⟩, ⟨rb, rd, h2⟩, h3, h4, h5, h6⟩ := h
  refine (rlose_any B gr rb rd M node w h2 h4 h6).mono ?_
  rintro e w' ⟨he, rb', rd', hp, hb, hs, _⟩
  exact ⟨he, ⟨⟨ra, rc, h1.stayR hs⟩, ⟨rb', rd', hp⟩, h3, Nat.le_trans (List.length_filter_le _ _) h4, h5, Nat.le_trans h6 hs.1⟩, hb, hs⟩

theorem c_send2 (B gb gr : Nat) (L : List PkT) (M : List (Int × List UInt8)) (hM : L.map seenP = M) (to : Int) (a : Option Addr) (c m : Nat) (ys : List UInt8) (w : World) (h : Mid w B gb gr L M) (hr : RowB w a c ys) (hm : m = ys.length) (hy : m ≤ 50) :
    Calls Try.prog 10 #[.pointer (some ⟨gb, 0, none⟩), .int .i64 to, .slice a m c] w fun e w' => e = .returned (.bool (okTo to M.length)) ∧ ∃ L', L'.map seenP = sendV M to ys ∧ Mid w' B gb gr L' M ∧ Below B w w' ∧ StayT 46 56 w w' := by
  subst hM
  have := c_send B gb gr L _ to a c m ys w h hr hm hy
  rw [List.length_map]
  exact this
theorem c_take2 (B gb gr : Nat) (L : List PkT) (M : List (Int × List UInt8)) (hM : L.map seenP = M) (k : Int) (st : Bool) (w : World) (h : Mid w B gb gr L M) :
    Calls Try.prog 13 #[.pointer (some ⟨gb, 0, none⟩), .int .i64 k, .bool st] w fun e w' => ∃ a c, e = .returned (.tuple #[.int .i64 (takeV M k).1, .slice a (takeV M k).2.length c, .bool (inP k M.length)]) ∧ OwnB w' w.heap.size a c (takeV M k).2 ∧ ∃ L', L'.map seenP = offV M k st ∧ Mid w' B gb gr L' M ∧ Below B w w' ∧ StayT 46 56 w w' := by
  subst hM
  have := c_take B gb gr L _ k st w h
  rw [List.length_map]
  exact this
theorem c_drop2 (B gb gr : Nat) (L : List PkT) (M : List (Int × List UInt8)) (hM : L.map seenP = M) (k : Int) (w : World) (h : Mid w B gb gr L M) :
    Calls Try.prog 16 #[.pointer (some ⟨gb, 0, none⟩), .int .i64 k] w fun e w' => e = .returned (.bool (inP k M.length)) ∧ ∃ L', L'.map seenP = offV M k false ∧ Mid w' B gb gr L' M ∧ Below B w w' ∧ StayT 46 56 w w' := by
  subst hM
  have := c_drop B gb gr L _ k w h
  rw [List.length_map]
  exact this
theorem c_lose2 (B gb gr : Nat) (L : List PkT) (M : List (Int × List UInt8)) (hM : L.map seenP = M) (node : Int) (w : World) (h : Mid w B gb gr L M) :
    Calls Try.prog 18 #[.pointer (some ⟨gb, 0, none⟩), .int .i64 node] w fun e w' => e = .returned (.tuple #[]) ∧ ∃ L', L'.map seenP = loseV M node ∧ Mid w' B gb gr L' M ∧ Below B w w' ∧ StayT 46 56 w w' := by
  subst hM
  exact c_lose B gb gr L _ node w h
end Go.Proofs.Ytgigadjohjpdkaa
