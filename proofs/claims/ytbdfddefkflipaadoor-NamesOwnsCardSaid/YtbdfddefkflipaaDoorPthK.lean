/- The statements of stage 5: NamesOwns. -/
import Derived.Test.YtbdfddefkflipaaDoorPthH
import Derived.ArgAppend
namespace Go.Proofs.YtbdfddefkflipaaDoor
open Go.RowKit Go.Shelf
set_option linter.unusedSimpArgs false
set_option linter.unusedVariables false

theorem pathO_len {X : List UInt8} {L : List ByteArray} (h : pathO X = some L) : L.length ≤ 6 := by
  unfold pathO at h
  split at h
  · cases h; simp
  · unfold restO at h
    split at h
    · split at h
      · unfold namesO at h
        split at h
        · rename_i hq; cases h; rw [List.length_map]; exact hq.1
        · cases h
      · cases h
    · cases h
theorem getD_len {X : List UInt8} : ((pathO X).getD []).length ≤ 6 := by
  cases h : pathO X with
  | none => simp
  | some L => exact pathO_len h
theorem parent_u (X : List UInt8) (hX : X.length ≤ 1000) (w : World) :
    Calls Tryd.prog 18 #[.string (strB X)] w fun e w' => ∃ (L : List ByteArray) (a : Option Addr) (x : ByteArray) (er : Int), L.length ≤ 6 ∧ e = .returned (.tuple #[.slice a L.length L.length, .string x, .int .i64 er]) ∧ RowS w' a L.length L ∧ Below w.heap.size w w' := by
  cases ho : pathO X with
  | none => exact (parent_none X hX (.inl ho) w).mono fun e w' h => ⟨[], none, _, _, by simp, h.1, Row.nil _ _, h.2⟩
  | some L =>
    have hl := pathO_len ho
    rcases snoc_cases L with rfl | ⟨A, x, rfl⟩
    · exact (parent_none X hX (.inr ho) w).mono fun e w' h => ⟨[], none, _, _, by simp, h.1, Row.nil _ _, h.2⟩
    · exact (parent_some X hX ho w).mono fun e w' h => by
        obtain ⟨a, h1, h2, h3⟩ := h
        exact ⟨A, a, x, 0, by simp at hl; omega, h1, h2, h3⟩

/-- 'append(s, x...)' where s is full: a new row. -/
theorem wpl_appendG {P : Program} {w : World} {ops : Array Oper} {rest : List Oper} {o : Oper} {act : Act} {Q : Exit → Act → World → Prop} (hgd : o.guard = none) (s x : Operand) {t e : TypeId} {sz bytes : Nat}
    (ho : o.op = .call { callee := .builtin .append, args := #[s, x], argTypes := #[t, t] }) (E : ElemT P t e sz bytes)
    {a1 : Option Addr} {ad : Addr} {n m c2 : Nat} {cs ds : List Value} (hs : act.eval s = .slice a1 n n) (hx : act.eval x = .slice (some ad) m c2)
    (hold : Row w sz a1 n n cs) (hrow : Row w sz (some ad) m c2 ds) (h1 : ∀ u ∈ ds, u.oneCell' = true) (hm : 0 < m)
    (hbytes : (n + m) * bytes ≤ 140737488355328) (h63 : n + m ≤ 9223372036854775807)
    (h : ∀ a' c' w', Own w' w.heap.size e sz a' (n + m) c' (cs ++ ds) → Below w.heap.size w w' → wpList P ops Q rest (act.put o.dst (.slice a' (n + m) c')) w') :
    wpList P ops Q (o :: rest) act w := by
  obtain ⟨under, ⟨i, z, hi, hz, hsize, hby, hzs⟩, hsz⟩ := E
  obtain ⟨g1, g2, g3, g4, g5⟩ := hrow
  obtain ⟨k1, k2, k3, k4, k5⟩ := hold
  refine wpList_append_grows w hgd s x t ho e i z sz bytes under hi hz hsize hby hzs hsz a1 n n cs hs (fun q => by have := k4 q; omega) k1 ?_ ad m c2 ds hx g1 ?_ h1 (by omega) (by unfold maxLen; omega) hbytes ?_
  · intro b hb j u hu
    rcases Nat.eq_zero_or_pos n with h0 | h0
    · subst h0; simp at k1; subst k1; simp at hu
    · obtain ⟨b', o', e', _, hc⟩ := k5 h0
      rw [hb] at e'
      cases e'
      have := hc j u hu
      unfold Addr.add
      split
      · subst j; simpa using this
      · exact this
  · intro j u hu
    obtain ⟨b, off, e1, _, hc⟩ := g5 hm
    cases e1
    have := hc j u hu
    unfold Addr.add
    split
    · subst j; simpa using this
    · exact this
  · intro v' w' h2 h3
    obtain ⟨a', c', rfl, h5⟩ := ownsRow_own h2
    exact h a' c' w' h5 ((Below.refl _ w).grown h3 (Nat.le_refl _) (fun k hk => by cases hk))

set_option maxHeartbeats 2000000 in
theorem NamesOwns_walk (w : World) (s : ByteArray) (ws : s.size ≤ maxLen) : Calls Tryd.prog 10 #[.string s] w fun e w' => e = .returned (.bool true) ∧ Below w.heap.size w w' := by
  have HF := hid (fun w1 => few5_any s w1)
  have hX := fewL_len s.data.toList
  generalize fewL s.data.toList = X at *
  have H1 := fun w1 => path_any X hX w1
  have H2 := fun w1 => pathRef_any X hX w1
  have HP := hid (fun w1 => parent_u X hX w1)
  unfold PathP at H1 H2
  have hl6 := getD_len (X := X)
  generalize pathO X = o at *
  have HS := fun a b c d w1 h1 h2 => sameS_any (o.getD []) a b c d w1 h1 h2
  generalize erO o = er at *
  generalize o.getD [] = L at *
  have H1 := hid H1; have H2 := hid H2; have HS := hid HS
  clear ws hX
  go_enter Tryd.func10, Tryd.ntmps10
  go_wp2_with (go_at_call 11; fail)
  refine (HF.out _).mono ?_
  rintro e w1 ⟨rfl, rfl⟩
  go_wp2_with (go_at_call 15; fail)
  refine (H1.out _).mono ?_
  rintro e w2 ⟨a2, c2, rfl, o2, b2⟩
  have hblk : 0 < L.length → ∃ g Lb, a2 = some ⟨g, 0, none⟩ ∧ Blk w2 g 9 Lb ∧ L.length ≤ Lb.length ∧ w.heap.size ≤ g := fun h => by
    obtain ⟨g, rfl⟩ := own_someO o2 h
    obtain ⟨Lb, h1, h2, h3, _⟩ := own_splice o2
    exact ⟨g, Lb, rfl, h1, by omega, h3⟩
  have HB := hid hblk; have B2 := hid b2
  clear hblk b2 o2
  go_wp2_with fail
  go_loopw [5] (fun i wr => ∃ k : Nat, k ≤ L.length ∧ i = .int .i64 k ∧ (0 < L.length → ∃ g Lb, a2 = some ⟨g, 0, none⟩ ∧ Blk wr g 9 Lb ∧ L.length ≤ Lb.length ∧ w.heap.size ≤ g) ∧ Below w.heap.size w wr) (fun i _ => L.length - (intOf i).toNat)
  case atStart => exact ⟨0, by omega, rfl, HB.out, B2.out⟩
  case round =>
    obtain ⟨k, hk, rfl, hbl, hb⟩ := hrel
    by_cases hkl : k < L.length
    · obtain ⟨g, Lb, rfl, hg, hlb, hgw⟩ := hbl (by omega)
      have HG := hid hg; have HBL := hid hb
      have ck := hg.cell (i := k) (by omega)
      have fk := hg.frozen k
      have ik : (k : Int) < L.length := by omega
      have dk : decide ((k : Int) < (L.length : Int)) = true := decide_eq_true ik
      clear hb hg HB B2
      generalize Lb[k] = v at *
      go_wp2_with fail
      go_roundw
      case rel => exact ⟨k + 1, by omega, by go_num, (fun _ => ⟨g, _, rfl, HG.out.set k _, by rw [List.length_set]; exact hlb, hgw⟩), HBL.out.setCell (p := ⟨g, k, none⟩) hgw _⟩
      case measure => simp [intOf]; omega
    · obtain rfl : k = L.length := by omega
      have dk : decide ((L.length : Int) < (L.length : Int)) = false := decide_eq_false (by omega)
      have HBL := hid hb
      clear hb hbl HB B2
      go_wp2_with (go_at_call 18; fail)
      refine (HP.out _).mono ?_
      rintro e w3 ⟨P3, a3, x3, er3, hp6, rfl, r3, b3⟩
      have B3 := hid (kept_trans HBL.out b3); have R3 := hid r3
      have N3 := hid (row_blkO (blk_newO (W := w3) rfl 9 [.string ⟨#[121]⟩]) 1 1 rfl (by omega))
      clear b3 r3
      go_wp2_with (first
        | (at_builtin; (refine wpl_appendG rfl (.tmp 36) (.tmp 37) rfl ES rfl rfl (R3.out.alloc (.cells #[.string ⟨#[121]⟩] 9)) N3.out (by intro u hu; simp only [List.mem_cons, List.not_mem_nil, or_false] at hu; subst hu; rfl) (by omega) (by omega) (by omega) ?_); intro a4 c4 w4 o4 b4; have B4 := hid (kept_trans (kept_alloc B3.out _) b4); clear o4 b4)
        | (go_at_call 15; fail))
      refine (H1.out _).mono ?_
      rintro e w5 ⟨a5, c5, rfl, o5, b5⟩
      have B5 := hid (kept_trans B4.out b5); have O5 := hid o5
      clear b5 o5
      go_wp2_with (go_at_call 16; fail)
      refine (H2.out _).mono ?_
      rintro e w6 ⟨a6, c6, rfl, o6, b6⟩
      have B6 := hid (kept_trans B5.out b6); have R5 := hid (O5.out.mono b6).row; have R6 := hid o6.row
      clear b6 o6
      go_wp2_with (go_at_call 17; fail)
      refine (HS.out _ _ _ _ _ R5.out R6.out).mono ?_
      rintro e w7 ⟨rfl, b7⟩
      have B7 := hid (kept_trans B6.out b7)
      have dp : decide ((0 : Int) < (P3.length : Int) + 1) = true := decide_eq_true (by omega)
      clear b7
      go_wp2_with (go_at_call 14; fail)
      refine (lives5_any _).mono ?_
      rintro e w8 ⟨rfl, b8⟩
      have B8 := hid (kept_trans B7.out b8)
      clear b8
      go_wp2_with fail
      go_ret
      exact ⟨rfl, B8.out⟩
end Go.Proofs.YtbdfddefkflipaaDoor
