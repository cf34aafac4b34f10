import Derived.Test.YtlbinnopaogleaaNumN
namespace Go.Proofs.Ytlbinnopaogleaa
open Go.RowKit
set_option linter.unusedSimpArgs false
set_option linter.unusedVariables false

/-- 'make([]T, 0, n)'. -/
theorem wpl_make0 {P : Program} {w : World} {ops : Array Oper} {rest : List Oper} {o : Oper} {act : Act} {Q : Exit → Act → World → Prop} (hgd : o.guard = none) (l c : Operand) {t e : TypeId} {sz bytes : Nat} {z : Value}
    (ho : o.op = Op.makeSlice t l c) (under : P.underlying t = some (.slice e)) (hinfo : (P.info? e).map (fun i => (i.zero, i.size, i.bytes)) = some (some z, sz, bytes))
    {kl kc : IntKind} {C : Int} {n : Nat} (hl : act.eval l = .int kl 0) (hc : act.eval c = .int kc C) (hC : C = (n : Int)) (hb : bytes * n ≤ 281474976710656) (hn : n ≤ 9223372036854775807)
    (h : ∀ w', Own w' w.heap.size e sz (some ⟨w.heap.size, 0, none⟩) 0 n [] → Below w.heap.size w w' → wpList P ops Q rest (act.put o.dst (.slice (some ⟨w.heap.size, 0, none⟩) 0 n)) w') :
    wpList P ops Q (o :: rest) act w := by
  obtain ⟨i, h0, h1, h2, h3⟩ := info_parts hinfo
  exact wpList_make_own w hgd l c t ho w.heap.size e i z sz under h0 h1 h2 kl kc C n hl hc hC (by rw [h3]; exact hb) (by unfold maxLen; omega) (Nat.le_refl _)
    (fun w' hown hgrow => h w' hown ((Below.refl _ w).grown hgrow (Nat.le_refl _) (fun k hk => by cases hk)))

/-- 'append(s, x...)' within the capacity. -/
theorem wpl_append_fits {P : Program} {w : World} {ops : Array Oper} {rest : List Oper} {o : Oper} {act : Act} {Q : Exit → Act → World → Prop} (hgd : o.guard = none) (s x : Operand) {t e : TypeId} {sz bytes : Nat}
    (ho : o.op = .call { callee := .builtin .append, args := #[s, x], argTypes := #[t, t] }) (E : ElemT P t e sz bytes) (B : Nat)
    {g : Nat} {a2 : Option Addr} {n c m c2 : Nat} {cs ds : List Value} (hs : act.eval s = .slice (some ⟨g, 0, none⟩) n c) (hx : act.eval x = .slice a2 m c2)
    (hown : Own w B e sz (some ⟨g, 0, none⟩) n c cs) (hrow : Row w sz a2 m c2 ds) (h1 : ∀ u ∈ ds, u.oneCell' = true) (hfit : n + m ≤ c)
    (h : ∀ w', Own w' B e sz (some ⟨g, 0, none⟩) (n + m) c (cs ++ ds) → w.grownBy w' (some g) → wpList P ops Q rest (act.put o.dst (.slice (some ⟨g, 0, none⟩) (n + m) c)) w') :
    wpList P ops Q (o :: rest) act w := by
  obtain ⟨under, ⟨i, z, hi, hz, hsize, hby, hzs⟩, hsz⟩ := E
  refine wpList_append_fits_any w hgd s x t ho B e i sz under hi hsize g n c cs hs hown a2 m c2 ds hx hrow.1 (fun e1 => ?_) (fun ad e1 j u hu => ?_) h1 hfit h
  · have := hrow.2.2.2.1 e1; have := hrow.2.1; omega
  · have hm : 0 < m := by
      rcases Nat.eq_zero_or_pos m with h0 | h0
      · subst h0; have := hrow.1; simp at this; subst this; simp at hu
      · exact h0
    obtain ⟨b, off, e2, _, hc⟩ := hrow.at hm
    rw [e1] at e2; cases e2
    have := hc j u hu
    unfold Addr.add
    split
    · subst j; simpa using this
    · exact this

def v77 : Value := .int .u8 77

set_option maxHeartbeats 1000000 in
theorem NumOwns_walk (w : World) (a : Option Addr) (c : Nat) (xs : List UInt8) (r : RowB w a c xs) (n : Int) (hn : (Lit.int .i64 n).wf = true) (k : Int) (hk : (Lit.int .i64 k).wf = true) :
    Calls Try.prog 11 #[.slice a xs.length c, .int .i64 n, .int .i64 k] w fun e w' => e = .returned (.bool true) ∧ Below w.heap.size w w' := by
  have t1 : True := trivial
  have hn9 := i64_bd hn
  have hl := rowB_len r
  have r2 := rowB_take r 100
  have h100 := len100 xs
  clear hn hk
  go_enter Try.func11, Try.ntmps11
  go_wp2_with (first
    | (at_make; refine wpl_make0 rfl (.const (.int .i64 0)) (.const (.int .i64 130)) rfl Try.underlying22 info8 (n := 130) rfl rfl rfl (by omega) (by omega) ?_; intro w1 o1 b1))
  refine (few_any a c xs w1 (r.mono b1) hl).mono ?_
  rintro e w' ⟨rfl, rfl⟩
  generalize hys' : xs.take 100 = ys at *
  have hys := hid hys'; clear hys'
  have r3 := r2.mono b1
  go_wp2_with (first
    | (at_builtin; have _t := t1; refine wpl_append_fits rfl (.tmp 15) (.tmp 17) rfl E8 w.heap.size rfl rfl o1 r3 (byteV_one ys) (by omega) ?_; clear t1; intro w2 o2 g2; simp only [Nat.zero_add, List.nil_append] at o2; have _e : ¬ 130 = ys.length := (by omega)))
  obtain ⟨Z, hblk, _, _, hZc⟩ := own_bytes o2
  have bb2 : Below w.heap.size w w2 := b1.grown g2 b1.size (fun k hk => by cases hk; exact Nat.le_refl _)
  have hZ : Z.length = 130 - ys.length := by omega
  clear o1 o2 g2 r2 r3
  have hLl : (ys.map byteV ++ Z).length = 130 := by simp; omega
  have hfin : splice (ys.map byteV ++ Z) ys.length (List.replicate 8 v77) = ys.map byteV ++ (List.replicate 8 v77 ++ Z.drop 8) := by
    unfold splice
    rw [List.take_left' (by simp), List.drop_append, List.drop_of_length_le (by simp)]
    simp
  have HFIN := hid hfin; clear hfin
  generalize ys.map byteV ++ Z = L at *
  go_loopw [9] (fun i wr => ∃ j : Nat, j ≤ 8 ∧ i = .int .i64 j ∧ Blk wr w.heap.size 5 (splice L ys.length (List.replicate j v77)) ∧ Below w.heap.size w wr) (fun i _ => 8 - (intOf i).toNat)
  case atStart => exact ⟨0, Nat.zero_le _, rfl, by simpa [splice] using hblk, bb2⟩
  case round =>
    obtain ⟨j, hj, rfl, hb, hbel⟩ := hrel
    have hl2 : (splice L ys.length (List.replicate j v77)).length = 130 := by rw [length_splice _ _ _ (by simp; omega), hLl]
    by_cases hlt : j < 8
    · obtain ⟨old, hcell⟩ := hb.someCell (i := ys.length + j) (by omega)
      have hfr := hb.frozen (ys.length + j)
      have hset := hb.set (ys.length + j) v77
      have es := splice_set L ys.length (List.replicate j v77) v77 (by simp; omega)
      rw [List.length_replicate] at es
      rw [es, show List.replicate j v77 ++ [v77] = List.replicate (j + 1) v77 from by rw [List.replicate_succ'], show v77 = Value.int .u8 77 from rfl] at hset
      have HS := hid hset
      clear hset hb es hl2 hLl
      go_wp2
      go_roundw
      case rel => exact ⟨j + 1, by omega, by go_num, HS.out, hbel.setCell (Nat.le_refl _) _⟩
      case measure => simp [intOf]; omega
    · obtain rfl : j = 8 := by omega
      rw [HFIN.out] at hb
      have hw3 := Nat.lt_of_lt_of_le hb.lt (Nat.le_refl _)
      have rroom := blk_row hb (c := 130) (by simp; omega) (by omega)
      have hcell : ∀ i, i < 8 → wr.cell? ⟨w.heap.size, ys.length + i, none⟩ = some (.int .u8 77) := fun i hi => by
        have h1 := hb.cell (i := ys.length + i) (by simp; omega)
        rw [h1]
        congr 1
        rw [List.getElem_append_right (by simp), List.getElem_append_left (by simp; omega), List.getElem_replicate]
        rfl
      go_wp2_with fail
      refine (put_any (some ⟨w.heap.size, 0, none⟩) 130 ys n k wr rroom (by omega) hn9.2).mono ?_
      rintro e w4 ⟨a4, c4, rfl, o4, b4⟩
      have hcell4 : ∀ i, i < 8 → w4.cell? ⟨w.heap.size, ys.length + i, none⟩ = some (.int .u8 77) := fun i hi => (b4.cell (by exact hb.lt)).trans (hcell i hi)
      have rroom4 := rroom.mono b4
      have bb4 := kept_trans hbel b4
      have HC := hid hcell4
      clear hcell hcell4 rroom hbel b4 hb hl2 hLl hblk
      go_wp2_with fail
      go_loop [11] (fun i => ∃ j : Nat, j ≤ 8 ∧ i = .int .i64 j) (fun i => 8 - (intOf i).toNat)
      case atStart => exact ⟨0, Nat.zero_le _, rfl⟩
      case round =>
        obtain ⟨j, hj, rfl⟩ := hrel
        by_cases hlt : j < 8
        · have h7 := HC.out j hlt
          go_wp2
          go_round
          case rel => exact ⟨j + 1, by omega, by go_num⟩
          case measure => simp [intOf]; omega
        · obtain rfl : j = 8 := by omega
          have rx := r.mono bb4
          go_wp2_with fail
          refine (few_any a c xs w4 rx hl).mono ?_
          rintro e w' ⟨rfl, rfl⟩
          have ry := rowB_take rx 100
          rw [hys.out] at ry
          rw [hys.out]
          go_wp2_with fail
          refine (same_any _ a _ c ys ys w4 rroom4 ry (by omega) (by omega)).mono ?_
          rintro e w5 ⟨rfl, b5⟩
          rw [decide_eq_true rfl]
          go_wp2_with fail
          refine (few_any a c xs w5 (rx.mono b5) hl).mono ?_
          rintro e w' ⟨rfl, rfl⟩
          rw [hys.out]
          go_wp2_with fail
          refine (putRef_any a c ys n k w5 (ry.mono b5) (by omega) hn9.2).mono ?_
          rintro e w6 ⟨a6, c6, rfl, o6, b6⟩
          go_wp2_with fail
          refine (same_any a4 a6 c4 c6 _ _ w6 ((o4.mono b5).mono b6).row o6.row (rowB_len o4.row) (rowB_len o4.row)).mono ?_
          rintro e w7 ⟨rfl, b7⟩
          rw [decide_eq_true rfl]
          go_wp2_with fail
          refine (lives_any _).mono ?_
          rintro e w8 ⟨rfl, b8⟩
          go_wp2_with fail
          go_ret
          exact ⟨rfl, kept_trans (kept_trans (kept_trans (kept_trans bb4 b5) b6) b7) b8⟩


end Go.Proofs.Ytlbinnopaogleaa
