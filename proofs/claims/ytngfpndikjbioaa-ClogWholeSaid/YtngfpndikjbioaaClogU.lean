import Derived.Test.YtngfpndikjbioaaClogT
namespace Go.Proofs.Ytngfpndikjbioaa
open Go.RowKit
set_option linter.unusedSimpArgs false
set_option linter.unusedVariables false

theorem row_newf16 (w : World) (L : List Value) (e : TypeId) (fr : Nat × Nat) (hl : L.length ≤ 9223372036854775807) : Row (w.alloc (.cells L.toArray e fr)) 1 (some ⟨w.heap.size, 0, none⟩) L.length L.length L := by
  refine ⟨by simp, Nat.le_refl _, by unfold maxLen; omega, fun h => by (cases h), fun _ => ⟨w.heap.size, 0, rfl, by simp, fun j u hu => ?_⟩⟩
  have hh := heap_alloc_new w (.cells L.toArray e fr)
  unfold World.cell?
  rw [show (⟨w.heap.size, 0 + j, none⟩ : Addr).block = w.heap.size from rfl, hh]
  simpa using hu
theorem byteV_ofNat16 {n : Nat} (h : n ≤ 255) : byteV (UInt8.ofNat n) = .int .u8 (n : Int) := by
  unfold byteV
  rw [show (UInt8.ofNat n).toNat = n from by simp; omega]
theorem pair_eq16 (l : List UInt8) (E I : Nat) : l.length + 2 = (l ++ [UInt8.ofNat E, UInt8.ofNat I]).length := by simp
theorem pair_row16 {w : World} {g : Nat} {a : Option Addr} {c E I : Nat} {l : List UInt8} (hE : E ≤ 255) (hI : I ≤ 255) (o : Own w g 5 1 a (l.length + 2) c (l.map byteV ++ [.int .u8 (E : Int), .int .u8 (I : Int)])) :
    RowB w a c (l ++ [UInt8.ofNat E, UInt8.ofNat I]) := by
  have := o.row
  rw [← byteV_ofNat16 hE, ← byteV_ofNat16 hI] at this
  unfold RowB
  simpa using this
theorem one_own16 {w : World} {g : Nat} {a : Option Addr} {c E : Nat} {l : List UInt8} (hE : E ≤ 255) (o : Own w g 5 1 a (l.length + 1) c (l.map byteV ++ [.int .u8 (E : Int)])) :
    Own w g 5 1 a (l.length + 1) c ((l ++ [UInt8.ofNat E]).map byteV) := by
  rw [← byteV_ofNat16 hE] at o
  simpa using o
theorem str_len1 {x3 X : List UInt8} {b : UInt8} {s : ByteArray} (h : X = (x3 ++ [b]) ++ s.data.toList) : x3.length + 1 + s.size = X.length := by
  rw [h]; simp; omega
theorem str_own1 {w : World} {g : Nat} {a : Option Addr} {c : Nat} {x3 X : List UInt8} {b : UInt8} {s : ByteArray} (h : X = (x3 ++ [b]) ++ s.data.toList) (o : Own w g 5 1 a (x3.length + 1 + s.size) c ((x3 ++ [b]).map byteV ++ s.data.toList.map byteV)) : OwnB w g a c X := by
  rw [← List.map_append, ← h, str_len1 h] at o
  exact o
theorem recX_ref {c o : Int} {I : Nat} {t : Bool} {T : Nat} {s : ByteArray} (hI : I ≤ 255) (hs : s.size ≤ 255) (hT : T = if t then 1 else 0) :
    recX c I t o s = (putF (putF [] c 8 ++ [UInt8.ofNat I, UInt8.ofNat T]) o 2 ++ [UInt8.ofNat s.size]) ++ s.data.toList := by
  have f1 : ∀ (l : List UInt8) (n : Nat), n ≤ 255 → putF l (n : Int) 1 = l ++ [UInt8.ofNat n] := fun l n hn => by
    have : fitsB (n : Int) 1 = true := by unfold fitsB; simp; omega
    unfold putF; rw [if_pos this]
    simp [le]
  have hTi : (if t then (1 : Int) else 0) = (T : Int) := by subst hT; cases t <;> rfl
  have hT9 : T ≤ 255 := by subst hT; cases t <;> simp
  unfold recX
  simp only [foldF, recF, List.foldl_cons, List.foldl_nil]
  rw [hTi, f1 _ _ hI, f1 _ _ hT9, f1 _ _ hs]
  simp

set_option maxRecDepth 20000 in
set_option maxHeartbeats 2000000 in
theorem encRef_any (c i : Int) (t : Bool) (o : Int) (s : ByteArray) (w : World) :
    Calls Try.prog 11 #[recV c i t o s] w fun en w' => ∃ a cc, en = .returned (.tuple #[.slice a (recL c i t o s).length cc, .int .i64 (if recMay c i t o s then 0 else 1)]) ∧ OwnB w' w.heap.size a cc (recL c i t o s) ∧ Below w.heap.size w w' := by
  have hmay := fun w1 => recMayRef_any c i t o s w1
  unfold recV at *
  by_cases hb : recMay c i t o s = true
  · have hL : recL c i t o s = padTo8 (recY c i t o s) := by unfold recL; rw [if_pos hb]
    have hE : (if recMay c i t o s then (0 : Int) else 1) = 0 := if_pos hb
    have hbd := recMay_iff hb
    rw [hL, hE]
    have HB := hid hb; have HM := hid hmay
    obtain ⟨q1, q2, q3, q4, q5, q6, hsz, q8, _⟩ := hbd
    obtain ⟨I, rfl⟩ := Int.eq_ofNat_of_zero_le (by omega : 0 ≤ i)
    have hI9 : I ≤ 255 := by omega
    have hs9 : s.size ≤ 255 := by omega
    have lX : (recX c I t o s).length ≤ 200 := by
      have h1 := foldF_length_le [] (recF c I t o s.size)
      have h2 : s.data.toList.length = s.size := by simp
      simp only [recX, List.length_append, h2]
      simp [recF] at h1 ⊢; omega
    have lY : (recY c I t o s).length ≤ 208 := by have := putF_length_le (recX c I t o s) (crcF (recX c I t o s) : Nat) 4; unfold recY; omega
    have hcl := crcF_lt (recX c I t o s)
    have HY := hid (show recY c I t o s = putF (recX c I t o s) (crcF (recX c I t o s) : Nat) 4 from rfl)
    have l1 : (putF [] c 8).length ≤ 8 := by have := putF_length_le [] c 8; simpa using this
    have t1 : True := trivial
    have t2 : True := trivial
    have t3 : True := trivial
    clear hb hL hE hmay
    cases t
    · skip
      have HXR := hid (recX_ref (c := c) (o := o) (t := false) (T := 0) hI9 hs9 (by simp))
      go_enter Try.func11, Try.ntmps11
      go_wp2_with fail
      refine (HM.out _).mono ?_
      rintro en w1 ⟨rfl, b1⟩
      rw [HB.out]
      have H0 : Blk (w.alloc (.cells #[.int .i64 c, .int .i64 (I : Int), .bool false, .int .i64 o, .string s] 23)) w.heap.size 23 [.int .i64 c, .int .i64 (I : Int), .bool false, .int .i64 o, .string s] := heap_alloc_new w _
      have H1 := Blk.mono H0 b1
      have hB1 : w.heap.size < w1.heap.size := Nat.lt_of_lt_of_le (by simp) b1.size
      have B1 := hid (below_trans ((Below.refl _ w).alloc (Nat.le_refl _) _) b1 (by simp))
      have k0 := Blk.cell H1 (i := 0) (by simp)
      simp only [List.getElem_cons_zero, List.getElem_cons_succ] at k0
      clear H0 b1 HM
      go_wp2_with fail
      refine (putRef_any none 0 [] c 8 w1 (Row.nil _ _) (by simp) (by omega)).mono ?_
      rintro en w2 ⟨p2, c2, rfl, o2, b2⟩
      have H2 := Blk.mono H1 b2
      have s2 : w1.heap.size ≤ w2.heap.size := b2.size
      have B2 := hid (below_trans B1.out b2 B1.out.size)
      have k1 := Blk.cell H2 (i := 1) (by simp)
      have k2 := Blk.cell H2 (i := 2) (by simp)
      simp only [List.getElem_cons_zero, List.getElem_cons_succ] at k1 k2
      clear H1 k0 b2 B1
      generalize putF [] c 8 = x1 at *
      have rb := row_newf16 w2 [byteV (UInt8.ofNat I), byteV (UInt8.ofNat 0)] 5 (0, 0) (by simp)
      rw [byteV_ofNat16 hI9, byteV_ofNat16 (by omega)] at rb
      change Row _ 1 _ 2 2 _ at rb
      have oB := Own.alloc o2 (.cells #[.int .u8 (I : Int), .int .u8 0] 5)
      have H3 := Blk.mono H2 ((Below.refl w2.heap.size w2).alloc (Nat.le_refl _) (.cells #[.int .u8 (I : Int), .int .u8 0] 5))
      have B3 := hid (B2.out.alloc B2.out.size (.cells #[.int .u8 (I : Int), .int .u8 0] 5))
      have sB := Nat.le_trans s2 (show w2.heap.size ≤ (w2.alloc (.cells #[.int .u8 (I : Int), .int .u8 0] 5)).heap.size from by simp)
      have RB := hid rb; have OB := hid oB; have SB := hid sB
      clear rb oB o2 sB H2 B2
      go_wp2_with (first
        | (at_builtin; have _t := t1; refine wpl_append rfl (.tmp 16) (.tmp 21) rfl E8 w1.heap.size rfl rfl OB.out RB.out (by simp [Value.oneCell']) (by omega) (by omega) SB.out ?_; clear t1; intro p5 c5 w5 o5 g5 b5; have _H6 := Blk.below H3 b5 hB1; have _B6 := hid (below_trans B3.out b5 (Nat.le_of_lt hB1)); have _k3 := Blk.cell _H6 (i := 3) (by simp); simp only [List.getElem_cons_zero, List.getElem_cons_succ] at _k3; have _r5 := pair_row16 hI9 (show 0 ≤ 255 by omega) o5; have _l5 := hid (pair_eq16 x1 I 0); have _s5 := Nat.le_trans SB.out b5.size; clear o5 g5 b5 H3 B3 k1 k2 OB RB SB))
      generalize x1 ++ [UInt8.ofNat I, UInt8.ofNat 0] = x2 at *
      have hc5 := putRef_any p5 c5 x2 o 2 w5 _r5 (by have := _l5.out; omega) (by omega)
      rw [← _l5.out] at hc5
      refine hc5.mono ?_
      clear hc5
      rintro en w6 ⟨p6, c6, rfl, o6, b6⟩
      have H6 := Blk.mono _H6 b6
      have B6 := hid (below_trans _B6.out b6 _B6.out.size)
      have s6 := Nat.le_trans _s5 b6.size
      have k4 := Blk.cell H6 (i := 4) (by simp)
      simp only [List.getElem_cons_zero, List.getElem_cons_succ] at k4
      have o6' := Own.low o6 _s5
      have l3 : (putF x2 o 2).length ≤ 18 := by have := putF_length_le x2 o 2; have := _l5.out; omega
      clear o6 b6 _B6 _H6 _k3 _r5 _l5
      generalize putF x2 o 2 = x3 at *
      have rc := row_newf16 w6 [byteV (UInt8.ofNat s.size)] 5 (0, 0) (by simp)
      rw [byteV_ofNat16 hs9] at rc
      change Row _ 1 _ 1 1 _ at rc
      have oC := Own.alloc o6' (.cells #[.int .u8 (s.size : Int)] 5)
      have H7 := Blk.mono H6 ((Below.refl w6.heap.size w6).alloc (Nat.le_refl _) (.cells #[.int .u8 (s.size : Int)] 5))
      have B7 := hid (B6.out.alloc B6.out.size (.cells #[.int .u8 (s.size : Int)] 5))
      have sC := Nat.le_trans s6 (show w6.heap.size ≤ (w6.alloc (.cells #[.int .u8 (s.size : Int)] 5)).heap.size from by simp)
      have RC := hid rc; have OC := hid oC; have SC := hid sC
      clear rc oC o6' sC H6 B6
      go_wp2_with (first
        | (at_builtin; have _t := t2; refine wpl_append rfl (.tmp 27) (.tmp 32) rfl E8 w1.heap.size rfl rfl OC.out RC.out (by simp [Value.oneCell']) (by omega) (by omega) SC.out ?_; clear t2; intro p7 c7 w7 o7 g7 b7; have _H8 := Blk.below H7 b7 hB1; have _B8 := hid (below_trans B7.out b7 (Nat.le_of_lt hB1)); have _k5 := Blk.cell _H8 (i := 4) (by simp); simp only [List.getElem_cons_zero, List.getElem_cons_succ] at _k5; have _s8 := Nat.le_trans SC.out b7.size; have _o8 := hid (one_own16 hs9 o7); clear o7 g7 b7 H7 B7 k4 OC RC SC)
        | (at_builtin; have _t := t3; refine wpl_append_str rfl (.tmp 34) (.tmp 36) rfl Try.underlying25 Try.underlying9 (by kernel_rfl) w1.heap.size rfl rfl _o8.out (by omega) _s8 ?_; clear t3; intro p9 c9 w9 o9 _ b9))
      rw [str_len1 HXR.out]
      have o10 := str_own1 HXR.out o9
      have B9 := hid (below_trans _B8.out b9 (Nat.le_of_lt hB1))
      have r10 := o10.row
      clear o9 o10 b9 _B8 _o8 _k5 _H8 HXR
      generalize hXX : recX c I false o s = X at *
      clear hXX
      refine (sumRef_any p9 c9 X w9 r10).mono ?_
      rintro en w10 ⟨rfl, rfl⟩
      generalize crcF X = z at *
      go_wp2_with fail
      refine (putRef_any p9 c9 X (z : Int) 4 w9 r10 (by omega) (by omega)).mono ?_
      rintro en w11 ⟨p11, c11, rfl, o11, b11⟩
      rw [← HY.out] at o11 ⊢
      have B11 := below_trans B9.out b11 B9.out.size
      have o12 := Own.low o11 B9.out.size
      clear o11 b11 B9 r10 HY
      generalize hYY : recY c I false o s = Y at *
      have HYY := hid hYY
      clear hYY
      go_wp2_with fail
      go_loopw [5] (fun v wr => ∃ (j : Nat) (a' : Option Addr) (c' : Nat), j ≤ (8 - Y.length % 8) % 8 ∧ v = .slice a' (Y.length + j) c' ∧ Own wr w.heap.size 5 1 a' (Y.length + j) c' ((Y ++ List.replicate j 0).map byteV) ∧ Below w.heap.size w wr)
        (fun v _ => 8 - (match v with | .slice _ n _ => n - Y.length | _ => 0))
      case atStart => as_aux_lemma => exact ⟨0, p11, c11, Nat.zero_le _, rfl, by simpa using o12, B11⟩
      case round => as_aux_lemma =>
        clear o12 B11
        obtain ⟨j, a', c', hj, rfl, hown, hbel⟩ := hrel
        by_cases hlt : (Y.length + j) % 8 = 0
        · have hjp : j = (8 - Y.length % 8) % 8 := by omega
          have hlt' : ((Y.length + j : Nat) : Int) % 8 = 0 := by omega
          have hlt2 : ((Y.length : Int) + (j : Int)) % 8 = 0 := by omega
          have hp : Y ++ List.replicate j 0 = padTo8 Y := by unfold padTo8; rw [hjp]
          have hl : Y.length + j = (padTo8 (recY c I false o s)).length := by rw [HYY.out, ← hp]; simp
          have hown' : OwnB wr w.heap.size a' c' (padTo8 (recY c I false o s)) := by
            rw [HYY.out]
            rw [hp, show Y.length + j = (padTo8 Y).length from by rw [← hp]; simp] at hown
            exact hown
          have HL7 := hid hl
          clear hown
          clear hp hl hjp
          go_wp2_with fail
          go_ret2
          exact ⟨a', c', by rw [← HL7.out]; rfl, hown', hbel⟩
        · have hlt' : ¬ ((Y.length + j : Nat) : Int) % 8 = 0 := by omega
          have hlt2 : ¬ ((Y.length : Int) + (j : Int)) % 8 = 0 := by omega
          have hltb : ((((Y.length : Int) + (j : Int)) % 8) != 0) = true := by simp; omega
          go_wp2_with (first
            | (at_builtin; refine wpl_append rfl (.tmp 46) (.tmp 47) rfl E8 w.heap.size rfl rfl (hown.alloc _) (row_new1 _ _ _) (by simp [Value.oneCell']) (by omega) (by omega) (by have := hbel.size; simp; omega) ?_; intro a2 c2 w2 hown2 hgrow2 hbel2))
          go_roundw
          case rel => exact ⟨j + 1, a2, c2, by omega, rfl, by simpa [Nat.add_assoc, List.replicate_succ', byteV] using hown2, (hbel.alloc hbel.size _).trans hbel2⟩
          case measure => simp; omega
    · skip
      have HXR := hid (recX_ref (c := c) (o := o) (t := true) (T := 1) hI9 hs9 (by simp))
      go_enter Try.func11, Try.ntmps11
      go_wp2_with fail
      refine (HM.out _).mono ?_
      rintro en w1 ⟨rfl, b1⟩
      rw [HB.out]
      have H0 : Blk (w.alloc (.cells #[.int .i64 c, .int .i64 (I : Int), .bool true, .int .i64 o, .string s] 23)) w.heap.size 23 [.int .i64 c, .int .i64 (I : Int), .bool true, .int .i64 o, .string s] := heap_alloc_new w _
      have H1 := Blk.mono H0 b1
      have hB1 : w.heap.size < w1.heap.size := Nat.lt_of_lt_of_le (by simp) b1.size
      have B1 := hid (below_trans ((Below.refl _ w).alloc (Nat.le_refl _) _) b1 (by simp))
      have k0 := Blk.cell H1 (i := 0) (by simp)
      simp only [List.getElem_cons_zero, List.getElem_cons_succ] at k0
      clear H0 b1 HM
      go_wp2_with fail
      refine (putRef_any none 0 [] c 8 w1 (Row.nil _ _) (by simp) (by omega)).mono ?_
      rintro en w2 ⟨p2, c2, rfl, o2, b2⟩
      have H2 := Blk.mono H1 b2
      have s2 : w1.heap.size ≤ w2.heap.size := b2.size
      have B2 := hid (below_trans B1.out b2 B1.out.size)
      have k1 := Blk.cell H2 (i := 1) (by simp)
      have k2 := Blk.cell H2 (i := 2) (by simp)
      simp only [List.getElem_cons_zero, List.getElem_cons_succ] at k1 k2
      clear H1 k0 b2 B1
      generalize putF [] c 8 = x1 at *
      have rb := row_newf16 w2 [byteV (UInt8.ofNat I), byteV (UInt8.ofNat 1)] 5 (0, 0) (by simp)
      rw [byteV_ofNat16 hI9, byteV_ofNat16 (by omega)] at rb
      change Row _ 1 _ 2 2 _ at rb
      have oB := Own.alloc o2 (.cells #[.int .u8 (I : Int), .int .u8 1] 5)
      have H3 := Blk.mono H2 ((Below.refl w2.heap.size w2).alloc (Nat.le_refl _) (.cells #[.int .u8 (I : Int), .int .u8 1] 5))
      have B3 := hid (B2.out.alloc B2.out.size (.cells #[.int .u8 (I : Int), .int .u8 1] 5))
      have sB := Nat.le_trans s2 (show w2.heap.size ≤ (w2.alloc (.cells #[.int .u8 (I : Int), .int .u8 1] 5)).heap.size from by simp)
      have RB := hid rb; have OB := hid oB; have SB := hid sB
      clear rb oB o2 sB H2 B2
      go_wp2_with (first
        | (at_builtin; have _t := t1; refine wpl_append rfl (.tmp 16) (.tmp 21) rfl E8 w1.heap.size rfl rfl OB.out RB.out (by simp [Value.oneCell']) (by omega) (by omega) SB.out ?_; clear t1; intro p5 c5 w5 o5 g5 b5; have _H6 := Blk.below H3 b5 hB1; have _B6 := hid (below_trans B3.out b5 (Nat.le_of_lt hB1)); have _k3 := Blk.cell _H6 (i := 3) (by simp); simp only [List.getElem_cons_zero, List.getElem_cons_succ] at _k3; have _r5 := pair_row16 hI9 (show 1 ≤ 255 by omega) o5; have _l5 := hid (pair_eq16 x1 I 1); have _s5 := Nat.le_trans SB.out b5.size; clear o5 g5 b5 H3 B3 k1 k2 OB RB SB))
      generalize x1 ++ [UInt8.ofNat I, UInt8.ofNat 1] = x2 at *
      have hc5 := putRef_any p5 c5 x2 o 2 w5 _r5 (by have := _l5.out; omega) (by omega)
      rw [← _l5.out] at hc5
      refine hc5.mono ?_
      clear hc5
      rintro en w6 ⟨p6, c6, rfl, o6, b6⟩
      have H6 := Blk.mono _H6 b6
      have B6 := hid (below_trans _B6.out b6 _B6.out.size)
      have s6 := Nat.le_trans _s5 b6.size
      have k4 := Blk.cell H6 (i := 4) (by simp)
      simp only [List.getElem_cons_zero, List.getElem_cons_succ] at k4
      have o6' := Own.low o6 _s5
      have l3 : (putF x2 o 2).length ≤ 18 := by have := putF_length_le x2 o 2; have := _l5.out; omega
      clear o6 b6 _B6 _H6 _k3 _r5 _l5
      generalize putF x2 o 2 = x3 at *
      have rc := row_newf16 w6 [byteV (UInt8.ofNat s.size)] 5 (0, 0) (by simp)
      rw [byteV_ofNat16 hs9] at rc
      change Row _ 1 _ 1 1 _ at rc
      have oC := Own.alloc o6' (.cells #[.int .u8 (s.size : Int)] 5)
      have H7 := Blk.mono H6 ((Below.refl w6.heap.size w6).alloc (Nat.le_refl _) (.cells #[.int .u8 (s.size : Int)] 5))
      have B7 := hid (B6.out.alloc B6.out.size (.cells #[.int .u8 (s.size : Int)] 5))
      have sC := Nat.le_trans s6 (show w6.heap.size ≤ (w6.alloc (.cells #[.int .u8 (s.size : Int)] 5)).heap.size from by simp)
      have RC := hid rc; have OC := hid oC; have SC := hid sC
      clear rc oC o6' sC H6 B6
      go_wp2_with (first
        | (at_builtin; have _t := t2; refine wpl_append rfl (.tmp 27) (.tmp 32) rfl E8 w1.heap.size rfl rfl OC.out RC.out (by simp [Value.oneCell']) (by omega) (by omega) SC.out ?_; clear t2; intro p7 c7 w7 o7 g7 b7; have _H8 := Blk.below H7 b7 hB1; have _B8 := hid (below_trans B7.out b7 (Nat.le_of_lt hB1)); have _k5 := Blk.cell _H8 (i := 4) (by simp); simp only [List.getElem_cons_zero, List.getElem_cons_succ] at _k5; have _s8 := Nat.le_trans SC.out b7.size; have _o8 := hid (one_own16 hs9 o7); clear o7 g7 b7 H7 B7 k4 OC RC SC)
        | (at_builtin; have _t := t3; refine wpl_append_str rfl (.tmp 34) (.tmp 36) rfl Try.underlying25 Try.underlying9 (by kernel_rfl) w1.heap.size rfl rfl _o8.out (by omega) _s8 ?_; clear t3; intro p9 c9 w9 o9 _ b9))
      rw [str_len1 HXR.out]
      have o10 := str_own1 HXR.out o9
      have B9 := hid (below_trans _B8.out b9 (Nat.le_of_lt hB1))
      have r10 := o10.row
      clear o9 o10 b9 _B8 _o8 _k5 _H8 HXR
      generalize hXX : recX c I true o s = X at *
      clear hXX
      refine (sumRef_any p9 c9 X w9 r10).mono ?_
      rintro en w10 ⟨rfl, rfl⟩
      generalize crcF X = z at *
      go_wp2_with fail
      refine (putRef_any p9 c9 X (z : Int) 4 w9 r10 (by omega) (by omega)).mono ?_
      rintro en w11 ⟨p11, c11, rfl, o11, b11⟩
      rw [← HY.out] at o11 ⊢
      have B11 := below_trans B9.out b11 B9.out.size
      have o12 := Own.low o11 B9.out.size
      clear o11 b11 B9 r10 HY
      generalize hYY : recY c I true o s = Y at *
      have HYY := hid hYY
      clear hYY
      go_wp2_with fail
      go_loopw [5] (fun v wr => ∃ (j : Nat) (a' : Option Addr) (c' : Nat), j ≤ (8 - Y.length % 8) % 8 ∧ v = .slice a' (Y.length + j) c' ∧ Own wr w.heap.size 5 1 a' (Y.length + j) c' ((Y ++ List.replicate j 0).map byteV) ∧ Below w.heap.size w wr)
        (fun v _ => 8 - (match v with | .slice _ n _ => n - Y.length | _ => 0))
      case atStart => as_aux_lemma => exact ⟨0, p11, c11, Nat.zero_le _, rfl, by simpa using o12, B11⟩
      case round => as_aux_lemma =>
        clear o12 B11
        obtain ⟨j, a', c', hj, rfl, hown, hbel⟩ := hrel
        by_cases hlt : (Y.length + j) % 8 = 0
        · have hjp : j = (8 - Y.length % 8) % 8 := by omega
          have hlt' : ((Y.length + j : Nat) : Int) % 8 = 0 := by omega
          have hlt2 : ((Y.length : Int) + (j : Int)) % 8 = 0 := by omega
          have hp : Y ++ List.replicate j 0 = padTo8 Y := by unfold padTo8; rw [hjp]
          have hl : Y.length + j = (padTo8 (recY c I true o s)).length := by rw [HYY.out, ← hp]; simp
          have hown' : OwnB wr w.heap.size a' c' (padTo8 (recY c I true o s)) := by
            rw [HYY.out]
            rw [hp, show Y.length + j = (padTo8 Y).length from by rw [← hp]; simp] at hown
            exact hown
          have HL7 := hid hl
          clear hown
          clear hp hl hjp
          go_wp2_with fail
          go_ret2
          exact ⟨a', c', by rw [← HL7.out]; rfl, hown', hbel⟩
        · have hlt' : ¬ ((Y.length + j : Nat) : Int) % 8 = 0 := by omega
          have hlt2 : ¬ ((Y.length : Int) + (j : Int)) % 8 = 0 := by omega
          have hltb : ((((Y.length : Int) + (j : Int)) % 8) != 0) = true := by simp; omega
          go_wp2_with (first
            | (at_builtin; refine wpl_append rfl (.tmp 46) (.tmp 47) rfl E8 w.heap.size rfl rfl (hown.alloc _) (row_new1 _ _ _) (by simp [Value.oneCell']) (by omega) (by omega) (by have := hbel.size; simp; omega) ?_; intro a2 c2 w2 hown2 hgrow2 hbel2))
          go_roundw
          case rel => exact ⟨j + 1, a2, c2, by omega, rfl, by simpa [Nat.add_assoc, List.replicate_succ', byteV] using hown2, (hbel.alloc hbel.size _).trans hbel2⟩
          case measure => simp; omega
  · have hb' : recMay c i t o s = false := by simpa using hb
    have hL : recL c i t o s = [] := by unfold recL; rw [if_neg hb]
    have hE : (if recMay c i t o s then (0 : Int) else 1) = 1 := if_neg hb
    rw [hL, hE]
    have HB := hid hb'; have HM := hid hmay
    clear hb hL hE hb' hmay
    go_enter Try.func11, Try.ntmps11
    go_wp2_with fail
    refine (HM.out _).mono ?_
    rintro en w1 ⟨rfl, b1⟩
    rw [HB.out]
    go_wp2_with fail
    go_ret2
    exact ⟨none, 0, rfl, Own.nil _ _ _ _, below_trans ((Below.refl _ w).alloc (Nat.le_refl _) _) b1 (by simp)⟩

end Go.Proofs.Ytngfpndikjbioaa
