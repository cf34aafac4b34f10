import Derived.Test.YtngfpndikjbioaaClogZd
namespace Go.Proofs.Ytngfpndikjbioaa
open Go.RowKit Go.WideShapes
set_option linter.unusedSimpArgs false
set_option linter.unusedVariables false

theorem getF8_isSome (xs : List UInt8) : getV (getF xs 0 8) = .tuple #[.int .i64 (dC xs : Nat), .bool (getF xs 0 8).isSome] := rfl
set_option maxHeartbeats 1000000 in
theorem refdec_any (a : Option Addr) (c : Nat) (xs : List UInt8) (w : World) (ha : RowB w a c xs) :
    Calls Try.prog 15 #[.slice a xs.length c] w fun e w' => e = .returned (.tuple #[decV xs, .int .i64 (decN xs : Nat), .int .i64 (decE xs)]) ∧ Below w.heap.size w w' := by
  have hz := dZ_le xs
  have hl := rowB_len ha
  by_cases h1 : 17 + dZ xs ≤ xs.length
  · have f2 := getF_4 (xs := xs) (a := 13 + dZ xs) (by omega)
    by_cases h2 : getF xs ((13 + dZ xs : Nat) : Int) 4 = some (crcF (xs.take (13 + dZ xs)))
    · have hs : dS xs = ⟨((xs.drop 13).take (dZ xs)).toArray⟩ := rfl
      have hO : ((dO xs : Nat) : Int) = (bAt xs 10 : Int) + 256 * (bAt xs 11 : Int) := by unfold dO; omega
      have hXl : (xs.take (13 + dZ xs)).length = 13 + dZ xs := by simp; omega
      have G13 := fun (w1 : World) (r1 : RowB w1 a c xs) => getRef_any a c xs ((13 + dZ xs : Nat) : Int) 4 w1 r1 hl (by omega)
      rw [h2, show ((13 + dZ xs : Nat) : Int) = 13 + (dZ xs : Int) by omega] at G13
      simp only [getV, Option.getD_some, Option.isSome_some] at G13
      have HSum := fun (w1 : World) (r1 : RowB w1 a c (xs.take (13 + dZ xs))) => sumRef_any a c (xs.take (13 + dZ xs)) w1 r1
      rw [hXl] at HSum
      have G0 := fun (w1 : World) (r1 : RowB w1 a c xs) => getRef_any a c xs 0 8 w1 r1 hl (by omega)
      rw [getF8_isSome xs] at G0
      have HMay : ∀ w1, Calls Try.prog 29 #[.agg #[.int .i64 (dC xs : Nat), .int .i64 (bAt xs 8 : Nat), .bool ((bAt xs 9 : Int) == 1), .int .i64 ((bAt xs 10 : Int) + 256 * (bAt xs 11 : Int)), .string (dS xs)]] w1 fun en w' => en = .returned (.bool (dMay xs)) ∧ Below w1.heap.size w1 w' := fun w1 => by
        have h := recMayRef_any (dC xs) (dI xs) (dT xs) (dO xs) (dS xs) w1
        unfold recV at h
        rw [hO] at h
        exact h
      have hA := dGood_of (xs := xs) h1 h2
      have hB := of_dGood (xs := xs) h1
      refine refdec_abs a c xs w ha (dZ xs) (dC xs) (crcF (xs.take (13 + dZ xs))) (dAll xs) (bAt xs 8) (bAt xs 9) (bAt xs 10) (bAt xs 11) _ (dMay xs) (dS xs) _ (by omega) hz rfl h1 rfl rfl rfl rfl rfl (bAt_lt _ _) (bAt_lt _ _) (bAt_lt _ _) (bAt_lt _ _) G13 HSum G0 HMay hs.symm (fun hbad => ?_) (fun y1 y2 y3 y4 y5 => ?_)
      · have hg : dGood xs = false := by
          cases h : dGood xs
          · rfl
          · obtain ⟨x1, x2, x3, x4, x5, _⟩ := hB h
            rcases hbad with q | q | q | q | ⟨j, q1, q2, q3⟩
            · rw [q] at x1; cases x1
            · rw [q] at x2; cases x2
            · omega
            · omega
            · exact absurd (x5 j q1 q2) q3
        have hE : decE xs = 2 := by unfold decE; rw [if_pos h1, if_pos h2, if_neg (by rw [hg]; exact Bool.false_ne_true)]
        have hV : decV xs = recV 0 0 false 0 ⟨#[]⟩ := by unfold decV; rw [if_neg (by rw [hE]; decide)]
        have hN : decN xs = 0 := by unfold decN; rw [if_neg (by rw [hE]; decide)]
        rw [hE, hV, hN]; rfl
      · have hz2 : dZeros xs := y5
        obtain ⟨q1, q2⟩ := hA y1 y2 (by omega) (by omega) hz2
        have hG : dGood xs = true := by
          unfold dGood dPre
          rw [y2, q2, ← q1, decide_eq_true (show dAll xs ≤ xs.length by omega)]
          simp
        have hE : decE xs = 0 := by unfold decE; rw [if_pos h1, if_pos h2, if_pos hG]
        have hV : decV xs = recV (dC xs) (dI xs) (dT xs) (dO xs) (dS xs) := by unfold decV; rw [if_pos hE]
        have hN : decN xs = dAll xs := by unfold decN; rw [if_pos hE]
        rw [hE, hV, hN]; unfold recV; rw [hO]; rfl
    · have hE : decE xs = 4 := by unfold decE; rw [if_pos h1, if_neg h2]
      have hV : decV xs = recV 0 0 false 0 ⟨#[]⟩ := by unfold decV; rw [if_neg (by rw [hE]; decide)]
      have hN : decN xs = 0 := by unfold decN; rw [if_neg (by rw [hE]; decide)]
      rw [hE, hV, hN]
      exact refdec_sum a c xs _ w ha f2 h1 (fun h => h2 (by rw [f2, h]))
  · have hE : decE xs = 3 := by unfold decE; rw [if_neg h1]
    have hV : decV xs = recV 0 0 false 0 ⟨#[]⟩ := by unfold decV; rw [if_neg (by rw [hE]; decide)]
    have hN : decN xs = 0 := by unfold decN; rw [if_neg (by rw [hE]; decide)]
    rw [hE, hV, hN]
    exact refdec_short a c xs w ha h1

theorem row_zero (w : World) (a : Addr) : Row w 1 (some a) 0 0 [] := ⟨by simp, Nat.le_refl _, Nat.zero_le _, (fun h => by simp at h), (fun h => absurd h (by omega))⟩
theorem wpl_append0 {P : Program} {w : World} {ops : Array Oper} {rest : List Oper} {o : Oper} {act : Act} {Q : Exit → Act → World → Prop} (hgd : o.guard = none) (s x : Operand) {t e : TypeId} {bytes : Nat}
    (ho : o.op = .call { callee := .builtin .append, args := #[s, x], argTypes := #[t, t] }) (E : ElemT P t e 1 bytes) (B : Nat)
    {a1 : Option Addr} {ad : Addr} {n c : Nat} {cs : List Value} (hs : act.eval s = .slice a1 n c) (hx : act.eval x = .slice (some ad) 0 0)
    (hown : Own w B e 1 a1 n c cs) (hbytes : n * bytes ≤ 140737488355328) (h63 : n ≤ 9223372036854775807) (hbase : B ≤ w.heap.size)
    (h : ∀ a' c' w', Own w' B e 1 a' n c' cs → w.grownBy w' (Value.slice a1 n c).ownBlock → Below B w w' → wpList P ops Q rest (act.put o.dst (.slice a' n c')) w') :
    wpList P ops Q (o :: rest) act w := by
  refine wpl_append (m := 0) (ds := []) hgd s x ho E B hs hx hown (row_zero w ad) (by simp) (by simpa using hbytes) (by simpa using h63) hbase (fun a' c' w' o' g' b' => ?_)
  rw [Nat.add_zero] at o' ⊢
  rw [List.append_nil] at o'
  exact h a' c' w' o' g' b'
/-- the bytes with their right sum -/
def sealX (xs : List UInt8) : List UInt8 := if 13 + dZ xs ≤ xs.length ∧ 13 ≤ xs.length then putF (xs.take (13 + dZ xs)) (crcF (xs.take (13 + dZ xs)) : Nat) 4 ++ xs.drop (13 + dZ xs) else xs
set_option maxHeartbeats 2000000 in
set_option maxRecDepth 100000 in
theorem sealed16_any (a : Option Addr) (c : Nat) (xs : List UInt8) (w : World) (ha : RowB w a c xs) (h120 : xs.length ≤ 120) :
    Calls Try.prog 16 #[.slice a xs.length c] w fun e w' => ∃ a' c', e = .returned (.slice a' (sealX xs).length c') ∧ RowB w' a' c' (sealX xs) ∧ Below w.heap.size w w' := by
  have hz := dZ_le xs
  have hl := rowB_len ha
  have hcap : xs.length ≤ c := ha.2.1
  by_cases h13 : xs.length < 13
  · have d1 : decide ((xs.length : Int) < 13) = true := decide_eq_true (by omega)
    have hs : sealX xs = xs := by unfold sealX; rw [if_neg (by omega)]
    rw [hs]
    go_enter Try.func16, Try.ntmps16
    go_wp2_with fail
    go_ret
    exact ⟨_, _, rfl, ha, Below.refl _ _⟩
  · have d1 : decide ((xs.length : Int) < 13) = false := decide_eq_false (by omega)
    obtain ⟨b, off, rfl, hb, hcell⟩ := ha.bytes (by omega)
    have c12 := hcell 12 (by omega)
    rw [show bAt xs 12 = dZ xs from rfl] at c12
    have i12 : (12 : Int) < (xs.length : Int) := by omega
    by_cases hsh : xs.length < 13 + dZ xs
    · have hs : sealX xs = xs := by unfold sealX; rw [if_neg (by omega)]
      rw [hs]
      clear hs
      generalize dZ xs = z at *
      have ez : IntKind.i64.wrap (z : Int) = z := IntWalk.i64_in _ (by omega)
      have ez3 : IntKind.i64.wrap (13 + (z : Int)) = 13 + z := IntWalk.i64_in _ (by omega)
      have d2 : decide ((xs.length : Int) < 13 + (z : Int)) = true := decide_eq_true (by omega)
      have HA := hid ha
      clear ha hcell
      go_enter Try.func16, Try.ntmps16
      go_wp2_with fail
      go_ret
      exact ⟨_, _, rfl, HA.out, Below.refl _ _⟩
    · have hs : sealX xs = putF (xs.take (13 + dZ xs)) (crcF (xs.take (13 + dZ xs)) : Nat) 4 ++ xs.drop (13 + dZ xs) := by unfold sealX; rw [if_pos (by omega)]
      rw [hs]
      clear hs
      have rt := rowB_take ha (13 + dZ xs)
      have hXl : (xs.take (13 + dZ xs)).length = 13 + dZ xs := by simp; omega
      have rd : RowB w (some ⟨b, off + (13 + dZ xs), none⟩) (c - (13 + dZ xs)) (xs.drop (13 + dZ xs)) := by
        have := rowB_sub ha (13 + dZ xs) (xs.length - (13 + dZ xs)) (by omega)
        rwa [List.take_of_length_le (by simp)] at this
      have hDl : (xs.drop (13 + dZ xs)).length = xs.length - (13 + dZ xs) := by simp
      have HSum := fun (w1 : World) (r1 : RowB w1 (some ⟨b, off, none⟩) c (xs.take (13 + dZ xs))) => sumRef_any (some ⟨b, off, none⟩) c (xs.take (13 + dZ xs)) w1 r1
      have HPut := fun (w1 : World) (r1 : RowB w1 (some ⟨b, off, none⟩) c (xs.take (13 + dZ xs))) => putRef_any (some ⟨b, off, none⟩) c (xs.take (13 + dZ xs)) (crcF (xs.take (13 + dZ xs)) : Nat) 4 w1 r1 (by omega) (by have := crcF_lt (xs.take (13 + dZ xs)); omega)
      rw [hXl] at HSum HPut
      have hpl := putF_length_le (xs.take (13 + dZ xs)) (crcF (xs.take (13 + dZ xs)) : Nat) 4
      rw [hXl] at hpl
      generalize putF (xs.take (13 + dZ xs)) (crcF (xs.take (13 + dZ xs)) : Nat) 4 = P at *
      have HPut := hid HPut; have HSum := hid HSum
      generalize crcF (xs.take (13 + dZ xs)) = cr at *
      generalize xs.take (13 + dZ xs) = T at *
      generalize xs.drop (13 + dZ xs) = D at *
      generalize dZ xs = z at *
      have ez : IntKind.i64.wrap (z : Int) = z := IntWalk.i64_in _ (by omega)
      have HT := hid rt; have HD := hid rd; have HDl := hid hDl
      clear ha hcell rt rd hXl hDl
      generalize xs.length = n at *
      have t1 : True := trivial
      by_cases hcc : c = 13 + z
      · obtain rfl : n = c := by omega
        rw [← hcc] at HSum HPut HD HDl hpl
        have ez3 : IntKind.i64.wrap (13 + (z : Int)) = (n : Int) := by rw [hcc]; exact IntWalk.i64_in _ (by omega)
        have hD : D = [] := List.eq_nil_of_length_eq_zero (by rw [HDl.out]; omega)
        subst hD
        clear HD HDl hcc hsh
        go_enter Try.func16, Try.ntmps16
        go_wp2_with fail
        go_region_with (first
          | (go_at_call 31; refine (HSum.out _ (HT.out.mono (bel_drewN (Below.refl _ _) 1))).mono ?_; rintro e w4 ⟨rfl, rfl⟩)
          | (go_at_call 30; refine (HPut.out _ (HT.out.mono (bel_drewN (Below.refl _ _) 1))).mono ?_; rintro e w5 ⟨a5, c5, rfl, o5, b5⟩))
        all_goals
          have hlow := hid (kept_trans (bel_drewN (Below.refl _ w) 1) b5)
          have hl6 := hid (bel_drewN (Below.refl w.heap.size w) 1).size
          clear HT HPut HSum
          go_wp2_with (at_builtin; have _t := t1; refine wpl_append0 rfl (.tmp 32) (.tmp 35) rfl E8 (w.drewN 1).heap.size rfl rfl o5 (show _ from by omega) (show _ from by omega) b5.size ?_; clear t1; intro a6 c6 w6 o6 g6 b6)
          simp only [List.append_nil]
          go_ret
          refine ⟨a6, c6, rfl, ?_, ?_⟩
          · exact o6.row
          · exact below_trans hlow.out b6 hl6.out
      have ez3 : IntKind.i64.wrap (13 + (z : Int)) = 13 + z := IntWalk.i64_in _ (by omega)
      have d2 : decide ((n : Int) < 13 + (z : Int)) = false := decide_eq_false (by omega)
      have g3 : 0 ≤ (13 : Int) + (z : Int) := by omega
      have g2 : (13 : Int) + (z : Int) ≤ (c : Int) := by omega
      have g5 : ((13 : Int) + (z : Int)).toNat = 13 + z := by omega
      have g6 : (13 : Int) + (z : Int) ≤ (n : Int) := by omega
      go_enter Try.func16, Try.ntmps16
      go_wp2_with fail
      go_region_with (first
        | (go_at_call 31; refine (HSum.out _ (HT.out.mono (bel_drewN (Below.refl _ _) 1))).mono ?_; rintro e w4 ⟨rfl, rfl⟩)
        | (go_at_call 30; refine (HPut.out _ (HT.out.mono (bel_drewN (Below.refl _ _) 1))).mono ?_; rintro e w5 ⟨a5, c5, rfl, o5, b5⟩))
      all_goals
        have hd := hid ((HD.out.mono (bel_drewN (Below.refl _ _) 1)).mono b5)
        have hlow := hid (kept_trans (bel_drewN (Below.refl _ w) 1) b5)
        have hl6 := hid (bel_drewN (Below.refl w.heap.size w) 1).size
        go_wp2_with (first
          | (at_builtin; have _t := t1; refine wpl_append rfl (.tmp 32) (.tmp 35) rfl E8 (w.drewN 1).heap.size rfl rfl o5 (by have := hd.out; unfold RowB at this; rw [HDl.out] at this; exact this) (byteV_one D) (by omega) (by omega) b5.size ?_; clear t1; intro a6 c6 w6 o6 g6 b6))
        go_ret
        refine ⟨a6, c6, by rw [List.length_append, HDl.out]; rfl, ?_, ?_⟩
        · have := o6.row
          rw [← List.map_append] at this
          unfold RowB; rw [List.length_append, HDl.out]; exact this
        · exact below_trans hlow.out b6 hl6.out
theorem decV_rec (xs : List UInt8) : ∃ (c i : Int) (t : Bool) (o : Int) (s : ByteArray), decV xs = recV c i t o s := by
  unfold decV
  split
  · exact ⟨_, _, _, _, _, rfl⟩
  · exact ⟨_, _, _, _, _, rfl⟩

set_option maxHeartbeats 4000000 in
set_option maxRecDepth 100000 in
theorem ClogDecodes_walk (w : World) (a : Option Addr) (c : Nat) (xs : List UInt8) (ha : RowB w a c xs) :
    Calls Try.prog 4 #[.slice a xs.length c] w fun e w' => e = .returned (.bool true) ∧ Below w.heap.size w w' := by
  have hl := rowB_len ha
  have hcap : xs.length ≤ c := ha.2.1
  by_cases h : 120 < xs.length
  · have ry := rowB_take ha 120
    have lys : (xs.take 120).length = 120 := by simp; omega
    have h' : (120 : Int) < (xs.length : Int) := by omega
    have hc2 : (120 : Nat) ≤ c := by omega
    obtain ⟨b, off, rfl, _⟩ := ha.bytes (by omega)
    clear ha
    generalize xs.take 120 = ys at *
    have R1 := fun w1 r1 => dec_any (some ⟨b, off, none⟩) c ys w1 r1
    have R2 := fun w1 r1 => refdec_any (some ⟨b, off, none⟩) c ys w1 r1
    have R3 := hid (fun a' c' w1 r1 => dec_any a' c' (sealX ys) w1 r1)
    have R4 := hid (fun a' c' w1 r1 => refdec_any a' c' (sealX ys) w1 r1)
    have HS := fun w1 r1 => sealed16_any (some ⟨b, off, none⟩) c ys w1 r1 (by omega)
    rw [lys] at R1 R2 HS
    have R1 := hid R1; have R2 := hid R2; have HS := hid HS
    clear lys
    obtain ⟨c1, i1, t1, o1, s1, hv1⟩ := decV_rec ys
    obtain ⟨c2, i2, t2, o2, s2, hv2⟩ := decV_rec (sealX ys)
    rw [hv1] at R1 R2
    rw [hv2] at R3 R4
    unfold recV at R1 R2 R3 R4
    generalize decE ys = q1 at *
    generalize decE (sealX ys) = q2 at *
    generalize decN ys = m1 at *
    generalize decN (sealX ys) = m2 at *
    generalize sealX ys = zs at *
    clear hv1 hv2
    go_enter Try.func4, Try.ntmps4
    go_wp2_with fail
    refine (R1.out w ry).mono ?_
    rintro e w1 ⟨rfl, b1⟩
    go_wp2_with fail
    have K1 : Blk (w1.alloc (.cells #[.int .i64 c1, .int .i64 i1, .bool t1, .int .i64 o1, .string s1] 23)) w1.heap.size 23 [.int .i64 c1, .int .i64 i1, .bool t1, .int .i64 o1, .string s1] := heap_alloc_new w1 _
    have A1 := b1.alloc b1.size (.cells #[.int .i64 c1, .int .i64 i1, .bool t1, .int .i64 o1, .string s1] 23)
    clear b1
    generalize w1.alloc _ = u1 at *
    generalize w1.heap.size = P1 at *
    refine (R2.out u1 (ry.mono A1)).mono ?_
    rintro e w2 ⟨rfl, c2⟩
    have K1' := Blk.mono K1 c2
    have b2 := below_trans A1 c2 A1.size
    clear K1 A1 c2 R1 R2
    go_wp2_with fail
    have K2 : Blk (w2.alloc (.cells #[.int .i64 c1, .int .i64 i1, .bool t1, .int .i64 o1, .string s1] 23)) w2.heap.size 23 [.int .i64 c1, .int .i64 i1, .bool t1, .int .i64 o1, .string s1] := heap_alloc_new w2 _
    have A2 := b2.alloc b2.size (.cells #[.int .i64 c1, .int .i64 i1, .bool t1, .int .i64 o1, .string s1] 23)
    clear b2
    have K1 := Blk.mono K1' ((Below.refl _ w2).alloc (Nat.le_refl _) (.cells #[.int .i64 c1, .int .i64 i1, .bool t1, .int .i64 o1, .string s1] 23))
    clear K1'
    generalize w2.alloc _ = u2 at *
    generalize w2.heap.size = P2 at *
    refine (HS.out u2 (ry.mono A2)).mono ?_
    rintro e w3 ⟨a3, c3, rfl, z3, d3⟩
    have K1' := Blk.mono K1 d3
    have K2' := Blk.mono K2 d3
    have b3 := below_trans A2 d3 A2.size
    clear K1 K2 A2 d3
    go_wp2_with fail
    refine (R3.out a3 c3 w3 z3).mono ?_
    rintro e w4 ⟨rfl, d4⟩
    have K1 := Blk.mono K1' d4
    have K2 := Blk.mono K2' d4
    have b4 := below_trans b3 d4 b3.size
    clear K1' K2' b3 d4 z3 R3
    go_wp2_with fail
    have K3 : Blk (w4.alloc (.cells #[.int .i64 c2, .int .i64 i2, .bool t2, .int .i64 o2, .string s2] 23)) w4.heap.size 23 [.int .i64 c2, .int .i64 i2, .bool t2, .int .i64 o2, .string s2] := heap_alloc_new w4 _
    have A3 := b4.alloc b4.size (.cells #[.int .i64 c2, .int .i64 i2, .bool t2, .int .i64 o2, .string s2] 23)
    clear b4
    have K1' := Blk.mono K1 ((Below.refl _ w4).alloc (Nat.le_refl _) (.cells #[.int .i64 c2, .int .i64 i2, .bool t2, .int .i64 o2, .string s2] 23))
    have K2' := Blk.mono K2 ((Below.refl _ w4).alloc (Nat.le_refl _) (.cells #[.int .i64 c2, .int .i64 i2, .bool t2, .int .i64 o2, .string s2] 23))
    clear K1 K2
    generalize w4.alloc _ = u4 at *
    generalize w4.heap.size = P3 at *
    refine (HS.out u4 (ry.mono A3)).mono ?_
    rintro e w5 ⟨a5, c5, rfl, z5, d5⟩
    have K1 := Blk.mono K1' d5
    have K2 := Blk.mono K2' d5
    have K3' := Blk.mono K3 d5
    have b5 := below_trans A3 d5 A3.size
    clear K1' K2' K3 A3 d5
    go_wp2_with fail
    refine (R4.out a5 c5 w5 z5).mono ?_
    rintro e w6 ⟨rfl, d6⟩
    have K1' := Blk.mono K1 d6
    have K2' := Blk.mono K2 d6
    have K3 := Blk.mono K3' d6
    have b6 := below_trans b5 d6 b5.size
    clear K1 K2 K3' b5 d6 z5 R4
    have K4 : Blk (w6.alloc (.cells #[.int .i64 c2, .int .i64 i2, .bool t2, .int .i64 o2, .string s2] 23)) w6.heap.size 23 [.int .i64 c2, .int .i64 i2, .bool t2, .int .i64 o2, .string s2] := heap_alloc_new w6 _
    have A4 := b6.alloc b6.size (.cells #[.int .i64 c2, .int .i64 i2, .bool t2, .int .i64 o2, .string s2] 23)
    clear b6
    have J1 := Blk.mono K1' ((Below.refl _ w6).alloc (Nat.le_refl _) (.cells #[.int .i64 c2, .int .i64 i2, .bool t2, .int .i64 o2, .string s2] 23))
    have J2 := Blk.mono K2' ((Below.refl _ w6).alloc (Nat.le_refl _) (.cells #[.int .i64 c2, .int .i64 i2, .bool t2, .int .i64 o2, .string s2] 23))
    have J3 := Blk.mono K3 ((Below.refl _ w6).alloc (Nat.le_refl _) (.cells #[.int .i64 c2, .int .i64 i2, .bool t2, .int .i64 o2, .string s2] 23))
    have J4 := K4
    clear K1' K2' K3 K4
    have k10 : (w6.alloc (.cells #[.int .i64 c2, .int .i64 i2, .bool t2, .int .i64 o2, .string s2] 23)).cell? ⟨P1, 0, none⟩ = some (.int .i64 c1) := Blk.cell J1 (i := 0) (by simp)
    have k11 : (w6.alloc (.cells #[.int .i64 c2, .int .i64 i2, .bool t2, .int .i64 o2, .string s2] 23)).cell? ⟨P1, 1, none⟩ = some (.int .i64 i1) := Blk.cell J1 (i := 1) (by simp)
    have k12 : (w6.alloc (.cells #[.int .i64 c2, .int .i64 i2, .bool t2, .int .i64 o2, .string s2] 23)).cell? ⟨P1, 2, none⟩ = some (.bool t1) := Blk.cell J1 (i := 2) (by simp)
    have k13 : (w6.alloc (.cells #[.int .i64 c2, .int .i64 i2, .bool t2, .int .i64 o2, .string s2] 23)).cell? ⟨P1, 3, none⟩ = some (.int .i64 o1) := Blk.cell J1 (i := 3) (by simp)
    have k14 : (w6.alloc (.cells #[.int .i64 c2, .int .i64 i2, .bool t2, .int .i64 o2, .string s2] 23)).cell? ⟨P1, 4, none⟩ = some (.string s1) := Blk.cell J1 (i := 4) (by simp)
    have k20 : (w6.alloc (.cells #[.int .i64 c2, .int .i64 i2, .bool t2, .int .i64 o2, .string s2] 23)).cell? ⟨P2, 0, none⟩ = some (.int .i64 c1) := Blk.cell J2 (i := 0) (by simp)
    have k21 : (w6.alloc (.cells #[.int .i64 c2, .int .i64 i2, .bool t2, .int .i64 o2, .string s2] 23)).cell? ⟨P2, 1, none⟩ = some (.int .i64 i1) := Blk.cell J2 (i := 1) (by simp)
    have k22 : (w6.alloc (.cells #[.int .i64 c2, .int .i64 i2, .bool t2, .int .i64 o2, .string s2] 23)).cell? ⟨P2, 2, none⟩ = some (.bool t1) := Blk.cell J2 (i := 2) (by simp)
    have k23 : (w6.alloc (.cells #[.int .i64 c2, .int .i64 i2, .bool t2, .int .i64 o2, .string s2] 23)).cell? ⟨P2, 3, none⟩ = some (.int .i64 o1) := Blk.cell J2 (i := 3) (by simp)
    have k24 : (w6.alloc (.cells #[.int .i64 c2, .int .i64 i2, .bool t2, .int .i64 o2, .string s2] 23)).cell? ⟨P2, 4, none⟩ = some (.string s1) := Blk.cell J2 (i := 4) (by simp)
    have k30 : (w6.alloc (.cells #[.int .i64 c2, .int .i64 i2, .bool t2, .int .i64 o2, .string s2] 23)).cell? ⟨P3, 0, none⟩ = some (.int .i64 c2) := Blk.cell J3 (i := 0) (by simp)
    have k31 : (w6.alloc (.cells #[.int .i64 c2, .int .i64 i2, .bool t2, .int .i64 o2, .string s2] 23)).cell? ⟨P3, 1, none⟩ = some (.int .i64 i2) := Blk.cell J3 (i := 1) (by simp)
    have k32 : (w6.alloc (.cells #[.int .i64 c2, .int .i64 i2, .bool t2, .int .i64 o2, .string s2] 23)).cell? ⟨P3, 2, none⟩ = some (.bool t2) := Blk.cell J3 (i := 2) (by simp)
    have k33 : (w6.alloc (.cells #[.int .i64 c2, .int .i64 i2, .bool t2, .int .i64 o2, .string s2] 23)).cell? ⟨P3, 3, none⟩ = some (.int .i64 o2) := Blk.cell J3 (i := 3) (by simp)
    have k34 : (w6.alloc (.cells #[.int .i64 c2, .int .i64 i2, .bool t2, .int .i64 o2, .string s2] 23)).cell? ⟨P3, 4, none⟩ = some (.string s2) := Blk.cell J3 (i := 4) (by simp)
    have k40 : (w6.alloc (.cells #[.int .i64 c2, .int .i64 i2, .bool t2, .int .i64 o2, .string s2] 23)).cell? ⟨w6.heap.size, 0, none⟩ = some (.int .i64 c2) := Blk.cell J4 (i := 0) (by simp)
    have k41 : (w6.alloc (.cells #[.int .i64 c2, .int .i64 i2, .bool t2, .int .i64 o2, .string s2] 23)).cell? ⟨w6.heap.size, 1, none⟩ = some (.int .i64 i2) := Blk.cell J4 (i := 1) (by simp)
    have k42 : (w6.alloc (.cells #[.int .i64 c2, .int .i64 i2, .bool t2, .int .i64 o2, .string s2] 23)).cell? ⟨w6.heap.size, 2, none⟩ = some (.bool t2) := Blk.cell J4 (i := 2) (by simp)
    have k43 : (w6.alloc (.cells #[.int .i64 c2, .int .i64 i2, .bool t2, .int .i64 o2, .string s2] 23)).cell? ⟨w6.heap.size, 3, none⟩ = some (.int .i64 o2) := Blk.cell J4 (i := 3) (by simp)
    have k44 : (w6.alloc (.cells #[.int .i64 c2, .int .i64 i2, .bool t2, .int .i64 o2, .string s2] 23)).cell? ⟨w6.heap.size, 4, none⟩ = some (.string s2) := Blk.cell J4 (i := 4) (by simp)
    have HA := hid A4
    clear A4 J1 J2 J3 J4
    go_wp2_with (go_at_call 13; refine (lives16_any _).mono ?_; rintro en w10 ⟨rfl, rfl⟩)
    go_ret
    exact ⟨rfl, HA.out⟩
  · have h' : ¬ (120 : Int) < (xs.length : Int) := by omega
    have ry := ha
    have lys : xs.length = xs.length := rfl
    have R1 := fun w1 r1 => dec_any a c xs w1 r1
    have R2 := fun w1 r1 => refdec_any a c xs w1 r1
    have R3 := hid (fun a' c' w1 r1 => dec_any a' c' (sealX xs) w1 r1)
    have R4 := hid (fun a' c' w1 r1 => refdec_any a' c' (sealX xs) w1 r1)
    have HS := fun w1 r1 => sealed16_any a c xs w1 r1 (by omega)
    clear ha
    clear lys
    have lys : True := trivial
    generalize xs.length = n at h h' hl hcap R1 R2 HS ⊢
    obtain ⟨ys, hys⟩ : ∃ ys, ys = xs := ⟨_, rfl⟩
    subst hys
    have R1 := hid R1; have R2 := hid R2; have HS := hid HS
    clear lys
    obtain ⟨c1, i1, t1, o1, s1, hv1⟩ := decV_rec ys
    obtain ⟨c2, i2, t2, o2, s2, hv2⟩ := decV_rec (sealX ys)
    rw [hv1] at R1 R2
    rw [hv2] at R3 R4
    unfold recV at R1 R2 R3 R4
    generalize decE ys = q1 at *
    generalize decE (sealX ys) = q2 at *
    generalize decN ys = m1 at *
    generalize decN (sealX ys) = m2 at *
    generalize sealX ys = zs at *
    clear hv1 hv2
    go_enter Try.func4, Try.ntmps4
    go_wp2_with fail
    refine (R1.out w ry).mono ?_
    rintro e w1 ⟨rfl, b1⟩
    go_wp2_with fail
    have K1 : Blk (w1.alloc (.cells #[.int .i64 c1, .int .i64 i1, .bool t1, .int .i64 o1, .string s1] 23)) w1.heap.size 23 [.int .i64 c1, .int .i64 i1, .bool t1, .int .i64 o1, .string s1] := heap_alloc_new w1 _
    have A1 := b1.alloc b1.size (.cells #[.int .i64 c1, .int .i64 i1, .bool t1, .int .i64 o1, .string s1] 23)
    clear b1
    generalize w1.alloc _ = u1 at *
    generalize w1.heap.size = P1 at *
    refine (R2.out u1 (ry.mono A1)).mono ?_
    rintro e w2 ⟨rfl, c2⟩
    have K1' := Blk.mono K1 c2
    have b2 := below_trans A1 c2 A1.size
    clear K1 A1 c2 R1 R2
    go_wp2_with fail
    have K2 : Blk (w2.alloc (.cells #[.int .i64 c1, .int .i64 i1, .bool t1, .int .i64 o1, .string s1] 23)) w2.heap.size 23 [.int .i64 c1, .int .i64 i1, .bool t1, .int .i64 o1, .string s1] := heap_alloc_new w2 _
    have A2 := b2.alloc b2.size (.cells #[.int .i64 c1, .int .i64 i1, .bool t1, .int .i64 o1, .string s1] 23)
    clear b2
    have K1 := Blk.mono K1' ((Below.refl _ w2).alloc (Nat.le_refl _) (.cells #[.int .i64 c1, .int .i64 i1, .bool t1, .int .i64 o1, .string s1] 23))
    clear K1'
    generalize w2.alloc _ = u2 at *
    generalize w2.heap.size = P2 at *
    refine (HS.out u2 (ry.mono A2)).mono ?_
    rintro e w3 ⟨a3, c3, rfl, z3, d3⟩
    have K1' := Blk.mono K1 d3
    have K2' := Blk.mono K2 d3
    have b3 := below_trans A2 d3 A2.size
    clear K1 K2 A2 d3
    go_wp2_with fail
    refine (R3.out a3 c3 w3 z3).mono ?_
    rintro e w4 ⟨rfl, d4⟩
    have K1 := Blk.mono K1' d4
    have K2 := Blk.mono K2' d4
    have b4 := below_trans b3 d4 b3.size
    clear K1' K2' b3 d4 z3 R3
    go_wp2_with fail
    have K3 : Blk (w4.alloc (.cells #[.int .i64 c2, .int .i64 i2, .bool t2, .int .i64 o2, .string s2] 23)) w4.heap.size 23 [.int .i64 c2, .int .i64 i2, .bool t2, .int .i64 o2, .string s2] := heap_alloc_new w4 _
    have A3 := b4.alloc b4.size (.cells #[.int .i64 c2, .int .i64 i2, .bool t2, .int .i64 o2, .string s2] 23)
    clear b4
    have K1' := Blk.mono K1 ((Below.refl _ w4).alloc (Nat.le_refl _) (.cells #[.int .i64 c2, .int .i64 i2, .bool t2, .int .i64 o2, .string s2] 23))
    have K2' := Blk.mono K2 ((Below.refl _ w4).alloc (Nat.le_refl _) (.cells #[.int .i64 c2, .int .i64 i2, .bool t2, .int .i64 o2, .string s2] 23))
    clear K1 K2
    generalize w4.alloc _ = u4 at *
    generalize w4.heap.size = P3 at *
    refine (HS.out u4 (ry.mono A3)).mono ?_
    rintro e w5 ⟨a5, c5, rfl, z5, d5⟩
    have K1 := Blk.mono K1' d5
    have K2 := Blk.mono K2' d5
    have K3' := Blk.mono K3 d5
    have b5 := below_trans A3 d5 A3.size
    clear K1' K2' K3 A3 d5
    go_wp2_with fail
    refine (R4.out a5 c5 w5 z5).mono ?_
    rintro e w6 ⟨rfl, d6⟩
    have K1' := Blk.mono K1 d6
    have K2' := Blk.mono K2 d6
    have K3 := Blk.mono K3' d6
    have b6 := below_trans b5 d6 b5.size
    clear K1 K2 K3' b5 d6 z5 R4
    have K4 : Blk (w6.alloc (.cells #[.int .i64 c2, .int .i64 i2, .bool t2, .int .i64 o2, .string s2] 23)) w6.heap.size 23 [.int .i64 c2, .int .i64 i2, .bool t2, .int .i64 o2, .string s2] := heap_alloc_new w6 _
    have A4 := b6.alloc b6.size (.cells #[.int .i64 c2, .int .i64 i2, .bool t2, .int .i64 o2, .string s2] 23)
    clear b6
    have J1 := Blk.mono K1' ((Below.refl _ w6).alloc (Nat.le_refl _) (.cells #[.int .i64 c2, .int .i64 i2, .bool t2, .int .i64 o2, .string s2] 23))
    have J2 := Blk.mono K2' ((Below.refl _ w6).alloc (Nat.le_refl _) (.cells #[.int .i64 c2, .int .i64 i2, .bool t2, .int .i64 o2, .string s2] 23))
    have J3 := Blk.mono K3 ((Below.refl _ w6).alloc (Nat.le_refl _) (.cells #[.int .i64 c2, .int .i64 i2, .bool t2, .int .i64 o2, .string s2] 23))
    have J4 := K4
    clear K1' K2' K3 K4
    have k10 : (w6.alloc (.cells #[.int .i64 c2, .int .i64 i2, .bool t2, .int .i64 o2, .string s2] 23)).cell? ⟨P1, 0, none⟩ = some (.int .i64 c1) := Blk.cell J1 (i := 0) (by simp)
    have k11 : (w6.alloc (.cells #[.int .i64 c2, .int .i64 i2, .bool t2, .int .i64 o2, .string s2] 23)).cell? ⟨P1, 1, none⟩ = some (.int .i64 i1) := Blk.cell J1 (i := 1) (by simp)
    have k12 : (w6.alloc (.cells #[.int .i64 c2, .int .i64 i2, .bool t2, .int .i64 o2, .string s2] 23)).cell? ⟨P1, 2, none⟩ = some (.bool t1) := Blk.cell J1 (i := 2) (by simp)
    have k13 : (w6.alloc (.cells #[.int .i64 c2, .int .i64 i2, .bool t2, .int .i64 o2, .string s2] 23)).cell? ⟨P1, 3, none⟩ = some (.int .i64 o1) := Blk.cell J1 (i := 3) (by simp)
    have k14 : (w6.alloc (.cells #[.int .i64 c2, .int .i64 i2, .bool t2, .int .i64 o2, .string s2] 23)).cell? ⟨P1, 4, none⟩ = some (.string s1) := Blk.cell J1 (i := 4) (by simp)
    have k20 : (w6.alloc (.cells #[.int .i64 c2, .int .i64 i2, .bool t2, .int .i64 o2, .string s2] 23)).cell? ⟨P2, 0, none⟩ = some (.int .i64 c1) := Blk.cell J2 (i := 0) (by simp)
    have k21 : (w6.alloc (.cells #[.int .i64 c2, .int .i64 i2, .bool t2, .int .i64 o2, .string s2] 23)).cell? ⟨P2, 1, none⟩ = some (.int .i64 i1) := Blk.cell J2 (i := 1) (by simp)
    have k22 : (w6.alloc (.cells #[.int .i64 c2, .int .i64 i2, .bool t2, .int .i64 o2, .string s2] 23)).cell? ⟨P2, 2, none⟩ = some (.bool t1) := Blk.cell J2 (i := 2) (by simp)
    have k23 : (w6.alloc (.cells #[.int .i64 c2, .int .i64 i2, .bool t2, .int .i64 o2, .string s2] 23)).cell? ⟨P2, 3, none⟩ = some (.int .i64 o1) := Blk.cell J2 (i := 3) (by simp)
    have k24 : (w6.alloc (.cells #[.int .i64 c2, .int .i64 i2, .bool t2, .int .i64 o2, .string s2] 23)).cell? ⟨P2, 4, none⟩ = some (.string s1) := Blk.cell J2 (i := 4) (by simp)
    have k30 : (w6.alloc (.cells #[.int .i64 c2, .int .i64 i2, .bool t2, .int .i64 o2, .string s2] 23)).cell? ⟨P3, 0, none⟩ = some (.int .i64 c2) := Blk.cell J3 (i := 0) (by simp)
    have k31 : (w6.alloc (.cells #[.int .i64 c2, .int .i64 i2, .bool t2, .int .i64 o2, .string s2] 23)).cell? ⟨P3, 1, none⟩ = some (.int .i64 i2) := Blk.cell J3 (i := 1) (by simp)
    have k32 : (w6.alloc (.cells #[.int .i64 c2, .int .i64 i2, .bool t2, .int .i64 o2, .string s2] 23)).cell? ⟨P3, 2, none⟩ = some (.bool t2) := Blk.cell J3 (i := 2) (by simp)
    have k33 : (w6.alloc (.cells #[.int .i64 c2, .int .i64 i2, .bool t2, .int .i64 o2, .string s2] 23)).cell? ⟨P3, 3, none⟩ = some (.int .i64 o2) := Blk.cell J3 (i := 3) (by simp)
    have k34 : (w6.alloc (.cells #[.int .i64 c2, .int .i64 i2, .bool t2, .int .i64 o2, .string s2] 23)).cell? ⟨P3, 4, none⟩ = some (.string s2) := Blk.cell J3 (i := 4) (by simp)
    have k40 : (w6.alloc (.cells #[.int .i64 c2, .int .i64 i2, .bool t2, .int .i64 o2, .string s2] 23)).cell? ⟨w6.heap.size, 0, none⟩ = some (.int .i64 c2) := Blk.cell J4 (i := 0) (by simp)
    have k41 : (w6.alloc (.cells #[.int .i64 c2, .int .i64 i2, .bool t2, .int .i64 o2, .string s2] 23)).cell? ⟨w6.heap.size, 1, none⟩ = some (.int .i64 i2) := Blk.cell J4 (i := 1) (by simp)
    have k42 : (w6.alloc (.cells #[.int .i64 c2, .int .i64 i2, .bool t2, .int .i64 o2, .string s2] 23)).cell? ⟨w6.heap.size, 2, none⟩ = some (.bool t2) := Blk.cell J4 (i := 2) (by simp)
    have k43 : (w6.alloc (.cells #[.int .i64 c2, .int .i64 i2, .bool t2, .int .i64 o2, .string s2] 23)).cell? ⟨w6.heap.size, 3, none⟩ = some (.int .i64 o2) := Blk.cell J4 (i := 3) (by simp)
    have k44 : (w6.alloc (.cells #[.int .i64 c2, .int .i64 i2, .bool t2, .int .i64 o2, .string s2] 23)).cell? ⟨w6.heap.size, 4, none⟩ = some (.string s2) := Blk.cell J4 (i := 4) (by simp)
    have HA := hid A4
    clear A4 J1 J2 J3 J4
    go_wp2_with (go_at_call 13; refine (lives16_any _).mono ?_; rintro en w10 ⟨rfl, rfl⟩)
    go_ret
    exact ⟨rfl, HA.out⟩

end Go.Proofs.Ytngfpndikjbioaa
