import Derived.Test.YtpkmkmkknhnihaaSlotD
namespace Go.Proofs.Ytpkmkmkknhnihaa
open Go.RowKit
set_option linter.unusedSimpArgs false
set_option linter.unusedVariables false

theorem ofLE_le' (k n : Nat) (h : n < 256 ^ k) : ofLE (le k n) = n := by
  induction k generalizing n with
  | zero => simp [le, ofLE] at *; omega
  | succ k ih =>
    have h2 : n / 256 < 256 ^ k := by
      rw [Nat.div_lt_iff_lt_mul (by omega)]; rwa [Nat.pow_succ] at h
    simp [le, ofLE, ih _ h2]
    omega

theorem btw_iff {n m : Int} : btw n m = true ↔ 0 ≤ n ∧ n ≤ m := by simp [btw]
theorem headBody {n : Int} (h : btw n 1152921504606846976 = true) : foldF magicL [(n, 8)] = magicL ++ le 8 n.toNat := by
  have h' := (btw_iff.1 h).1
  simp [foldF, putF, fitsB, h']
theorem getF_headL {n : Int} (h : btw n 1152921504606846976 = true) : getF (headL n) 8 8 = some n.toNat := by
  have hl := headL_length h
  have h' := btw_iff.1 h
  have hs : ((headL n).drop (8 : Int).toNat).take (8 : Int).toNat = le 8 n.toNat := by
    unfold headL; rw [if_pos h, headBody h]
    simp [sealF, padF, magicL, le_length, List.take_append]
  unfold getF
  rw [if_pos ⟨rfl, by omega, by omega⟩, hs, ofLE_le' 8 n.toNat (by omega), if_pos (by omega)]
theorem getF_take {xs : List UInt8} (h : 64 ≤ xs.length) (A k : Nat) (hk : A + k ≤ 64) : getF (xs.take 64) A k = getF xs A k := by
  unfold getF
  have hl : (xs.take 64).length = 64 := by simp; omega
  have hs : ((xs.take 64).drop (A : Int).toNat).take (k : Int).toNat = (xs.drop (A : Int).toNat).take (k : Int).toNat := by
    simp only [Int.toNat_natCast]
    rw [List.drop_take, List.take_take, Nat.min_eq_left (by omega)]
  rw [hs, hl]
  have e1 : (0 ≤ (A : Int) ∧ (A : Int) + (k : Int) ≤ ((64 : Nat) : Int)) ↔ True := by simp; omega
  have e2 : (0 ≤ (A : Int) ∧ (A : Int) + (k : Int) ≤ (xs.length : Int)) ↔ True := by simp; omega
  simp only [e1, e2]

theorem good_some {xs : List UInt8} (h64 : 64 ≤ xs.length) (h : rhGood xs = true) : (getF xs 8 8).isSome = true := by
  unfold rhGood at h
  simp only [Bool.and_eq_true, decide_eq_true_eq] at h
  have := getF_take h64 8 8 (by omega)
  rw [h.2] at this
  have e := getF_headL h.1
  rw [show ((8 : Nat) : Int) = 8 from rfl] at this
  rw [← this, e]; rfl

theorem getF4 {xs : List UInt8} (h : 64 ≤ xs.length) : ∃ v, getF xs 60 4 = some v := by
  unfold getF
  rw [if_pos ⟨rfl, by omega, by omega⟩]
  rw [if_pos (ofLE_small (by simp; omega))]
  exact ⟨_, rfl⟩

set_option maxHeartbeats 1000000 in
theorem sealRef_any (a : Option Addr) (c : Nat) (xs : List UInt8) (w : World) (ha : RowB w a c xs) (hl : xs.length ≤ 60) :
    Calls Try.prog 24 #[.slice a xs.length c] w (RetB w (sealF xs)) := by
  have t1 : True := trivial
  go_enter Try.func24, Try.ntmps24
  go_wp2_with (first
    | (at_builtin; have _t := t1; refine wpl_append rfl (.tmp 4) (.tmp 5) rfl E8 w.heap.size rfl rfl (Own.nil _ _ _ _) ha (byteV_one xs) (by omega) (by omega) (Nat.le_refl _) ?_; clear t1; intro a1 c1 w1 hown hgrow hbel; simp only [Nat.zero_add, List.nil_append] at hown))
  clear hgrow
  go_loopw [3] (fun v wr => ∃ (j : Nat) (a' : Option Addr) (c' : Nat), xs.length + j ≤ 60 ∧ v = .slice a' (xs.length + j) c' ∧ Own wr w.heap.size 5 1 a' (xs.length + j) c' ((xs ++ List.replicate j 0).map byteV) ∧ Below w.heap.size w wr)
    (fun v _ => 60 - (match v with | .slice _ n _ => n | _ => 0))
  case atStart => exact ⟨0, a1, c1, by omega, by simp, by simpa using hown, hbel⟩
  case round =>
    clear hown hbel
    obtain ⟨j, a', c', hj, rfl, hown, hbel⟩ := hrel
    by_cases hlt : xs.length + j < 60
    · go_wp2_with (first
        | (at_builtin; refine wpl_append rfl (.tmp 10) (.tmp 11) rfl E8 w.heap.size rfl rfl (hown.alloc _) (row_new1 _ _ _) (by simp [Value.oneCell']) (by omega) (by omega) (by have := hbel.size; simp; omega) ?_; intro a2 c2 w2 hown2 hgrow2 hbel2))
      go_roundw
      case rel => exact ⟨j + 1, a2, c2, by omega, rfl, by simpa [Nat.add_assoc, List.replicate_succ', byteV] using hown2, (hbel.alloc hbel.size _).trans hbel2⟩
      case measure => simp; omega
    · have hj60 : xs.length + j = 60 := by omega
      have hp : xs ++ List.replicate j 0 = padF xs := by unfold padF; congr 2; omega
      rw [hp] at hown
      have hpl : (padF xs).length = 60 := padF_length hl
      have e60 : xs.length + j = (padF xs).length := by omega
      rw [e60] at hown ⊢
      have hple : (padF xs).length ≤ 60 := by omega
      have hple' : 60 ≤ (padF xs).length := by omega
      have rr : RowB wr a' c' (padF xs) := hown.row
      have hlow := hbel.size
      clear hpl e60 hp hj60 hlt hj hown
      generalize hP : padF xs = P at *
      have HP := hid hP; clear hP
      have hcl := crcF_lt P
      go_wp2_with fail
      refine (sumRef_any a' c' P wr rr).mono ?_
      rintro e w2 ⟨rfl, rfl⟩
      generalize hz : crcF P = z at *
      have HZ := hid hz; clear hz
      go_wp2_with fail
      refine (putRef_any a' c' P (z : Int) 4 wr rr (by omega) (by omega)).mono ?_
      rintro e w5 ⟨a5, c5, rfl, o5, b5⟩
      have he : putF P (z : Int) 4 = sealF xs := by
        unfold sealF; rw [HP.out, ← HZ.out]; exact put_sum _
      rw [he] at o5 ⊢
      go_wp2_with fail
      go_ret
      exact ⟨a5, c5, rfl, o5.low hlow, below_trans hbel b5 hlow⟩

set_option maxHeartbeats 1000000 in
theorem sealed_any (a : Option Addr) (c : Nat) (xs : List UInt8) (w : World) (ha : RowB w a c xs) :
    Calls Try.prog 15 #[.slice a xs.length c] w (RetB w (sealF (xs.take 60))) := by
  have hc : xs.length ≤ c := ha.2.1
  have hl := rowB_len ha
  have r60 := rowB_take ha 60
  have hl60 : (xs.take 60).length ≤ 60 := by simp; omega
  have hs := sealRef_any a c (xs.take 60) w r60 hl60
  by_cases h : 60 < xs.length
  · rw [show (xs.take 60).length = 60 from by simp; omega] at hs
    have HS := hid hs; clear hs r60 hl60
    go_enter Try.func15, Try.ntmps15
    go_wp2_with fail
    refine HS.out.mono ?_
    rintro e w5 ⟨a5, c5, rfl, o5, b5⟩
    go_wp2_with fail
    go_ret
    exact ⟨a5, c5, rfl, o5, b5⟩
  · rw [show (xs.take 60).length = xs.length from by simp; omega] at hs
    have HS := hid hs; clear hs r60 hl60
    go_enter Try.func15, Try.ntmps15
    go_wp2_with fail
    refine HS.out.mono ?_
    rintro e w5 ⟨a5, c5, rfl, o5, b5⟩
    go_wp2_with fail
    go_ret
    exact ⟨a5, c5, rfl, o5, b5⟩

set_option maxHeartbeats 400000 in
theorem few13_any (a : Option Addr) (c : Nat) (xs : List UInt8) (w : World) (ha : RowB w a c xs) (hl : xs.length ≤ 9223372036854775807) :
    Calls Try.prog 12 #[.slice a xs.length c] w fun e w' => e = .returned (.slice a (xs.take 100).length c) ∧ w = w' := by
  have hc : xs.length ≤ c := ha.2.1
  by_cases h : 100 < xs.length
  · have e : Hid ((xs.take 100).length = 100) := by show _ = _; simp; omega
    go_enter Try.func12, Try.ntmps12
    go_wp2
    go_ret
    exact ⟨by rw [e.out]; rfl, rfl⟩
  · have e : Hid ((xs.take 100).length = xs.length) := by show _ = _; simp; omega
    go_enter Try.func12, Try.ntmps12
    go_wp2
    go_ret
    exact ⟨by rw [e.out]; rfl, rfl⟩

theorem row_newf' (w : World) (L : List Value) (e : TypeId) (fr : Nat × Nat) (hl : L.length ≤ 9223372036854775807) : Row (w.alloc (.cells L.toArray e fr)) 1 (some ⟨w.heap.size, 0, none⟩) L.length L.length L := by
  refine ⟨by simp, Nat.le_refl _, by unfold maxLen; omega, fun h => by (cases h), fun _ => ⟨w.heap.size, 0, rfl, by simp, fun j u hu => ?_⟩⟩
  have hh := heap_alloc_new w (.cells L.toArray e fr)
  unfold World.cell?
  rw [show (⟨w.heap.size, 0 + j, none⟩ : Addr).block = w.heap.size from rfl, hh]
  simpa using hu

theorem head1 : (headL 1).take 10 = [67, 77, 78, 49, 0, 0, 0, 0, 1, 0] := by
  unfold headL
  rw [if_pos (by rfl), headBody (by rfl)]
  rfl

set_option maxHeartbeats 400000 in
theorem lives13_any (w : World) : Calls Try.prog 11 #[] w fun e w' => e = .returned (.bool true) ∧ Below w.heap.size w w' := by
  have hph := putHead_any 1 w (by omega)
  have hq := headL_length (n := 1) (by rfl)
  have h1 := head1
  rw [hq, show btw 1 1152921504606846976 = true from rfl, if_pos rfl] at hph
  have HPH := hid hph; clear hph
  generalize headL 1 = H at *
  go_enter Try.func11, Try.ntmps11
  go_wp2_with fail
  refine HPH.out.mono ?_
  rintro e w1 ⟨a1, c1, rfl, o1, b1⟩
  have r1 := o1.row
  have r10 := rowB_take r1 10
  rw [h1] at r10
  have hc1 : 64 ≤ c1 := by have := r1.2.1; omega
  clear o1 r1
  go_wp2_with fail
  refine (same_any a1 _ c1 _ [67, 77, 78, 49, 0, 0, 0, 0, 1, 0] [67, 77, 78, 49, 0, 0, 0, 0, 1, 0] _ (Row.alloc r10 _) (row_newf' w1 [byteV 67, byteV 77, byteV 78, byteV 49, byteV 0, byteV 0, byteV 0, byteV 0, byteV 1, byteV 0] _ _ (by simp)) (by simp) (by simp)).mono ?_
  rintro e w2 ⟨rfl, b2⟩
  go_wp2_with fail
  go_ret
  exact ⟨rfl, below_trans (b1.alloc b1.size _) b2 (Nat.le_trans b1.size (by simp))⟩

set_option maxHeartbeats 1000000 in
theorem rightRef_any (a : Option Addr) (c : Nat) (xs : List UInt8) (w : World) (ha : RowB w a c xs) :
    Calls Try.prog 28 #[.slice a xs.length c] w fun e w' => e = .returned (.int .i64 (chk xs)) ∧ w = w' := by
  have hl := rowB_len ha
  have hcap : xs.length ≤ c := ha.2.1
  by_cases h64 : 64 ≤ xs.length
  · have r60 := rowB_take ha 60
    have hlen : (xs.take 60).length = 60 := by simp; omega
    have hs := sumRef_any a c (xs.take 60) w r60
    rw [hlen] at hs
    have HS := hid hs; clear hs hlen r60
    have hg := getRef_any a c xs 60 4 w ha hl (by omega)
    obtain ⟨v, hgf⟩ := getF4 h64
    rw [hgf] at hg
    simp only [getV] at hg
    have hcl := crcF_lt (xs.take 60)
    by_cases hvz : v = crcF (xs.take 60)
    · have hk : chk xs = 0 := by unfold chk; rw [if_pos h64, hgf, if_pos (by rw [hvz])]
      rw [hk]
      rw [← hvz] at HS hcl
      have HG := hid hg
      clear hg hk hgf hvz
      go_enter Try.func28, Try.ntmps28
      go_wp2_with fail
      refine HG.out.mono ?_
      rintro e w1 ⟨rfl, rfl⟩
      simp only [Option.getD_some, Option.isSome_some]
      go_wp2_with fail
      refine HS.out.mono ?_
      rintro e w2 ⟨rfl, rfl⟩
      go_wp2_with fail
      go_ret
      exact ⟨rfl, rfl⟩
    · have hk : chk xs = 4 := by unfold chk; rw [if_pos h64, hgf, if_neg (by simpa using hvz)]
      rw [hk]
      have HG := hid hg
      clear hg hk hgf
      generalize crcF (xs.take 60) = z at *
      have hne : ¬ (v : Int) = (z : Int) := by omega
      go_enter Try.func28, Try.ntmps28
      go_wp2_with fail
      refine HG.out.mono ?_
      rintro e w1 ⟨rfl, rfl⟩
      simp only [Option.getD_some, Option.isSome_some]
      go_wp2_with fail
      refine HS.out.mono ?_
      rintro e w2 ⟨rfl, rfl⟩
      go_wp2_with fail
      go_ret
      exact ⟨rfl, rfl⟩
  · have hk : chk xs = 3 := by unfold chk; rw [if_neg h64]
    rw [hk]
    go_enter Try.func28, Try.ntmps28
    go_wp2_with fail
    go_ret
    exact ⟨rfl, rfl⟩

set_option maxHeartbeats 1000000 in
theorem putHeadRef_any (n : Int) (w : World) (hn : n ≤ 9223372036854775807) :
    Calls Try.prog 17 #[.int .i64 n] w fun e w' => ∃ a c, e = .returned (.tuple #[.slice a (headL n).length c, .int .i64 (if btw n 1152921504606846976 then 0 else 1)]) ∧ OwnB w' w.heap.size a c (headL n) ∧ Below w.heap.size w w' := by
  by_cases hb : btw n 1152921504606846976 = true
  · have hL : headL n = sealF (foldF magicL [(n, 8)]) := by unfold headL; rw [if_pos hb]
    have hE : (if btw n 1152921504606846976 then (0 : Int) else 1) = 0 := if_pos hb
    have hl := headBody_length hb
    have hl60 : (foldF magicL [(n, 8)]).length ≤ 60 := by omega
    obtain ⟨h0, hM⟩ := btw_iff.1 hb
    rw [hL, hE]
    have HL := hid hl60
    have hp : putF magicL n 8 = foldF magicL [(n, 8)] := rfl
    have HP := hid hp
    clear hb hL hE hl hl60 hp
    go_enter Try.func17, Try.ntmps17
    go_wp2_with fail
    refine (putRef_any _ _ magicL n 8 _ (row_newf' w [byteV 67, byteV 77, byteV 78, byteV 49, byteV 0, byteV 0, byteV 0, byteV 0] _ _ (by simp)) (by simp [magicL]) hn).mono ?_
    rintro e w1 ⟨a1, c1, rfl, o1, b1⟩
    rw [HP.out] at o1 ⊢
    have B1 := below_trans ((Below.refl _ w).alloc (Nat.le_refl _) _) b1 (by simp)
    go_wp2_with fail
    refine (sealRef_any a1 c1 _ w1 o1.row HL.out).mono ?_
    rintro e w2 ⟨a2, c2, rfl, o2, b2⟩
    go_wp2_with fail
    go_ret2
    exact ⟨a2, c2, rfl, o2.low B1.size, below_trans B1 b2 B1.size⟩
  · have hL : headL n = [] := by unfold headL; rw [if_neg hb]
    have hE : (if btw n 1152921504606846976 then (0 : Int) else 1) = 1 := if_neg hb
    have hcs : n < 0 ∨ (0 ≤ n ∧ 1152921504606846976 < n) := by rw [btw_iff] at hb; omega
    rw [hL, hE]
    clear hb hL hE
    rcases hcs with h0 | ⟨h0, h1⟩
    all_goals
      go_enter Try.func17, Try.ntmps17
      go_wp2_with fail
      go_ret2
      exact ⟨none, 0, rfl, Own.nil _ _ _ _, Below.refl _ _⟩

end Go.Proofs.Ytpkmkmkknhnihaa
