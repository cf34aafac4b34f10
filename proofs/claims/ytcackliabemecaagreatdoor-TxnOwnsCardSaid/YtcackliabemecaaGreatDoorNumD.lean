import Derived.Test.YtcackliabemecaaGreatDoorNumC
namespace Go.Proofs.YtcackliabemecaaGreatDoor
open Go.RowKit
set_option linter.unusedSimpArgs false
set_option linter.unusedVariables false

set_option maxHeartbeats 400000 in
/-- 'write': the bytes of a number into a part of a block of the call's own. -/
theorem write_any (g off m c n : Nat) (L : List Value) (w : World) (hb : Blk w g 5 L) (hm : off + m ≤ L.length) (hm8 : m ≤ 8) (hn : n ≤ 9223372036854775807) (hc : L.length ≤ 9223372036854775807) :
    Calls Tryz.prog 73 #[.slice (some ⟨g, off, none⟩) m c, .int .i64 n] w fun e w' => e = .returned (.tuple #[]) ∧ Blk w' g 5 (splice L off ((le m n).map byteV)) ∧ w.grownBy w' (some g) ∧ w'.heap.size = w.heap.size := by
  go_enter Tryz.func73, Tryz.ntmps73
  go_wp2_with fail
  go_loopw [4, 7] (fun i j' wr => ∃ j : Nat, j ≤ m ∧ j' = .int .i64 j ∧ Blk wr g 5 (splice L off ((le j n).map byteV)) ∧ w.grownBy wr (some g) ∧ wr.heap.size = w.heap.size) (fun _ i _ => m - (intOf i).toNat)
  case atStart => exact ⟨0, Nat.zero_le _, rfl, by simpa [le, splice] using hb, ⟨rfl, rfl, rfl, Nat.le_refl _, fun _ _ _ => rfl⟩, rfl⟩
  case round =>
    obtain ⟨j, hj, rfl, hblk, hgrow, hsz⟩ := hrel
    by_cases hlt : j < m
    · have hl : ((le j n).map byteV).length = j := by simp [le_length]
      have hls := length_splice L off ((le j n).map byteV) (by omega)
      obtain ⟨old, hcell⟩ := hblk.someCell (i := off + j) (by omega)
      have hfr := hblk.frozen (off + j)
      have hset := hblk.set (off + j) (byteV (UInt8.ofNat (n / 256 ^ j)))
      rw [show off + j = off + ((le j n).map byteV).length from by rw [hl], splice_set _ _ _ _ (by omega), hl] at hset
      rw [show (le j n).map byteV ++ [byteV (UInt8.ofNat (n / 256 ^ j))] = (le (j + 1) n).map byteV from by rw [le_snoc]; simp] at hset
      have hgs : w.grownBy (wr.setCell ⟨g, off + j, none⟩ (byteV (UInt8.ofNat (n / 256 ^ j)))) (some g) :=
        ⟨hgrow.os, hgrow.tape, hgrow.output, by simp [World.setCell]; exact hgrow.size, fun k hk hne => by
          rw [Below.heap_setCell _ _ _ _ (by rintro rfl; exact hne rfl)]; exact hgrow.block k hk hne⟩
      have hss : (wr.setCell ⟨g, off + j, none⟩ (byteV (UInt8.ofNat (n / 256 ^ j)))).heap.size = w.heap.size := by simp [World.setCell]; exact hsz
      have hby : byteV (UInt8.ofNat (n / 256 ^ j)) = .int .u8 ((n : Int) / 2 ^ (8 * j) % 256) := by
        have e : ((n : Int) / 2 ^ (8 * j)) = ((n / 256 ^ j : Nat) : Int) := by rw [← pow_8]; simp
        rw [e]; simp [byteV]
      rw [hby] at hset hgs hss
      have H := hid (And.intro hset (And.intro hgs hss))
      clear hset hgs hss hls hl hblk hgrow hby
      go_wp2
      go_roundw
      case rel => exact ⟨j + 1, by omega, by go_num, H.out.1, H.out.2.1, H.out.2.2⟩
      case measure => simp [intOf]; omega
    · obtain rfl : j = m := by omega
      go_wp2
      go_end0
      exact ⟨rfl, hblk, hgrow, hsz⟩

theorem size8 : (Tryz.prog.info? 5).map (·.size) = some 1 := by kernel_rfl
theorem info8 : (Tryz.prog.info? 5).map (fun i => (i.zero, i.size, i.bytes)) = some (some (.int .u8 0), 1, 1) := by kernel_rfl

theorem put_list (xs : List UInt8) (N K : Nat) (Z : List Value) (hZ : Z.length = xs.length + K) :
    splice (splice Z 0 (xs.map byteV)) xs.length ((le K N).map byteV) = (xs ++ le K N).map byteV := by
  have h1 : splice Z 0 (xs.map byteV) = xs.map byteV ++ Z.drop xs.length := by simp [splice]
  rw [h1]
  simp only [splice, List.length_map, le_length]
  rw [List.take_append_of_le_length (by simp), List.take_of_length_le (by simp), List.drop_of_length_le (by simp; omega)]
  simp

set_option maxHeartbeats 400000 in
theorem put_any (a : Option Addr) (c : Nat) (xs : List UInt8) (n k : Int) (w : World) (ha : RowB w a c xs) (hl : xs.length ≤ 70368744177664) (hn9 : n ≤ 9223372036854775807) :
    Calls Tryz.prog 61 #[.slice a xs.length c, .int .i64 n, .int .i64 k] w (RetB w (putF xs n k)) := by
  have t1 : True := trivial
  by_cases hf : fitsB n k = true
  · have hk := fitsB_width hf
    obtain ⟨N, rfl⟩ := Int.eq_ofNat_of_zero_le hk.1
    obtain ⟨K, rfl⟩ := Int.eq_ofNat_of_zero_le (by omega : 0 ≤ k)
    go_enter Tryz.func61, Tryz.ntmps61
    go_wp2_with fail
    refine (fits_any _ _ _).mono ?_
    rintro e w' ⟨rfl, rfl⟩
    rw [hf]
    have HF := hid hf; clear hf
    go_wp2_with (first
      | (at_make; refine wpl_make rfl (.tmp 17) (.tmp 17) rfl Tryz.underlying26 info8 rfl (n := xs.length + K) rfl rfl (by omega) (by omega) (by omega) (by omega) ?_; intro w1 hblk hbel)
      | (with_reducible refine wpl_copy rfl (.tmp 20) (.tmp 21) rfl Tryz.underlying26 size8 rfl rfl hblk (ha.mono hbel) (byteV_one xs) (by simp) ?_; intro w2 hblk2 hbel2))
    go_goals
    rw [show List.take (min xs.length (xs.length + K)) (List.map byteV xs) = xs.map byteV from List.take_of_length_le (by simp)] at hblk2
    refine (write_any w.heap.size xs.length K K N _ w2 hblk2 (by rw [length_splice _ _ _ (by simp)]; simp) (by omega) (by omega) (by rw [length_splice _ _ _ (by simp)]; simp; omega)).mono ?_
    rintro e w3 ⟨rfl, hblk3, hgrow3, hsz3⟩
    go_wp2_with fail
    go_ret
    rw [put_list xs N K _ (by simp)] at hblk3
    refine ⟨some ⟨w.heap.size, 0, none⟩, xs.length + K, by simp [putF, HF.out, le_length], ?_, (hbel.trans hbel2).grown hgrow3 (by have := hbel.size; have := hbel2.size; omega) (fun k hk => by cases hk; exact Nat.le_refl _)⟩
    have hown := Own.of_blk (B := w.heap.size) (sz := 1) (n := xs.length + K) (c := xs.length + K) hblk3 (Nat.le_refl _) (Nat.le_refl _) (by unfold maxLen; omega) (by simp [le_length])
    rw [List.take_of_length_le (by simp [le_length])] at hown
    simpa [putF, HF.out, OwnB, le_length] using hown
  · have hf' : fitsB n k = false := by simpa using hf
    clear hf
    go_enter Tryz.func61, Tryz.ntmps61
    go_wp2_with fail
    refine (fits_any _ _ _).mono ?_
    rintro e w' ⟨rfl, rfl⟩
    rw [hf']
    have HF := hid hf'; clear hf'
    go_wp2_with (first
      | (at_builtin; have _t := t1; refine wpl_append rfl (.const (.slice none 0 0)) (.tmp 12) rfl E8 w.heap.size rfl rfl (Own.nil _ _ _ _) ha (byteV_one xs) (by omega) (by omega) (Nat.le_refl _) ?_; clear t1; intro a1 c1 w1 hown hgrow hbel; simp only [Nat.zero_add, List.nil_append] at hown))
    go_ret
    exact ⟨a1, c1, by simp [putF, HF.out], by simpa [putF, HF.out, OwnB] using hown, hbel⟩

end Go.Proofs.YtcackliabemecaaGreatDoor
