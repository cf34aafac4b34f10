/- Packets in transit: a deed done to both bags. -/
import Derived.Test.YtgigadjohjpdkaaNetP
namespace Go.Proofs.Ytgigadjohjpdkaa
open Go.RowKit
set_option linter.unusedSimpArgs false
set_option linter.unusedVariables false

set_option maxHeartbeats 4000000 in
theorem does_take (B gb gr : Nat) (L : List PkT) (M : List (Int × List UInt8)) (hM : L.map seenP = M) (n : Int) (a : Option Addr) (c : Nat) (xs : List UInt8) (w : World) (h : Mid w B gb gr L M) (hr : ∀ X, Below B w X → RowB X a c xs) :
    Calls Try.prog 7 #[.pointer (some ⟨gb, 0, none⟩), .pointer (some ⟨gr, 0, none⟩), .agg #[.int .i64 1, .int .i64 n, .slice a xs.length c]] w fun e w' => e = .returned (.bool true) ∧ ∃ L', Mid w' B gb gr L' (L'.map seenP) ∧ Below B w w' := by
  have hBw : B ≤ w.heap.size := h.2.2.2.2.2
  have hl := rowB_len (hr w (Below.refl _ _))
  have hcap : xs.length ≤ c := (hr w (Below.refl _ _)).2.1
  have hc9 : c ≤ maxLen := (hr w (Below.refl _ _)).2.2.1
  by_cases h50 : 50 < xs.length
  · have d5 : decide ((50 : Int) < (xs.length : Int)) = true := decide_eq_true (by omega)
    obtain ⟨ys, hys⟩ : ∃ ys, ys = xs.take 50 := ⟨_, rfl⟩
    have hyl : 50 = ys.length := by rw [hys, List.length_take]; omega
    have HR := hid (show ∀ X, Below B w X → RowB X a c ys by
      intro X b
      have := rowB_take (hr X b) 50
      rw [← hys] at this
      exact this)
    have hn5 : 50 ≤ 50 := Nat.le_refl _
    have BK2 : Blk (w.alloc (.cells #[.int .i64 1, .int .i64 n, .slice a 50 c] 32)) w.heap.size 32 [.int .i64 1, .int .i64 n, .slice a 50 c] := blk_newO (W := w) rfl 32 [.int .i64 1, .int .i64 n, .slice a 50 c]
    have BB2 : Below w.heap.size w (w.alloc (.cells #[.int .i64 1, .int .i64 n, .slice a 50 c] 32)) := albO w _
    have P2 := hid (h.mono BB2)
    have BK2 := hid BK2
    have BB2 := hid (BB2.mono hBw)
    have HYL := hid hyl
    clear h hr hys hyl
    go_enter Try.func7, Try.ntmps7
    go_wp2_with fail
    generalize w.alloc (.cells #[.int .i64 1, .int .i64 n, .slice a 50 c] 32) = w2 at *
    refine (c_take2 B gb gr L M hM n false w2 P2.out).mono ?_
    rintro e w3 ⟨a3, c3, rfl, o3, L', hL', m3, b3, s3⟩
    have K3 := BK2.out.stayT s3 (by decide) (by decide)
    have x0 := K3.cell (i := 0) (by simp); have x1 := K3.cell (i := 1) (by simp); have x2 := K3.cell (i := 2) (by simp); simp only [List.getElem_cons_zero, List.getElem_cons_succ] at x0 x1 x2
    have O3 := hid o3; have M3 := hid m3; have B3 := hid b3; have K3 := hid K3; have HL' := hid hL'
    clear o3 m3 b3 s3 hL'
    go_wp2_with fail
    refine (r_take B gb gr L' M n false w3 M3.out).mono ?_
    rintro e w4 ⟨rfl, m4, b4, s4⟩
    have e4 : (convert 30 9 (.slice a3 (takeV M n).2.length c3)).run Try.prog w4 = .ok (.string ⟨(takeV M n).2.toArray⟩) w4 := run_str (O3.out.stayT s4 (by decide) (by decide)).row
    have M4 := hid m4; have B4 := hid b4
    clear m4 b4 s4 x0 x1 x2
    generalize (takeV M n).1 = t1 at *
    generalize (takeV M n).2.length = t2 at *
    generalize (⟨(takeV M n).2.toArray⟩ : ByteArray) = t3 at *
    generalize hIN : inP n M.length = t4 at *
    clear hIN
    cases t4
    · go_wp2_with fail
      go_ret
      exact ⟨rfl, L', by rw [HL'.out]; exact M4.out, (BB2.out.trans B3.out).trans B4.out⟩
    · go_wp2_with fail
      go_ret
      exact ⟨rfl, L', by rw [HL'.out]; exact M4.out, (BB2.out.trans B3.out).trans B4.out⟩
  · have d5 : decide ((50 : Int) < (xs.length : Int)) = false := decide_eq_false (by omega)
    obtain ⟨ys, hys⟩ : ∃ ys, ys = xs := ⟨_, rfl⟩
    have hyl : xs.length = ys.length := by rw [hys]
    have HR := hid (show ∀ X, Below B w X → RowB X a c ys by rw [hys]; exact hr)
    have hn5 : xs.length ≤ 50 := by omega
    have BK2 : Blk (w.alloc (.cells #[.int .i64 1, .int .i64 n, .slice a xs.length c] 32)) w.heap.size 32 [.int .i64 1, .int .i64 n, .slice a xs.length c] := blk_newO (W := w) rfl 32 [.int .i64 1, .int .i64 n, .slice a xs.length c]
    have BB2 : Below w.heap.size w (w.alloc (.cells #[.int .i64 1, .int .i64 n, .slice a xs.length c] 32)) := albO w _
    have P2 := hid (h.mono BB2)
    have BK2 := hid BK2
    have BB2 := hid (BB2.mono hBw)
    have HYL := hid hyl
    clear h hr hys hyl
    go_enter Try.func7, Try.ntmps7
    go_wp2_with fail
    generalize w.alloc (.cells #[.int .i64 1, .int .i64 n, .slice a xs.length c] 32) = w2 at *
    refine (c_take2 B gb gr L M hM n false w2 P2.out).mono ?_
    rintro e w3 ⟨a3, c3, rfl, o3, L', hL', m3, b3, s3⟩
    have K3 := BK2.out.stayT s3 (by decide) (by decide)
    have x0 := K3.cell (i := 0) (by simp); have x1 := K3.cell (i := 1) (by simp); have x2 := K3.cell (i := 2) (by simp); simp only [List.getElem_cons_zero, List.getElem_cons_succ] at x0 x1 x2
    have O3 := hid o3; have M3 := hid m3; have B3 := hid b3; have K3 := hid K3; have HL' := hid hL'
    clear o3 m3 b3 s3 hL'
    go_wp2_with fail
    refine (r_take B gb gr L' M n false w3 M3.out).mono ?_
    rintro e w4 ⟨rfl, m4, b4, s4⟩
    have e4 : (convert 30 9 (.slice a3 (takeV M n).2.length c3)).run Try.prog w4 = .ok (.string ⟨(takeV M n).2.toArray⟩) w4 := run_str (O3.out.stayT s4 (by decide) (by decide)).row
    have M4 := hid m4; have B4 := hid b4
    clear m4 b4 s4 x0 x1 x2
    generalize (takeV M n).1 = t1 at *
    generalize (takeV M n).2.length = t2 at *
    generalize (⟨(takeV M n).2.toArray⟩ : ByteArray) = t3 at *
    generalize hIN : inP n M.length = t4 at *
    clear hIN
    cases t4
    · go_wp2_with fail
      go_ret
      exact ⟨rfl, L', by rw [HL'.out]; exact M4.out, (BB2.out.trans B3.out).trans B4.out⟩
    · go_wp2_with fail
      go_ret
      exact ⟨rfl, L', by rw [HL'.out]; exact M4.out, (BB2.out.trans B3.out).trans B4.out⟩

set_option maxHeartbeats 4000000 in
theorem does_stay (B gb gr : Nat) (L : List PkT) (M : List (Int × List UInt8)) (hM : L.map seenP = M) (n : Int) (a : Option Addr) (c : Nat) (xs : List UInt8) (w : World) (h : Mid w B gb gr L M) (hr : ∀ X, Below B w X → RowB X a c xs) :
    Calls Try.prog 7 #[.pointer (some ⟨gb, 0, none⟩), .pointer (some ⟨gr, 0, none⟩), .agg #[.int .i64 2, .int .i64 n, .slice a xs.length c]] w fun e w' => e = .returned (.bool true) ∧ ∃ L', Mid w' B gb gr L' (L'.map seenP) ∧ Below B w w' := by
  have hBw : B ≤ w.heap.size := h.2.2.2.2.2
  have hl := rowB_len (hr w (Below.refl _ _))
  have hcap : xs.length ≤ c := (hr w (Below.refl _ _)).2.1
  have hc9 : c ≤ maxLen := (hr w (Below.refl _ _)).2.2.1
  by_cases h50 : 50 < xs.length
  · have d5 : decide ((50 : Int) < (xs.length : Int)) = true := decide_eq_true (by omega)
    obtain ⟨ys, hys⟩ : ∃ ys, ys = xs.take 50 := ⟨_, rfl⟩
    have hyl : 50 = ys.length := by rw [hys, List.length_take]; omega
    have HR := hid (show ∀ X, Below B w X → RowB X a c ys by
      intro X b
      have := rowB_take (hr X b) 50
      rw [← hys] at this
      exact this)
    have hn5 : 50 ≤ 50 := Nat.le_refl _
    have BK2 : Blk (w.alloc (.cells #[.int .i64 2, .int .i64 n, .slice a 50 c] 32)) w.heap.size 32 [.int .i64 2, .int .i64 n, .slice a 50 c] := blk_newO (W := w) rfl 32 [.int .i64 2, .int .i64 n, .slice a 50 c]
    have BB2 : Below w.heap.size w (w.alloc (.cells #[.int .i64 2, .int .i64 n, .slice a 50 c] 32)) := albO w _
    have P2 := hid (h.mono BB2)
    have BK2 := hid BK2
    have BB2 := hid (BB2.mono hBw)
    have HYL := hid hyl
    clear h hr hys hyl
    go_enter Try.func7, Try.ntmps7
    go_wp2_with fail
    generalize w.alloc (.cells #[.int .i64 2, .int .i64 n, .slice a 50 c] 32) = w2 at *
    refine (c_take2 B gb gr L M hM n true w2 P2.out).mono ?_
    rintro e w3 ⟨a3, c3, rfl, o3, L', hL', m3, b3, s3⟩
    have K3 := BK2.out.stayT s3 (by decide) (by decide)
    have x0 := K3.cell (i := 0) (by simp); have x1 := K3.cell (i := 1) (by simp); have x2 := K3.cell (i := 2) (by simp); simp only [List.getElem_cons_zero, List.getElem_cons_succ] at x0 x1 x2
    have O3 := hid o3; have M3 := hid m3; have B3 := hid b3; have K3 := hid K3; have HL' := hid hL'
    clear o3 m3 b3 s3 hL'
    go_wp2_with fail
    refine (r_take B gb gr L' M n true w3 M3.out).mono ?_
    rintro e w4 ⟨rfl, m4, b4, s4⟩
    have e4 : (convert 30 9 (.slice a3 (takeV M n).2.length c3)).run Try.prog w4 = .ok (.string ⟨(takeV M n).2.toArray⟩) w4 := run_str (O3.out.stayT s4 (by decide) (by decide)).row
    have M4 := hid m4; have B4 := hid b4
    clear m4 b4 s4 x0 x1 x2
    generalize (takeV M n).1 = t1 at *
    generalize (takeV M n).2.length = t2 at *
    generalize (⟨(takeV M n).2.toArray⟩ : ByteArray) = t3 at *
    generalize hIN : inP n M.length = t4 at *
    clear hIN
    cases t4
    · go_wp2_with fail
      go_ret
      exact ⟨rfl, L', by rw [HL'.out]; exact M4.out, (BB2.out.trans B3.out).trans B4.out⟩
    · go_wp2_with fail
      go_ret
      exact ⟨rfl, L', by rw [HL'.out]; exact M4.out, (BB2.out.trans B3.out).trans B4.out⟩
  · have d5 : decide ((50 : Int) < (xs.length : Int)) = false := decide_eq_false (by omega)
    obtain ⟨ys, hys⟩ : ∃ ys, ys = xs := ⟨_, rfl⟩
    have hyl : xs.length = ys.length := by rw [hys]
    have HR := hid (show ∀ X, Below B w X → RowB X a c ys by rw [hys]; exact hr)
    have hn5 : xs.length ≤ 50 := by omega
    have BK2 : Blk (w.alloc (.cells #[.int .i64 2, .int .i64 n, .slice a xs.length c] 32)) w.heap.size 32 [.int .i64 2, .int .i64 n, .slice a xs.length c] := blk_newO (W := w) rfl 32 [.int .i64 2, .int .i64 n, .slice a xs.length c]
    have BB2 : Below w.heap.size w (w.alloc (.cells #[.int .i64 2, .int .i64 n, .slice a xs.length c] 32)) := albO w _
    have P2 := hid (h.mono BB2)
    have BK2 := hid BK2
    have BB2 := hid (BB2.mono hBw)
    have HYL := hid hyl
    clear h hr hys hyl
    go_enter Try.func7, Try.ntmps7
    go_wp2_with fail
    generalize w.alloc (.cells #[.int .i64 2, .int .i64 n, .slice a xs.length c] 32) = w2 at *
    refine (c_take2 B gb gr L M hM n true w2 P2.out).mono ?_
    rintro e w3 ⟨a3, c3, rfl, o3, L', hL', m3, b3, s3⟩
    have K3 := BK2.out.stayT s3 (by decide) (by decide)
    have x0 := K3.cell (i := 0) (by simp); have x1 := K3.cell (i := 1) (by simp); have x2 := K3.cell (i := 2) (by simp); simp only [List.getElem_cons_zero, List.getElem_cons_succ] at x0 x1 x2
    have O3 := hid o3; have M3 := hid m3; have B3 := hid b3; have K3 := hid K3; have HL' := hid hL'
    clear o3 m3 b3 s3 hL'
    go_wp2_with fail
    refine (r_take B gb gr L' M n true w3 M3.out).mono ?_
    rintro e w4 ⟨rfl, m4, b4, s4⟩
    have e4 : (convert 30 9 (.slice a3 (takeV M n).2.length c3)).run Try.prog w4 = .ok (.string ⟨(takeV M n).2.toArray⟩) w4 := run_str (O3.out.stayT s4 (by decide) (by decide)).row
    have M4 := hid m4; have B4 := hid b4
    clear m4 b4 s4 x0 x1 x2
    generalize (takeV M n).1 = t1 at *
    generalize (takeV M n).2.length = t2 at *
    generalize (⟨(takeV M n).2.toArray⟩ : ByteArray) = t3 at *
    generalize hIN : inP n M.length = t4 at *
    clear hIN
    cases t4
    · go_wp2_with fail
      go_ret
      exact ⟨rfl, L', by rw [HL'.out]; exact M4.out, (BB2.out.trans B3.out).trans B4.out⟩
    · go_wp2_with fail
      go_ret
      exact ⟨rfl, L', by rw [HL'.out]; exact M4.out, (BB2.out.trans B3.out).trans B4.out⟩

set_option maxHeartbeats 4000000 in
theorem does_lose (B gb gr : Nat) (L : List PkT) (M : List (Int × List UInt8)) (hM : L.map seenP = M) (n : Int) (a : Option Addr) (c : Nat) (xs : List UInt8) (w : World) (h : Mid w B gb gr L M) (hr : ∀ X, Below B w X → RowB X a c xs) :
    Calls Try.prog 7 #[.pointer (some ⟨gb, 0, none⟩), .pointer (some ⟨gr, 0, none⟩), .agg #[.int .i64 4, .int .i64 n, .slice a xs.length c]] w fun e w' => e = .returned (.bool true) ∧ ∃ L', Mid w' B gb gr L' (L'.map seenP) ∧ Below B w w' := by
  have hBw : B ≤ w.heap.size := h.2.2.2.2.2
  have hl := rowB_len (hr w (Below.refl _ _))
  have hcap : xs.length ≤ c := (hr w (Below.refl _ _)).2.1
  have hc9 : c ≤ maxLen := (hr w (Below.refl _ _)).2.2.1
  by_cases h50 : 50 < xs.length
  · have d5 : decide ((50 : Int) < (xs.length : Int)) = true := decide_eq_true (by omega)
    obtain ⟨ys, hys⟩ : ∃ ys, ys = xs.take 50 := ⟨_, rfl⟩
    have hyl : 50 = ys.length := by rw [hys, List.length_take]; omega
    have HR := hid (show ∀ X, Below B w X → RowB X a c ys by
      intro X b
      have := rowB_take (hr X b) 50
      rw [← hys] at this
      exact this)
    have hn5 : 50 ≤ 50 := Nat.le_refl _
    have BK2 : Blk (w.alloc (.cells #[.int .i64 4, .int .i64 n, .slice a 50 c] 32)) w.heap.size 32 [.int .i64 4, .int .i64 n, .slice a 50 c] := blk_newO (W := w) rfl 32 [.int .i64 4, .int .i64 n, .slice a 50 c]
    have BB2 : Below w.heap.size w (w.alloc (.cells #[.int .i64 4, .int .i64 n, .slice a 50 c] 32)) := albO w _
    have P2 := hid (h.mono BB2)
    have BK2 := hid BK2
    have BB2 := hid (BB2.mono hBw)
    have HYL := hid hyl
    clear h hr hys hyl
    go_enter Try.func7, Try.ntmps7
    go_wp2_with fail
    generalize w.alloc (.cells #[.int .i64 4, .int .i64 n, .slice a 50 c] 32) = w2 at *
    refine (c_lose2 B gb gr L M hM n w2 P2.out).mono ?_
    rintro e w3 ⟨rfl, L', hL', m3, b3, s3⟩
    have K3 := BK2.out.stayT s3 (by decide) (by decide)
    have x0 := K3.cell (i := 0) (by simp); have x1 := K3.cell (i := 1) (by simp); have x2 := K3.cell (i := 2) (by simp); simp only [List.getElem_cons_zero, List.getElem_cons_succ] at x0 x1 x2
    have M3 := hid m3; have B3 := hid b3; have HL' := hid hL'
    clear m3 b3 s3 hL' K3
    go_wp2_with fail
    refine (r_lose B gb gr L' M n w3 M3.out).mono ?_
    rintro e w4 ⟨rfl, m4, b4, s4⟩
    have M4 := hid m4; have B4 := hid b4
    clear m4 b4 s4 x0 x1 x2
    go_wp2_with fail
    go_ret
    exact ⟨rfl, L', by rw [HL'.out]; exact M4.out, (BB2.out.trans B3.out).trans B4.out⟩
  · have d5 : decide ((50 : Int) < (xs.length : Int)) = false := decide_eq_false (by omega)
    obtain ⟨ys, hys⟩ : ∃ ys, ys = xs := ⟨_, rfl⟩
    have hyl : xs.length = ys.length := by rw [hys]
    have HR := hid (show ∀ X, Below B w X → RowB X a c ys by rw [hys]; exact hr)
    have hn5 : xs.length ≤ 50 := by omega
    have BK2 : Blk (w.alloc (.cells #[.int .i64 4, .int .i64 n, .slice a xs.length c] 32)) w.heap.size 32 [.int .i64 4, .int .i64 n, .slice a xs.length c] := blk_newO (W := w) rfl 32 [.int .i64 4, .int .i64 n, .slice a xs.length c]
    have BB2 : Below w.heap.size w (w.alloc (.cells #[.int .i64 4, .int .i64 n, .slice a xs.length c] 32)) := albO w _
    have P2 := hid (h.mono BB2)
    have BK2 := hid BK2
    have BB2 := hid (BB2.mono hBw)
    have HYL := hid hyl
    clear h hr hys hyl
    go_enter Try.func7, Try.ntmps7
    go_wp2_with fail
    generalize w.alloc (.cells #[.int .i64 4, .int .i64 n, .slice a xs.length c] 32) = w2 at *
    refine (c_lose2 B gb gr L M hM n w2 P2.out).mono ?_
    rintro e w3 ⟨rfl, L', hL', m3, b3, s3⟩
    have K3 := BK2.out.stayT s3 (by decide) (by decide)
    have x0 := K3.cell (i := 0) (by simp); have x1 := K3.cell (i := 1) (by simp); have x2 := K3.cell (i := 2) (by simp); simp only [List.getElem_cons_zero, List.getElem_cons_succ] at x0 x1 x2
    have M3 := hid m3; have B3 := hid b3; have HL' := hid hL'
    clear m3 b3 s3 hL' K3
    go_wp2_with fail
    refine (r_lose B gb gr L' M n w3 M3.out).mono ?_
    rintro e w4 ⟨rfl, m4, b4, s4⟩
    have M4 := hid m4; have B4 := hid b4
    clear m4 b4 s4 x0 x1 x2
    go_wp2_with fail
    go_ret
    exact ⟨rfl, L', by rw [HL'.out]; exact M4.out, (BB2.out.trans B3.out).trans B4.out⟩

set_option maxHeartbeats 4000000 in
theorem does_send (B gb gr : Nat) (L : List PkT) (M : List (Int × List UInt8)) (hM : L.map seenP = M) (n : Int) (a : Option Addr) (c : Nat) (xs : List UInt8) (w : World) (h : Mid w B gb gr L M) (hr : ∀ X, Below B w X → RowB X a c xs) :
    Calls Try.prog 7 #[.pointer (some ⟨gb, 0, none⟩), .pointer (some ⟨gr, 0, none⟩), .agg #[.int .i64 0, .int .i64 n, .slice a xs.length c]] w fun e w' => e = .returned (.bool true) ∧ ∃ L', Mid w' B gb gr L' (L'.map seenP) ∧ Below B w w' := by
  have hBw : B ≤ w.heap.size := h.2.2.2.2.2
  have hl := rowB_len (hr w (Below.refl _ _))
  have hcap : xs.length ≤ c := (hr w (Below.refl _ _)).2.1
  have hc9 : c ≤ maxLen := (hr w (Below.refl _ _)).2.2.1
  by_cases h50 : 50 < xs.length
  · have d5 : decide ((50 : Int) < (xs.length : Int)) = true := decide_eq_true (by omega)
    obtain ⟨ys, hys⟩ : ∃ ys, ys = xs.take 50 := ⟨_, rfl⟩
    have hyl : 50 = ys.length := by rw [hys, List.length_take]; omega
    have HR := hid (show ∀ X, Below B w X → RowB X a c ys by
      intro X b
      have := rowB_take (hr X b) 50
      rw [← hys] at this
      exact this)
    have hn5 : 50 ≤ 50 := Nat.le_refl _
    have BK2 : Blk (w.alloc (.cells #[.int .i64 0, .int .i64 n, .slice a 50 c] 32)) w.heap.size 32 [.int .i64 0, .int .i64 n, .slice a 50 c] := blk_newO (W := w) rfl 32 [.int .i64 0, .int .i64 n, .slice a 50 c]
    have BB2 : Below w.heap.size w (w.alloc (.cells #[.int .i64 0, .int .i64 n, .slice a 50 c] 32)) := albO w _
    have P2 := hid (h.mono BB2)
    have BK2 := hid BK2
    have BB2 := hid (BB2.mono hBw)
    have HYL := hid hyl
    clear h hr hys hyl
    go_enter Try.func7, Try.ntmps7
    go_wp2_with fail
    generalize w.alloc (.cells #[.int .i64 0, .int .i64 n, .slice a 50 c] 32) = w2 at *
    have HC := hid (c_send2 B gb gr L M hM n a c 50 ys w2.drew (P2.out.mono (Below.refl _ _).drew) (HR.out _ BB2.out.drew) HYL.out hn5)
    have hS0 : Blk w2.drew w.heap.size 32 [.int .i64 0, .int .i64 n, .slice a 50 c] := BK2.out
    refine wp_region_held_drew (S := fun X => Blk X w.heap.size 32 [.int .i64 0, .int .i64 n, .slice a 50 c]) (by kernel_rfl) hS0 (fun hS_0 => ?_)
    refine takeR (i := 0) (v := .pointer (some ⟨gb, 0, none⟩)) rfl rfl (by kernel_rfl) (by kernel_rfl) (by kernel_rfl) (fun _ _ _ h => h) (Or.inl ⟨Eq.refl true, fun w1 hSw => ?_⟩) hS_0 ?_
    · first | rfl | (clear hSw; go_simp; done) | (clear hSw; go_simp; rfl)
    (try simp only [Act.put, List.setIfInBounds_toArray, List.set_cons_zero, List.set_cons_succ])
    refine takeR (i := 1) (v := .pointer (some ⟨w.heap.size, 1, none⟩)) rfl rfl (by kernel_rfl) (by kernel_rfl) (by kernel_rfl) (fun _ _ _ h => h) (Or.inl ⟨Eq.refl true, fun w1 hSw => ?_⟩) hS_0 ?_
    · first | rfl | (clear hSw; go_simp; done) | (clear hSw; go_simp; rfl)
    (try simp only [Act.put, List.setIfInBounds_toArray, List.set_cons_zero, List.set_cons_succ])
    refine takeR (i := 2) (v := .int .i64 n) rfl rfl (by kernel_rfl) (by kernel_rfl) (by kernel_rfl) (fun _ _ _ h => h) (Or.inl ⟨Eq.refl true, fun w1 hSw => ?_⟩) hS_0 ?_
    · (have q0 := hSw.cell (i := 0) (by simp); have q1 := hSw.cell (i := 1) (by simp); have q2 := hSw.cell (i := 2) (by simp); simp only [List.getElem_cons_zero, List.getElem_cons_succ] at q0 q1 q2; go_simp; try rfl)
    (try simp only [Act.put, List.setIfInBounds_toArray, List.set_cons_zero, List.set_cons_succ])
    refine takeR (i := 3) (v := .pointer (some ⟨w.heap.size, 2, none⟩)) rfl rfl (by kernel_rfl) (by kernel_rfl) (by kernel_rfl) (fun _ _ _ h => h) (Or.inl ⟨Eq.refl true, fun w1 hSw => ?_⟩) hS_0 ?_
    · first | rfl | (clear hSw; go_simp; done) | (clear hSw; go_simp; rfl)
    (try simp only [Act.put, List.setIfInBounds_toArray, List.set_cons_zero, List.set_cons_succ])
    refine takeR (i := 4) (v := .slice a 50 c) rfl rfl (by kernel_rfl) (by kernel_rfl) (by kernel_rfl) (fun _ _ _ h => h) (Or.inl ⟨Eq.refl true, fun w1 hSw => ?_⟩) hS_0 ?_
    · (have q0 := hSw.cell (i := 0) (by simp); have q1 := hSw.cell (i := 1) (by simp); have q2 := hSw.cell (i := 2) (by simp); simp only [List.getElem_cons_zero, List.getElem_cons_succ] at q0 q1 q2; go_simp; try rfl)
    (try simp only [Act.put, List.setIfInBounds_toArray, List.set_cons_zero, List.set_cons_succ])
    refine takeR (i := 6) (v := .pointer (some ⟨gr, 0, none⟩)) rfl rfl (by kernel_rfl) (by kernel_rfl) (by kernel_rfl) (fun _ _ _ h => h) (Or.inl ⟨Eq.refl true, fun w1 hSw => ?_⟩) hS_0 ?_
    · first | rfl | (clear hSw; go_simp; done) | (clear hSw; go_simp; rfl)
    (try simp only [Act.put, List.setIfInBounds_toArray, List.set_cons_zero, List.set_cons_succ])
    refine takeR (i := 7) (v := .pointer (some ⟨w.heap.size, 1, none⟩)) rfl rfl (by kernel_rfl) (by kernel_rfl) (by kernel_rfl) (fun _ _ _ h => h) (Or.inl ⟨Eq.refl true, fun w1 hSw => ?_⟩) hS_0 ?_
    · first | rfl | (clear hSw; go_simp; done) | (clear hSw; go_simp; rfl)
    (try simp only [Act.put, List.setIfInBounds_toArray, List.set_cons_zero, List.set_cons_succ])
    refine takeR (i := 8) (v := .int .i64 n) rfl rfl (by kernel_rfl) (by kernel_rfl) (by kernel_rfl) (fun _ _ _ h => h) (Or.inl ⟨Eq.refl true, fun w1 hSw => ?_⟩) hS_0 ?_
    · (have q0 := hSw.cell (i := 0) (by simp); have q1 := hSw.cell (i := 1) (by simp); have q2 := hSw.cell (i := 2) (by simp); simp only [List.getElem_cons_zero, List.getElem_cons_succ] at q0 q1 q2; go_simp; try rfl)
    (try simp only [Act.put, List.setIfInBounds_toArray, List.set_cons_zero, List.set_cons_succ])
    refine takeR (i := 9) (v := .pointer (some ⟨w.heap.size, 2, none⟩)) rfl rfl (by kernel_rfl) (by kernel_rfl) (by kernel_rfl) (fun _ _ _ h => h) (Or.inl ⟨Eq.refl true, fun w1 hSw => ?_⟩) hS_0 ?_
    · first | rfl | (clear hSw; go_simp; done) | (clear hSw; go_simp; rfl)
    (try simp only [Act.put, List.setIfInBounds_toArray, List.set_cons_zero, List.set_cons_succ])
    refine takeR (i := 10) (v := .slice a 50 c) rfl rfl (by kernel_rfl) (by kernel_rfl) (by kernel_rfl) (fun _ _ _ h => h) (Or.inl ⟨Eq.refl true, fun w1 hSw => ?_⟩) hS_0 ?_
    · (have q0 := hSw.cell (i := 0) (by simp); have q1 := hSw.cell (i := 1) (by simp); have q2 := hSw.cell (i := 2) (by simp); simp only [List.getElem_cons_zero, List.getElem_cons_succ] at q0 q1 q2; go_simp; try rfl)
    (try simp only [Act.put, List.setIfInBounds_toArray, List.set_cons_zero, List.set_cons_succ])
    refine wpAnyH_ready (rs := [5]) (by kernel_rfl) (by simp) (AllReadyH.cons rfl (fun K hK => ?_) AllReadyH.nil)
    go_simp
    go_wp2_with (go_at_call 10; refine HC.out.mono ?_; rintro e w5 ⟨rfl, L', hL', m5, b5, s5⟩; have M5 := hid m5; have B5 := hid b5; have HL' := hid hL'; have R5 := hid (HR.out w5 ((BB2.out.drew).trans b5)); clear m5 hL')
    refine hK.out _ _ ?_ (fun hS_1 => ?_)
    · exact hS_0.stayT s5 (by decide) (by decide)
    clear hK K
    refine wpAnyH_ready (rs := [11]) (by kernel_rfl) (by simp) (AllReadyH.cons rfl (fun K hK => ?_) AllReadyH.nil)
    go_simp
    go_wp2_with (go_at_call 14; refine (r_send B gb gr L' M n a c 50 ys _ M5.out R5.out HYL.out hn5).mono ?_; rintro e w6 ⟨rfl, m6, b6, s6⟩; have M6 := hid m6; have B6 := hid b6; clear m6)
    refine hK.out _ _ ?_ (fun hS_2 => ?_)
    · exact hS_1.stayT s6 (by decide) (by decide)
    clear hK K
    refine takeR (i := 12) (v := .bool true) rfl rfl (by kernel_rfl) (by kernel_rfl) (by kernel_rfl) (fun _ _ _ h => h) (Or.inl ⟨Eq.refl true, fun w1 hSw => ?_⟩) hS_2 ?_
    · first | rfl | (clear hSw; go_simp; done) | (clear hSw; go_simp; rfl)
    (try simp only [Act.put, List.setIfInBounds_toArray, List.set_cons_zero, List.set_cons_succ])
    refine takeR (i := 13) (v := .bool true) rfl rfl (by kernel_rfl) (by kernel_rfl) (by kernel_rfl) (fun _ _ _ h => h) (Or.inl ⟨Eq.refl true, fun w1 hSw => ?_⟩) hS_2 ?_
    · first | rfl | (clear hSw; go_simp; done) | (clear hSw; go_simp; rfl)
    (try simp only [Act.put, List.setIfInBounds_toArray, List.set_cons_zero, List.set_cons_succ])
    refine wpAnyH_done (by kernel_rfl) ?_ _
    clear hS_0 hS_1 hS_2 hS0
    go_wp2_with fail
    go_ret
    exact ⟨rfl, L', by rw [HL'.out]; exact M6.out, ((BB2.out.drew).trans B5.out).trans B6.out⟩
  · have d5 : decide ((50 : Int) < (xs.length : Int)) = false := decide_eq_false (by omega)
    obtain ⟨ys, hys⟩ : ∃ ys, ys = xs := ⟨_, rfl⟩
    have hyl : xs.length = ys.length := by rw [hys]
    have HR := hid (show ∀ X, Below B w X → RowB X a c ys by rw [hys]; exact hr)
    have hn5 : xs.length ≤ 50 := by omega
    have BK2 : Blk (w.alloc (.cells #[.int .i64 0, .int .i64 n, .slice a xs.length c] 32)) w.heap.size 32 [.int .i64 0, .int .i64 n, .slice a xs.length c] := blk_newO (W := w) rfl 32 [.int .i64 0, .int .i64 n, .slice a xs.length c]
    have BB2 : Below w.heap.size w (w.alloc (.cells #[.int .i64 0, .int .i64 n, .slice a xs.length c] 32)) := albO w _
    have P2 := hid (h.mono BB2)
    have BK2 := hid BK2
    have BB2 := hid (BB2.mono hBw)
    have HYL := hid hyl
    clear h hr hys hyl
    go_enter Try.func7, Try.ntmps7
    go_wp2_with fail
    generalize w.alloc (.cells #[.int .i64 0, .int .i64 n, .slice a xs.length c] 32) = w2 at *
    have HC := hid (c_send2 B gb gr L M hM n a c xs.length ys w2.drew (P2.out.mono (Below.refl _ _).drew) (HR.out _ BB2.out.drew) HYL.out hn5)
    have hS0 : Blk w2.drew w.heap.size 32 [.int .i64 0, .int .i64 n, .slice a xs.length c] := BK2.out
    refine wp_region_held_drew (S := fun X => Blk X w.heap.size 32 [.int .i64 0, .int .i64 n, .slice a xs.length c]) (by kernel_rfl) hS0 (fun hS_0 => ?_)
    refine takeR (i := 0) (v := .pointer (some ⟨gb, 0, none⟩)) rfl rfl (by kernel_rfl) (by kernel_rfl) (by kernel_rfl) (fun _ _ _ h => h) (Or.inl ⟨Eq.refl true, fun w1 hSw => ?_⟩) hS_0 ?_
    · first | rfl | (clear hSw; go_simp; done) | (clear hSw; go_simp; rfl)
    (try simp only [Act.put, List.setIfInBounds_toArray, List.set_cons_zero, List.set_cons_succ])
    refine takeR (i := 1) (v := .pointer (some ⟨w.heap.size, 1, none⟩)) rfl rfl (by kernel_rfl) (by kernel_rfl) (by kernel_rfl) (fun _ _ _ h => h) (Or.inl ⟨Eq.refl true, fun w1 hSw => ?_⟩) hS_0 ?_
    · first | rfl | (clear hSw; go_simp; done) | (clear hSw; go_simp; rfl)
    (try simp only [Act.put, List.setIfInBounds_toArray, List.set_cons_zero, List.set_cons_succ])
    refine takeR (i := 2) (v := .int .i64 n) rfl rfl (by kernel_rfl) (by kernel_rfl) (by kernel_rfl) (fun _ _ _ h => h) (Or.inl ⟨Eq.refl true, fun w1 hSw => ?_⟩) hS_0 ?_
    · (have q0 := hSw.cell (i := 0) (by simp); have q1 := hSw.cell (i := 1) (by simp); have q2 := hSw.cell (i := 2) (by simp); simp only [List.getElem_cons_zero, List.getElem_cons_succ] at q0 q1 q2; go_simp; try rfl)
    (try simp only [Act.put, List.setIfInBounds_toArray, List.set_cons_zero, List.set_cons_succ])
    refine takeR (i := 3) (v := .pointer (some ⟨w.heap.size, 2, none⟩)) rfl rfl (by kernel_rfl) (by kernel_rfl) (by kernel_rfl) (fun _ _ _ h => h) (Or.inl ⟨Eq.refl true, fun w1 hSw => ?_⟩) hS_0 ?_
    · first | rfl | (clear hSw; go_simp; done) | (clear hSw; go_simp; rfl)
    (try simp only [Act.put, List.setIfInBounds_toArray, List.set_cons_zero, List.set_cons_succ])
    refine takeR (i := 4) (v := .slice a xs.length c) rfl rfl (by kernel_rfl) (by kernel_rfl) (by kernel_rfl) (fun _ _ _ h => h) (Or.inl ⟨Eq.refl true, fun w1 hSw => ?_⟩) hS_0 ?_
    · (have q0 := hSw.cell (i := 0) (by simp); have q1 := hSw.cell (i := 1) (by simp); have q2 := hSw.cell (i := 2) (by simp); simp only [List.getElem_cons_zero, List.getElem_cons_succ] at q0 q1 q2; go_simp; try rfl)
    (try simp only [Act.put, List.setIfInBounds_toArray, List.set_cons_zero, List.set_cons_succ])
    refine takeR (i := 6) (v := .pointer (some ⟨gr, 0, none⟩)) rfl rfl (by kernel_rfl) (by kernel_rfl) (by kernel_rfl) (fun _ _ _ h => h) (Or.inl ⟨Eq.refl true, fun w1 hSw => ?_⟩) hS_0 ?_
    · first | rfl | (clear hSw; go_simp; done) | (clear hSw; go_simp; rfl)
    (try simp only [Act.put, List.setIfInBounds_toArray, List.set_cons_zero, List.set_cons_succ])
    refine takeR (i := 7) (v := .pointer (some ⟨w.heap.size, 1, none⟩)) rfl rfl (by kernel_rfl) (by kernel_rfl) (by kernel_rfl) (fun _ _ _ h => h) (Or.inl ⟨Eq.refl true, fun w1 hSw => ?_⟩) hS_0 ?_
    · first | rfl | (clear hSw; go_simp; done) | (clear hSw; go_simp; rfl)
    (try simp only [Act.put, List.setIfInBounds_toArray, List.set_cons_zero, List.set_cons_succ])
    refine takeR (i := 8) (v := .int .i64 n) rfl rfl (by kernel_rfl) (by kernel_rfl) (by kernel_rfl) (fun _ _ _ h => h) (Or.inl ⟨Eq.refl true, fun w1 hSw => ?_⟩) hS_0 ?_
    · (have q0 := hSw.cell (i := 0) (by simp); have q1 := hSw.cell (i := 1) (by simp); have q2 := hSw.cell (i := 2) (by simp); simp only [List.getElem_cons_zero, List.getElem_cons_succ] at q0 q1 q2; go_simp; try rfl)
    (try simp only [Act.put, List.setIfInBounds_toArray, List.set_cons_zero, List.set_cons_succ])
    refine takeR (i := 9) (v := .pointer (some ⟨w.heap.size, 2, none⟩)) rfl rfl (by kernel_rfl) (by kernel_rfl) (by kernel_rfl) (fun _ _ _ h => h) (Or.inl ⟨Eq.refl true, fun w1 hSw => ?_⟩) hS_0 ?_
    · first | rfl | (clear hSw; go_simp; done) | (clear hSw; go_simp; rfl)
    (try simp only [Act.put, List.setIfInBounds_toArray, List.set_cons_zero, List.set_cons_succ])
    refine takeR (i := 10) (v := .slice a xs.length c) rfl rfl (by kernel_rfl) (by kernel_rfl) (by kernel_rfl) (fun _ _ _ h => h) (Or.inl ⟨Eq.refl true, fun w1 hSw => ?_⟩) hS_0 ?_
    · (have q0 := hSw.cell (i := 0) (by simp); have q1 := hSw.cell (i := 1) (by simp); have q2 := hSw.cell (i := 2) (by simp); simp only [List.getElem_cons_zero, List.getElem_cons_succ] at q0 q1 q2; go_simp; try rfl)
    (try simp only [Act.put, List.setIfInBounds_toArray, List.set_cons_zero, List.set_cons_succ])
    refine wpAnyH_ready (rs := [5]) (by kernel_rfl) (by simp) (AllReadyH.cons rfl (fun K hK => ?_) AllReadyH.nil)
    go_simp
    go_wp2_with (go_at_call 10; refine HC.out.mono ?_; rintro e w5 ⟨rfl, L', hL', m5, b5, s5⟩; have M5 := hid m5; have B5 := hid b5; have HL' := hid hL'; have R5 := hid (HR.out w5 ((BB2.out.drew).trans b5)); clear m5 hL')
    refine hK.out _ _ ?_ (fun hS_1 => ?_)
    · exact hS_0.stayT s5 (by decide) (by decide)
    clear hK K
    refine wpAnyH_ready (rs := [11]) (by kernel_rfl) (by simp) (AllReadyH.cons rfl (fun K hK => ?_) AllReadyH.nil)
    go_simp
    go_wp2_with (go_at_call 14; refine (r_send B gb gr L' M n a c xs.length ys _ M5.out R5.out HYL.out hn5).mono ?_; rintro e w6 ⟨rfl, m6, b6, s6⟩; have M6 := hid m6; have B6 := hid b6; clear m6)
    refine hK.out _ _ ?_ (fun hS_2 => ?_)
    · exact hS_1.stayT s6 (by decide) (by decide)
    clear hK K
    refine takeR (i := 12) (v := .bool true) rfl rfl (by kernel_rfl) (by kernel_rfl) (by kernel_rfl) (fun _ _ _ h => h) (Or.inl ⟨Eq.refl true, fun w1 hSw => ?_⟩) hS_2 ?_
    · first | rfl | (clear hSw; go_simp; done) | (clear hSw; go_simp; rfl)
    (try simp only [Act.put, List.setIfInBounds_toArray, List.set_cons_zero, List.set_cons_succ])
    refine takeR (i := 13) (v := .bool true) rfl rfl (by kernel_rfl) (by kernel_rfl) (by kernel_rfl) (fun _ _ _ h => h) (Or.inl ⟨Eq.refl true, fun w1 hSw => ?_⟩) hS_2 ?_
    · first | rfl | (clear hSw; go_simp; done) | (clear hSw; go_simp; rfl)
    (try simp only [Act.put, List.setIfInBounds_toArray, List.set_cons_zero, List.set_cons_succ])
    refine wpAnyH_done (by kernel_rfl) ?_ _
    clear hS_0 hS_1 hS_2 hS0
    go_wp2_with fail
    go_ret
    exact ⟨rfl, L', by rw [HL'.out]; exact M6.out, ((BB2.out.drew).trans B5.out).trans B6.out⟩

set_option maxHeartbeats 4000000 in
theorem does_drop (B gb gr : Nat) (L : List PkT) (M : List (Int × List UInt8)) (hM : L.map seenP = M) (n : Int) (a : Option Addr) (c : Nat) (xs : List UInt8) (w : World) (h : Mid w B gb gr L M) (hr : ∀ X, Below B w X → RowB X a c xs) :
    Calls Try.prog 7 #[.pointer (some ⟨gb, 0, none⟩), .pointer (some ⟨gr, 0, none⟩), .agg #[.int .i64 3, .int .i64 n, .slice a xs.length c]] w fun e w' => e = .returned (.bool true) ∧ ∃ L', Mid w' B gb gr L' (L'.map seenP) ∧ Below B w w' := by
  have hBw : B ≤ w.heap.size := h.2.2.2.2.2
  have hl := rowB_len (hr w (Below.refl _ _))
  have hcap : xs.length ≤ c := (hr w (Below.refl _ _)).2.1
  have hc9 : c ≤ maxLen := (hr w (Below.refl _ _)).2.2.1
  by_cases h50 : 50 < xs.length
  · have d5 : decide ((50 : Int) < (xs.length : Int)) = true := decide_eq_true (by omega)
    obtain ⟨ys, hys⟩ : ∃ ys, ys = xs.take 50 := ⟨_, rfl⟩
    have hyl : 50 = ys.length := by rw [hys, List.length_take]; omega
    have HR := hid (show ∀ X, Below B w X → RowB X a c ys by
      intro X b
      have := rowB_take (hr X b) 50
      rw [← hys] at this
      exact this)
    have hn5 : 50 ≤ 50 := Nat.le_refl _
    have BK2 : Blk (w.alloc (.cells #[.int .i64 3, .int .i64 n, .slice a 50 c] 32)) w.heap.size 32 [.int .i64 3, .int .i64 n, .slice a 50 c] := blk_newO (W := w) rfl 32 [.int .i64 3, .int .i64 n, .slice a 50 c]
    have BB2 : Below w.heap.size w (w.alloc (.cells #[.int .i64 3, .int .i64 n, .slice a 50 c] 32)) := albO w _
    have P2 := hid (h.mono BB2)
    have BK2 := hid BK2
    have BB2 := hid (BB2.mono hBw)
    have HYL := hid hyl
    clear h hr hys hyl
    go_enter Try.func7, Try.ntmps7
    go_wp2_with fail
    generalize w.alloc (.cells #[.int .i64 3, .int .i64 n, .slice a 50 c] 32) = w2 at *
    have HC := hid (c_drop2 B gb gr L M hM n w2.drew (P2.out.mono (Below.refl _ _).drew))
    have hS0 : Blk w2.drew w.heap.size 32 [.int .i64 3, .int .i64 n, .slice a 50 c] := BK2.out
    refine wp_region_held_drew (S := fun X => Blk X w.heap.size 32 [.int .i64 3, .int .i64 n, .slice a 50 c]) (by kernel_rfl) hS0 (fun hS_0 => ?_)
    refine takeR (i := 0) (v := .pointer (some ⟨gb, 0, none⟩)) rfl rfl (by kernel_rfl) (by kernel_rfl) (by kernel_rfl) (fun _ _ _ h => h) (Or.inl ⟨Eq.refl true, fun w1 hSw => ?_⟩) hS_0 ?_
    · first | rfl | (clear hSw; go_simp; done) | (clear hSw; go_simp; rfl)
    (try simp only [Act.put, List.setIfInBounds_toArray, List.set_cons_zero, List.set_cons_succ])
    refine takeR (i := 1) (v := .pointer (some ⟨w.heap.size, 1, none⟩)) rfl rfl (by kernel_rfl) (by kernel_rfl) (by kernel_rfl) (fun _ _ _ h => h) (Or.inl ⟨Eq.refl true, fun w1 hSw => ?_⟩) hS_0 ?_
    · first | rfl | (clear hSw; go_simp; done) | (clear hSw; go_simp; rfl)
    (try simp only [Act.put, List.setIfInBounds_toArray, List.set_cons_zero, List.set_cons_succ])
    refine takeR (i := 2) (v := .int .i64 n) rfl rfl (by kernel_rfl) (by kernel_rfl) (by kernel_rfl) (fun _ _ _ h => h) (Or.inl ⟨Eq.refl true, fun w1 hSw => ?_⟩) hS_0 ?_
    · (have q0 := hSw.cell (i := 0) (by simp); have q1 := hSw.cell (i := 1) (by simp); have q2 := hSw.cell (i := 2) (by simp); simp only [List.getElem_cons_zero, List.getElem_cons_succ] at q0 q1 q2; go_simp; try rfl)
    (try simp only [Act.put, List.setIfInBounds_toArray, List.set_cons_zero, List.set_cons_succ])
    refine takeR (i := 4) (v := .pointer (some ⟨gr, 0, none⟩)) rfl rfl (by kernel_rfl) (by kernel_rfl) (by kernel_rfl) (fun _ _ _ h => h) (Or.inl ⟨Eq.refl true, fun w1 hSw => ?_⟩) hS_0 ?_
    · first | rfl | (clear hSw; go_simp; done) | (clear hSw; go_simp; rfl)
    (try simp only [Act.put, List.setIfInBounds_toArray, List.set_cons_zero, List.set_cons_succ])
    refine takeR (i := 5) (v := .pointer (some ⟨w.heap.size, 1, none⟩)) rfl rfl (by kernel_rfl) (by kernel_rfl) (by kernel_rfl) (fun _ _ _ h => h) (Or.inl ⟨Eq.refl true, fun w1 hSw => ?_⟩) hS_0 ?_
    · first | rfl | (clear hSw; go_simp; done) | (clear hSw; go_simp; rfl)
    (try simp only [Act.put, List.setIfInBounds_toArray, List.set_cons_zero, List.set_cons_succ])
    refine takeR (i := 6) (v := .int .i64 n) rfl rfl (by kernel_rfl) (by kernel_rfl) (by kernel_rfl) (fun _ _ _ h => h) (Or.inl ⟨Eq.refl true, fun w1 hSw => ?_⟩) hS_0 ?_
    · (have q0 := hSw.cell (i := 0) (by simp); have q1 := hSw.cell (i := 1) (by simp); have q2 := hSw.cell (i := 2) (by simp); simp only [List.getElem_cons_zero, List.getElem_cons_succ] at q0 q1 q2; go_simp; try rfl)
    (try simp only [Act.put, List.setIfInBounds_toArray, List.set_cons_zero, List.set_cons_succ])
    refine wpAnyH_ready (rs := [3]) (by kernel_rfl) (by simp) (AllReadyH.cons rfl (fun K hK => ?_) AllReadyH.nil)
    go_simp
    go_wp2_with (go_at_call 16; refine HC.out.mono ?_; rintro e w5 ⟨rfl, L', hL', m5, b5, s5⟩; have M5 := hid m5; have B5 := hid b5; have HL' := hid hL'; clear m5 hL')
    refine hK.out _ _ ?_ (fun hS_1 => ?_)
    · exact hS_0.stayT s5 (by decide) (by decide)
    clear hK K
    refine wpAnyH_ready (rs := [7]) (by kernel_rfl) (by simp) (AllReadyH.cons rfl (fun K hK => ?_) AllReadyH.nil)
    go_simp
    go_wp2_with (go_at_call 17; refine (r_drop B gb gr L' M n _ M5.out).mono ?_; rintro e w6 ⟨rfl, m6, b6, s6⟩; have M6 := hid m6; have B6 := hid b6; clear m6)
    refine hK.out _ _ ?_ (fun hS_2 => ?_)
    · exact hS_1.stayT s6 (by decide) (by decide)
    clear hK K
    refine takeR (i := 8) (v := .bool true) rfl rfl (by kernel_rfl) (by kernel_rfl) (by kernel_rfl) (fun _ _ _ h => h) (Or.inl ⟨Eq.refl true, fun w1 hSw => ?_⟩) hS_2 ?_
    · first | rfl | (clear hSw; go_simp; done) | (clear hSw; go_simp; rfl)
    (try simp only [Act.put, List.setIfInBounds_toArray, List.set_cons_zero, List.set_cons_succ])
    refine takeR (i := 9) (v := .bool true) rfl rfl (by kernel_rfl) (by kernel_rfl) (by kernel_rfl) (fun _ _ _ h => h) (Or.inl ⟨Eq.refl true, fun w1 hSw => ?_⟩) hS_2 ?_
    · first | rfl | (clear hSw; go_simp; done) | (clear hSw; go_simp; rfl)
    (try simp only [Act.put, List.setIfInBounds_toArray, List.set_cons_zero, List.set_cons_succ])
    refine wpAnyH_done (by kernel_rfl) ?_ _
    clear hS_0 hS_1 hS_2 hS0
    go_wp2_with fail
    go_ret
    exact ⟨rfl, L', by rw [HL'.out]; exact M6.out, ((BB2.out.drew).trans B5.out).trans B6.out⟩
  · have d5 : decide ((50 : Int) < (xs.length : Int)) = false := decide_eq_false (by omega)
    obtain ⟨ys, hys⟩ : ∃ ys, ys = xs := ⟨_, rfl⟩
    have hyl : xs.length = ys.length := by rw [hys]
    have HR := hid (show ∀ X, Below B w X → RowB X a c ys by rw [hys]; exact hr)
    have hn5 : xs.length ≤ 50 := by omega
    have BK2 : Blk (w.alloc (.cells #[.int .i64 3, .int .i64 n, .slice a xs.length c] 32)) w.heap.size 32 [.int .i64 3, .int .i64 n, .slice a xs.length c] := blk_newO (W := w) rfl 32 [.int .i64 3, .int .i64 n, .slice a xs.length c]
    have BB2 : Below w.heap.size w (w.alloc (.cells #[.int .i64 3, .int .i64 n, .slice a xs.length c] 32)) := albO w _
    have P2 := hid (h.mono BB2)
    have BK2 := hid BK2
    have BB2 := hid (BB2.mono hBw)
    have HYL := hid hyl
    clear h hr hys hyl
    go_enter Try.func7, Try.ntmps7
    go_wp2_with fail
    generalize w.alloc (.cells #[.int .i64 3, .int .i64 n, .slice a xs.length c] 32) = w2 at *
    have HC := hid (c_drop2 B gb gr L M hM n w2.drew (P2.out.mono (Below.refl _ _).drew))
    have hS0 : Blk w2.drew w.heap.size 32 [.int .i64 3, .int .i64 n, .slice a xs.length c] := BK2.out
    refine wp_region_held_drew (S := fun X => Blk X w.heap.size 32 [.int .i64 3, .int .i64 n, .slice a xs.length c]) (by kernel_rfl) hS0 (fun hS_0 => ?_)
    refine takeR (i := 0) (v := .pointer (some ⟨gb, 0, none⟩)) rfl rfl (by kernel_rfl) (by kernel_rfl) (by kernel_rfl) (fun _ _ _ h => h) (Or.inl ⟨Eq.refl true, fun w1 hSw => ?_⟩) hS_0 ?_
    · first | rfl | (clear hSw; go_simp; done) | (clear hSw; go_simp; rfl)
    (try simp only [Act.put, List.setIfInBounds_toArray, List.set_cons_zero, List.set_cons_succ])
    refine takeR (i := 1) (v := .pointer (some ⟨w.heap.size, 1, none⟩)) rfl rfl (by kernel_rfl) (by kernel_rfl) (by kernel_rfl) (fun _ _ _ h => h) (Or.inl ⟨Eq.refl true, fun w1 hSw => ?_⟩) hS_0 ?_
    · first | rfl | (clear hSw; go_simp; done) | (clear hSw; go_simp; rfl)
    (try simp only [Act.put, List.setIfInBounds_toArray, List.set_cons_zero, List.set_cons_succ])
    refine takeR (i := 2) (v := .int .i64 n) rfl rfl (by kernel_rfl) (by kernel_rfl) (by kernel_rfl) (fun _ _ _ h => h) (Or.inl ⟨Eq.refl true, fun w1 hSw => ?_⟩) hS_0 ?_
    · (have q0 := hSw.cell (i := 0) (by simp); have q1 := hSw.cell (i := 1) (by simp); have q2 := hSw.cell (i := 2) (by simp); simp only [List.getElem_cons_zero, List.getElem_cons_succ] at q0 q1 q2; go_simp; try rfl)
    (try simp only [Act.put, List.setIfInBounds_toArray, List.set_cons_zero, List.set_cons_succ])
    refine takeR (i := 4) (v := .pointer (some ⟨gr, 0, none⟩)) rfl rfl (by kernel_rfl) (by kernel_rfl) (by kernel_rfl) (fun _ _ _ h => h) (Or.inl ⟨Eq.refl true, fun w1 hSw => ?_⟩) hS_0 ?_
    · first | rfl | (clear hSw; go_simp; done) | (clear hSw; go_simp; rfl)
    (try simp only [Act.put, List.setIfInBounds_toArray, List.set_cons_zero, List.set_cons_succ])
    refine takeR (i := 5) (v := .pointer (some ⟨w.heap.size, 1, none⟩)) rfl rfl (by kernel_rfl) (by kernel_rfl) (by kernel_rfl) (fun _ _ _ h => h) (Or.inl ⟨Eq.refl true, fun w1 hSw => ?_⟩) hS_0 ?_
    · first | rfl | (clear hSw; go_simp; done) | (clear hSw; go_simp; rfl)
    (try simp only [Act.put, List.setIfInBounds_toArray, List.set_cons_zero, List.set_cons_succ])
    refine takeR (i := 6) (v := .int .i64 n) rfl rfl (by kernel_rfl) (by kernel_rfl) (by kernel_rfl) (fun _ _ _ h => h) (Or.inl ⟨Eq.refl true, fun w1 hSw => ?_⟩) hS_0 ?_
    · (have q0 := hSw.cell (i := 0) (by simp); have q1 := hSw.cell (i := 1) (by simp); have q2 := hSw.cell (i := 2) (by simp); simp only [List.getElem_cons_zero, List.getElem_cons_succ] at q0 q1 q2; go_simp; try rfl)
    (try simp only [Act.put, List.setIfInBounds_toArray, List.set_cons_zero, List.set_cons_succ])
    refine wpAnyH_ready (rs := [3]) (by kernel_rfl) (by simp) (AllReadyH.cons rfl (fun K hK => ?_) AllReadyH.nil)
    go_simp
    go_wp2_with (go_at_call 16; refine HC.out.mono ?_; rintro e w5 ⟨rfl, L', hL', m5, b5, s5⟩; have M5 := hid m5; have B5 := hid b5; have HL' := hid hL'; clear m5 hL')
    refine hK.out _ _ ?_ (fun hS_1 => ?_)
    · exact hS_0.stayT s5 (by decide) (by decide)
    clear hK K
    refine wpAnyH_ready (rs := [7]) (by kernel_rfl) (by simp) (AllReadyH.cons rfl (fun K hK => ?_) AllReadyH.nil)
    go_simp
    go_wp2_with (go_at_call 17; refine (r_drop B gb gr L' M n _ M5.out).mono ?_; rintro e w6 ⟨rfl, m6, b6, s6⟩; have M6 := hid m6; have B6 := hid b6; clear m6)
    refine hK.out _ _ ?_ (fun hS_2 => ?_)
    · exact hS_1.stayT s6 (by decide) (by decide)
    clear hK K
    refine takeR (i := 8) (v := .bool true) rfl rfl (by kernel_rfl) (by kernel_rfl) (by kernel_rfl) (fun _ _ _ h => h) (Or.inl ⟨Eq.refl true, fun w1 hSw => ?_⟩) hS_2 ?_
    · first | rfl | (clear hSw; go_simp; done) | (clear hSw; go_simp; rfl)
    (try simp only [Act.put, List.setIfInBounds_toArray, List.set_cons_zero, List.set_cons_succ])
    refine takeR (i := 9) (v := .bool true) rfl rfl (by kernel_rfl) (by kernel_rfl) (by kernel_rfl) (fun _ _ _ h => h) (Or.inl ⟨Eq.refl true, fun w1 hSw => ?_⟩) hS_2 ?_
    · first | rfl | (clear hSw; go_simp; done) | (clear hSw; go_simp; rfl)
    (try simp only [Act.put, List.setIfInBounds_toArray, List.set_cons_zero, List.set_cons_succ])
    refine wpAnyH_done (by kernel_rfl) ?_ _
    clear hS_0 hS_1 hS_2 hS0
    go_wp2_with fail
    go_ret
    exact ⟨rfl, L', by rw [HL'.out]; exact M6.out, ((BB2.out.drew).trans B5.out).trans B6.out⟩

set_option maxHeartbeats 4000000 in
theorem does_other (B gb gr : Nat) (L : List PkT) (M : List (Int × List UInt8)) (hM : L.map seenP = M) (kind : Int) (hk : kind ≠ 0 ∧ kind ≠ 1 ∧ kind ≠ 2 ∧ kind ≠ 3 ∧ kind ≠ 4) (n : Int) (a : Option Addr) (c : Nat) (xs : List UInt8) (w : World) (h : Mid w B gb gr L M) (hr : ∀ X, Below B w X → RowB X a c xs) :
    Calls Try.prog 7 #[.pointer (some ⟨gb, 0, none⟩), .pointer (some ⟨gr, 0, none⟩), .agg #[.int .i64 kind, .int .i64 n, .slice a xs.length c]] w fun e w' => e = .returned (.bool true) ∧ ∃ L', Mid w' B gb gr L' (L'.map seenP) ∧ Below B w w' := by
  have hBw : B ≤ w.heap.size := h.2.2.2.2.2
  have hl := rowB_len (hr w (Below.refl _ _))
  have hcap : xs.length ≤ c := (hr w (Below.refl _ _)).2.1
  have hc9 : c ≤ maxLen := (hr w (Below.refl _ _)).2.2.1
  have k0 : (kind == (0 : Int)) = false := by rw [beq_eq_false_iff_ne]; exact hk.1
  have kd0 : decide (kind = (0 : Int)) = false := decide_eq_false hk.1
  have k1 : (kind == (1 : Int)) = false := by rw [beq_eq_false_iff_ne]; exact hk.2.1
  have kd1 : decide (kind = (1 : Int)) = false := decide_eq_false hk.2.1
  have k2 : (kind == (2 : Int)) = false := by rw [beq_eq_false_iff_ne]; exact hk.2.2.1
  have kd2 : decide (kind = (2 : Int)) = false := decide_eq_false hk.2.2.1
  have k3 : (kind == (3 : Int)) = false := by rw [beq_eq_false_iff_ne]; exact hk.2.2.2.1
  have kd3 : decide (kind = (3 : Int)) = false := decide_eq_false hk.2.2.2.1
  have k4 : (kind == (4 : Int)) = false := by rw [beq_eq_false_iff_ne]; exact hk.2.2.2.2
  have kd4 : decide (kind = (4 : Int)) = false := decide_eq_false hk.2.2.2.2
  by_cases h50 : 50 < xs.length
  · have d5 : decide ((50 : Int) < (xs.length : Int)) = true := decide_eq_true (by omega)
    obtain ⟨ys, hys⟩ : ∃ ys, ys = xs.take 50 := ⟨_, rfl⟩
    have hyl : 50 = ys.length := by rw [hys, List.length_take]; omega
    have HR := hid (show ∀ X, Below B w X → RowB X a c ys by
      intro X b
      have := rowB_take (hr X b) 50
      rw [← hys] at this
      exact this)
    have hn5 : 50 ≤ 50 := Nat.le_refl _
    have BK2 : Blk (w.alloc (.cells #[.int .i64 kind, .int .i64 n, .slice a 50 c] 32)) w.heap.size 32 [.int .i64 kind, .int .i64 n, .slice a 50 c] := blk_newO (W := w) rfl 32 [.int .i64 kind, .int .i64 n, .slice a 50 c]
    have BB2 : Below w.heap.size w (w.alloc (.cells #[.int .i64 kind, .int .i64 n, .slice a 50 c] 32)) := albO w _
    have P2 := hid (h.mono BB2)
    have BK2 := hid BK2
    have BB2 := hid (BB2.mono hBw)
    have HYL := hid hyl
    clear h hr hys hyl
    go_enter Try.func7, Try.ntmps7
    go_wp2_with fail
    generalize w.alloc (.cells #[.int .i64 kind, .int .i64 n, .slice a 50 c] 32) = w2 at *
    go_ret
    exact ⟨rfl, L, by rw [hM]; exact P2.out, BB2.out⟩
  · have d5 : decide ((50 : Int) < (xs.length : Int)) = false := decide_eq_false (by omega)
    obtain ⟨ys, hys⟩ : ∃ ys, ys = xs := ⟨_, rfl⟩
    have hyl : xs.length = ys.length := by rw [hys]
    have HR := hid (show ∀ X, Below B w X → RowB X a c ys by rw [hys]; exact hr)
    have hn5 : xs.length ≤ 50 := by omega
    have BK2 : Blk (w.alloc (.cells #[.int .i64 kind, .int .i64 n, .slice a xs.length c] 32)) w.heap.size 32 [.int .i64 kind, .int .i64 n, .slice a xs.length c] := blk_newO (W := w) rfl 32 [.int .i64 kind, .int .i64 n, .slice a xs.length c]
    have BB2 : Below w.heap.size w (w.alloc (.cells #[.int .i64 kind, .int .i64 n, .slice a xs.length c] 32)) := albO w _
    have P2 := hid (h.mono BB2)
    have BK2 := hid BK2
    have BB2 := hid (BB2.mono hBw)
    have HYL := hid hyl
    clear h hr hys hyl
    go_enter Try.func7, Try.ntmps7
    go_wp2_with fail
    generalize w.alloc (.cells #[.int .i64 kind, .int .i64 n, .slice a xs.length c] 32) = w2 at *
    go_ret
    exact ⟨rfl, L, by rw [hM]; exact P2.out, BB2.out⟩

end Go.Proofs.Ytgigadjohjpdkaa
