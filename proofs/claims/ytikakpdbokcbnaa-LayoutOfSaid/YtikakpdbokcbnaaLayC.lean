/- The parts of a volume: all of them. -/
import Derived.Test.YtikakpdbokcbnaaLayB
namespace Go.Proofs.Ytikakpdbokcbnaa
open Go.RowKit
set_option linter.unusedSimpArgs false
set_option linter.unusedVariables false
attribute [local go_sem] Oper.semAt_some

def partsL : List PartT := [] ++ [⟨1, 0, 0, 64⟩] ++ rowL 2 64 64 8 ++ [⟨3, 0, 576, 64⟩] ++ rowL 4 640 64 32 ++ [⟨5, 0, 2688, 4096⟩] ++ rowL 6 6784 1024 8 ++ rowL 7 14976 64 128
theorem partsL_len : partsL.length = 179 := by decide +kernel
theorem skipC {F : Fence} {p : Prop} (h : p) : (∀ f, (none : Option FuncId) = some f → F.fn f) ∧ p := ⟨fun _ h => (by cases h), h⟩

set_option maxHeartbeats 4000000 in
set_option maxRecDepth 100000 in
theorem parts_seq (F : Fence) (hd : F.depth = none) (hF0 : F.fn 14) (hF : F.fn 17) (hF2 : F.fn 18) (hro : F.round = none) (n : Nat) (w0 : World) :
    SeqC F n Try.prog 14 #[] (fun p : PartT => #[partV p]) (fun xs => xs = partsL) (fun q => q <+: partsL) 179 w0 := by
  intro l J Jx W hW hJ hJx hY0 h0
  have hdd : ∀ k : Nat, (F.depth.isSome = true → 1 ≤ k) := fun k h => by rw [hd] at h; cases h
  have hY : RoundsC F l W.heap.size 179 (fun q => q <+: partsL) J Jx := fun m pre x W1 a b c => yieldAt_anyC hd m (hY0 pre x W1 a b c)
  have b0 : Below W.heap.size W (((W.alloc (.cells #[.func (.yield l) #[] #[]] 41)).alloc (.cells #[.int .i64 0] 3)).alloc (.cells #[.func (.func 17) #[] #[.pointer (some ⟨W.heap.size + 1, 0, none⟩), .pointer (some ⟨W.heap.size, 0, none⟩)]] 34)) := ((((Below.refl _ W).alloc (Nat.le_refl _) _).alloc (by simp) _).alloc (by simp; omega) _)
  have hJ0 : J [] (((W.alloc (.cells #[.func (.yield l) #[] #[]] 41)).alloc (.cells #[.int .i64 0] 3)).alloc (.cells #[.func (.func 17) #[] #[.pointer (some ⟨W.heap.size + 1, 0, none⟩), .pointer (some ⟨W.heap.size, 0, none⟩)]] 34)) := hJ _ _ _ h0 b0
  have hYc : Blk (((W.alloc (.cells #[.func (.yield l) #[] #[]] 41)).alloc (.cells #[.int .i64 0] 3)).alloc (.cells #[.func (.func 17) #[] #[.pointer (some ⟨W.heap.size + 1, 0, none⟩), .pointer (some ⟨W.heap.size, 0, none⟩)]] 34)) W.heap.size 41 [.func (.yield l) #[] #[]] := (Blk.mono (w := (W.alloc (.cells #[.func (.yield l) #[] #[]] 41))) (heap_alloc_new W _) ((((Below.refl _ _).alloc (Nat.le_refl _) _).alloc (by simp) _)))
  have hAc : Blk (((W.alloc (.cells #[.func (.yield l) #[] #[]] 41)).alloc (.cells #[.int .i64 0] 3)).alloc (.cells #[.func (.func 17) #[] #[.pointer (some ⟨W.heap.size + 1, 0, none⟩), .pointer (some ⟨W.heap.size, 0, none⟩)]] 34)) (W.heap.size + 1) 3 [.int .i64 0] := by
    have q : Blk ((W.alloc (.cells #[.func (.yield l) #[] #[]] 41)).alloc (.cells #[.int .i64 0] 3)) (W.heap.size + 1) 3 [.int .i64 0] := by
      have q := heap_alloc_new (W.alloc (.cells #[.func (.yield l) #[] #[]] 41)) (.cells #[.int .i64 0] 3)
      rw [show ((W.alloc (.cells #[.func (.yield l) #[] #[]] 41))).heap.size = W.heap.size + 1 from by simp] at q; exact q
    exact q.mono ((Below.refl _ _).alloc (Nat.le_refl _) _)
  have hVc : Blk (((W.alloc (.cells #[.func (.yield l) #[] #[]] 41)).alloc (.cells #[.int .i64 0] 3)).alloc (.cells #[.func (.func 17) #[] #[.pointer (some ⟨W.heap.size + 1, 0, none⟩), .pointer (some ⟨W.heap.size, 0, none⟩)]] 34)) (W.heap.size + 1 + 1) 34 [.func (.func 17) #[] #[.pointer (some ⟨W.heap.size + 1, 0, none⟩), .pointer (some ⟨W.heap.size, 0, none⟩)]] := by
    have q := heap_alloc_new ((W.alloc (.cells #[.func (.yield l) #[] #[]] 41)).alloc (.cells #[.int .i64 0] 3)) (.cells #[.func (.func 17) #[] #[.pointer (some ⟨W.heap.size + 1, 0, none⟩), .pointer (some ⟨W.heap.size, 0, none⟩)]] 34)
    rw [show (((W.alloc (.cells #[.func (.yield l) #[] #[]] 41)).alloc (.cells #[.int .i64 0] 3))).heap.size = W.heap.size + 1 + 1 from by simp] at q; exact q
  have HJ := hid hJ; have HY := hid hY; have HJ0 := hid hJ0; have HYC := hid hYc; have HA0 := hid hAc; have HVC := hid hVc
  have v0 : ((((W.alloc (.cells #[.func (.yield l) #[] #[]] 41)).alloc (.cells #[.int .i64 0] 3)).alloc (.cells #[.func (.func 17) #[] #[.pointer (some ⟨W.heap.size + 1, 0, none⟩), .pointer (some ⟨W.heap.size, 0, none⟩)]] 34))).cell? ⟨W.heap.size + 1 + 1, 0, none⟩ = some (.func (.func 17) #[] #[.pointer (some ⟨W.heap.size + 1, 0, none⟩), .pointer (some ⟨W.heap.size, 0, none⟩)]) := hVc.cell (i := 0) (by simp)
  have HV := hid (visit_in F hd hF hro l W.heap.size 179 (W.heap.size + 1) W.heap.size (fun q => q <+: partsL) J Jx hJ hY (by omega) (by omega) (by omega))
  have HR := hid (row_in F hd hF hF2 hro l W.heap.size 179 (W.heap.size + 1) W.heap.size (W.heap.size + 1 + 1) (fun q => q <+: partsL) J Jx hJ hY (by omega) (by omega) (by omega) (by omega) (by omega))
  have hl : ∀ (kd T sz : Int) (c : Nat), (rowL kd T sz c).length = c := rowL_len
  clear hJ hY hJ0 hYc hAc hVc h0 hY0 hW b0
  have HL := hid hl; clear hl
  refine callsIn_of_wp Try.func14 rfl hF0 ?_ hro
  simp only [Try.ntmps14, List.size_toArray, List.length_cons, List.length_nil, Nat.reduceAdd, Nat.reduceSub, Array.replicate_succ, Array.replicate_zero, List.push_toArray, List.append_toArray, List.nil_append, List.cons_append]
  gi_wp2
  have hc := HV.out (n - 1) ([]) 1 0 0 64 _ HA0.out HYC.out HJ0.out (by simp [rowL_len]) (by unfold partsL; exact (List.prefix_append _ _).trans ((List.prefix_append _ _).trans ((List.prefix_append _ _).trans ((List.prefix_append _ _).trans ((List.prefix_append _ _).trans ((List.prefix_append _ _).trans (List.prefix_refl _))))))) (by omega) (by omega) (by omega) (by omega)
  have HC := hid hc
  clear hc
  refine HC.out.mono ?_
  rintro e W1 (⟨rfl, hJ, hA, hK⟩ | ⟨rfl, hx⟩)
  rotate_left
  · clear HC
    have HX := hid hx
    clear hx
    gi_wp2
    refine skipC ?_
    gi_wp2
    refine skipC ?_
    gi_wp2
    refine skipC ?_
    gi_wp2
    refine skipC ?_
    gi_wp2
    refine skipC ?_
    gi_wp2
    refine skipC ?_
    gi_wp2
    go_end0
    have hx := HX.out
    exact ⟨⟨_, rfl⟩, .inr ⟨[] ++ [⟨1, 0, 0, 64⟩], by unfold partsL; exact (List.prefix_append _ _).trans ((List.prefix_append _ _).trans ((List.prefix_append _ _).trans ((List.prefix_append _ _).trans ((List.prefix_append _ _).trans ((List.prefix_append _ _).trans (List.prefix_refl _)))))), hx⟩⟩
  clear HC
  have HA1 : Hid (Blk W1 (W.heap.size + 1) 3 [.int .i64 64]) := hA
  have HJ1 := hid hJ
  have HYC1 := hid (hK.blk (Nat.le_refl _) (by omega) HYC.out)
  have HVC1 := hid (hK.blk (by omega) (by omega) HVC.out)
  have v1 : W1.cell? ⟨W.heap.size + 1 + 1, 0, none⟩ = some (.func (.func 17) #[] #[.pointer (some ⟨W.heap.size + 1, 0, none⟩), .pointer (some ⟨W.heap.size, 0, none⟩)]) := HVC1.out.cell (i := 0) (by simp)
  clear hJ hA hK
  gi_wp2
  have hc := HR.out (n - 1) ([] ++ [⟨1, 0, 0, 64⟩]) 2 64 64 8 _ HA1.out HYC1.out HVC1.out HJ1.out (by simp [rowL_len]) (fun j hj => (by rw [List.append_assoc, ← rowL_succ]; exact ((List.prefix_append_right_inj _).2 (rowL_prefix _ _ _ (Nat.succ_le_of_lt hj))).trans (by unfold partsL; exact (List.prefix_append _ _).trans ((List.prefix_append _ _).trans ((List.prefix_append _ _).trans ((List.prefix_append _ _).trans ((List.prefix_append _ _).trans (List.prefix_refl _)))))))) (by omega) (by omega) (by omega) (by omega) (by omega)
  rw [show ((8 : Nat) : Int) = 8 from rfl] at hc
  have HC := hid hc
  clear hc
  refine HC.out.mono ?_
  rintro e W2 (⟨rfl, hJ, hA, hK⟩ | ⟨rfl, q, hq, hx⟩)
  rotate_left
  · clear HC
    have HX := hid hx
    clear hx
    gi_wp2
    refine skipC ?_
    gi_wp2
    refine skipC ?_
    gi_wp2
    refine skipC ?_
    gi_wp2
    refine skipC ?_
    gi_wp2
    refine skipC ?_
    gi_wp2
    go_end0
    have hx := HX.out
    exact ⟨⟨_, rfl⟩, .inr ⟨([] ++ [⟨1, 0, 0, 64⟩]) ++ q, ((List.prefix_append_right_inj _).2 hq).trans (by unfold partsL; exact (List.prefix_append _ _).trans ((List.prefix_append _ _).trans ((List.prefix_append _ _).trans ((List.prefix_append _ _).trans ((List.prefix_append _ _).trans (List.prefix_refl _)))))), hx⟩⟩
  clear HC
  have HA2 : Hid (Blk W2 (W.heap.size + 1) 3 [.int .i64 576]) := hA
  have HJ2 := hid hJ
  have HYC2 := hid (hK.blk (Nat.le_refl _) (by omega) HYC1.out)
  have HVC2 := hid (hK.blk (by omega) (by omega) HVC1.out)
  have v2 : W2.cell? ⟨W.heap.size + 1 + 1, 0, none⟩ = some (.func (.func 17) #[] #[.pointer (some ⟨W.heap.size + 1, 0, none⟩), .pointer (some ⟨W.heap.size, 0, none⟩)]) := HVC2.out.cell (i := 0) (by simp)
  clear hJ hA hK
  gi_wp2
  have hc := HV.out (n - 1) ([] ++ [⟨1, 0, 0, 64⟩] ++ rowL 2 64 64 8) 3 0 576 64 _ HA2.out HYC2.out HJ2.out (by simp [rowL_len]) (by unfold partsL; exact (List.prefix_append _ _).trans ((List.prefix_append _ _).trans ((List.prefix_append _ _).trans ((List.prefix_append _ _).trans (List.prefix_refl _))))) (by omega) (by omega) (by omega) (by omega)
  have HC := hid hc
  clear hc
  refine HC.out.mono ?_
  rintro e W3 (⟨rfl, hJ, hA, hK⟩ | ⟨rfl, hx⟩)
  rotate_left
  · clear HC
    have HX := hid hx
    clear hx
    gi_wp2
    refine skipC ?_
    gi_wp2
    refine skipC ?_
    gi_wp2
    refine skipC ?_
    gi_wp2
    refine skipC ?_
    gi_wp2
    go_end0
    have hx := HX.out
    exact ⟨⟨_, rfl⟩, .inr ⟨[] ++ [⟨1, 0, 0, 64⟩] ++ rowL 2 64 64 8 ++ [⟨3, 0, 576, 64⟩], by unfold partsL; exact (List.prefix_append _ _).trans ((List.prefix_append _ _).trans ((List.prefix_append _ _).trans ((List.prefix_append _ _).trans (List.prefix_refl _)))), hx⟩⟩
  clear HC
  have HA3 : Hid (Blk W3 (W.heap.size + 1) 3 [.int .i64 640]) := hA
  have HJ3 := hid hJ
  have HYC3 := hid (hK.blk (Nat.le_refl _) (by omega) HYC2.out)
  have HVC3 := hid (hK.blk (by omega) (by omega) HVC2.out)
  have v3 : W3.cell? ⟨W.heap.size + 1 + 1, 0, none⟩ = some (.func (.func 17) #[] #[.pointer (some ⟨W.heap.size + 1, 0, none⟩), .pointer (some ⟨W.heap.size, 0, none⟩)]) := HVC3.out.cell (i := 0) (by simp)
  clear hJ hA hK
  gi_wp2
  have hc := HR.out (n - 1) ([] ++ [⟨1, 0, 0, 64⟩] ++ rowL 2 64 64 8 ++ [⟨3, 0, 576, 64⟩]) 4 640 64 32 _ HA3.out HYC3.out HVC3.out HJ3.out (by simp [rowL_len]) (fun j hj => (by rw [List.append_assoc, ← rowL_succ]; exact ((List.prefix_append_right_inj _).2 (rowL_prefix _ _ _ (Nat.succ_le_of_lt hj))).trans (by unfold partsL; exact (List.prefix_append _ _).trans ((List.prefix_append _ _).trans ((List.prefix_append _ _).trans (List.prefix_refl _)))))) (by omega) (by omega) (by omega) (by omega) (by omega)
  rw [show ((32 : Nat) : Int) = 32 from rfl] at hc
  have HC := hid hc
  clear hc
  refine HC.out.mono ?_
  rintro e W4 (⟨rfl, hJ, hA, hK⟩ | ⟨rfl, q, hq, hx⟩)
  rotate_left
  · clear HC
    have HX := hid hx
    clear hx
    gi_wp2
    refine skipC ?_
    gi_wp2
    refine skipC ?_
    gi_wp2
    refine skipC ?_
    gi_wp2
    go_end0
    have hx := HX.out
    exact ⟨⟨_, rfl⟩, .inr ⟨([] ++ [⟨1, 0, 0, 64⟩] ++ rowL 2 64 64 8 ++ [⟨3, 0, 576, 64⟩]) ++ q, ((List.prefix_append_right_inj _).2 hq).trans (by unfold partsL; exact (List.prefix_append _ _).trans ((List.prefix_append _ _).trans ((List.prefix_append _ _).trans (List.prefix_refl _)))), hx⟩⟩
  clear HC
  have HA4 : Hid (Blk W4 (W.heap.size + 1) 3 [.int .i64 2688]) := hA
  have HJ4 := hid hJ
  have HYC4 := hid (hK.blk (Nat.le_refl _) (by omega) HYC3.out)
  have HVC4 := hid (hK.blk (by omega) (by omega) HVC3.out)
  have v4 : W4.cell? ⟨W.heap.size + 1 + 1, 0, none⟩ = some (.func (.func 17) #[] #[.pointer (some ⟨W.heap.size + 1, 0, none⟩), .pointer (some ⟨W.heap.size, 0, none⟩)]) := HVC4.out.cell (i := 0) (by simp)
  clear hJ hA hK
  gi_wp2
  have hc := HV.out (n - 1) ([] ++ [⟨1, 0, 0, 64⟩] ++ rowL 2 64 64 8 ++ [⟨3, 0, 576, 64⟩] ++ rowL 4 640 64 32) 5 0 2688 4096 _ HA4.out HYC4.out HJ4.out (by simp [rowL_len]) (by unfold partsL; exact (List.prefix_append _ _).trans ((List.prefix_append _ _).trans (List.prefix_refl _))) (by omega) (by omega) (by omega) (by omega)
  have HC := hid hc
  clear hc
  refine HC.out.mono ?_
  rintro e W5 (⟨rfl, hJ, hA, hK⟩ | ⟨rfl, hx⟩)
  rotate_left
  · clear HC
    have HX := hid hx
    clear hx
    gi_wp2
    refine skipC ?_
    gi_wp2
    refine skipC ?_
    gi_wp2
    go_end0
    have hx := HX.out
    exact ⟨⟨_, rfl⟩, .inr ⟨[] ++ [⟨1, 0, 0, 64⟩] ++ rowL 2 64 64 8 ++ [⟨3, 0, 576, 64⟩] ++ rowL 4 640 64 32 ++ [⟨5, 0, 2688, 4096⟩], by unfold partsL; exact (List.prefix_append _ _).trans ((List.prefix_append _ _).trans (List.prefix_refl _)), hx⟩⟩
  clear HC
  have HA5 : Hid (Blk W5 (W.heap.size + 1) 3 [.int .i64 6784]) := hA
  have HJ5 := hid hJ
  have HYC5 := hid (hK.blk (Nat.le_refl _) (by omega) HYC4.out)
  have HVC5 := hid (hK.blk (by omega) (by omega) HVC4.out)
  have v5 : W5.cell? ⟨W.heap.size + 1 + 1, 0, none⟩ = some (.func (.func 17) #[] #[.pointer (some ⟨W.heap.size + 1, 0, none⟩), .pointer (some ⟨W.heap.size, 0, none⟩)]) := HVC5.out.cell (i := 0) (by simp)
  clear hJ hA hK
  gi_wp2
  have hc := HR.out (n - 1) ([] ++ [⟨1, 0, 0, 64⟩] ++ rowL 2 64 64 8 ++ [⟨3, 0, 576, 64⟩] ++ rowL 4 640 64 32 ++ [⟨5, 0, 2688, 4096⟩]) 6 6784 1024 8 _ HA5.out HYC5.out HVC5.out HJ5.out (by simp [rowL_len]) (fun j hj => (by rw [List.append_assoc, ← rowL_succ]; exact ((List.prefix_append_right_inj _).2 (rowL_prefix _ _ _ (Nat.succ_le_of_lt hj))).trans (by unfold partsL; exact (List.prefix_append _ _).trans (List.prefix_refl _)))) (by omega) (by omega) (by omega) (by omega) (by omega)
  rw [show ((8 : Nat) : Int) = 8 from rfl] at hc
  have HC := hid hc
  clear hc
  refine HC.out.mono ?_
  rintro e W6 (⟨rfl, hJ, hA, hK⟩ | ⟨rfl, q, hq, hx⟩)
  rotate_left
  · clear HC
    have HX := hid hx
    clear hx
    gi_wp2
    refine skipC ?_
    gi_wp2
    go_end0
    have hx := HX.out
    exact ⟨⟨_, rfl⟩, .inr ⟨([] ++ [⟨1, 0, 0, 64⟩] ++ rowL 2 64 64 8 ++ [⟨3, 0, 576, 64⟩] ++ rowL 4 640 64 32 ++ [⟨5, 0, 2688, 4096⟩]) ++ q, ((List.prefix_append_right_inj _).2 hq).trans (by unfold partsL; exact (List.prefix_append _ _).trans (List.prefix_refl _)), hx⟩⟩
  clear HC
  have HA6 : Hid (Blk W6 (W.heap.size + 1) 3 [.int .i64 14976]) := hA
  have HJ6 := hid hJ
  have HYC6 := hid (hK.blk (Nat.le_refl _) (by omega) HYC5.out)
  have HVC6 := hid (hK.blk (by omega) (by omega) HVC5.out)
  have v6 : W6.cell? ⟨W.heap.size + 1 + 1, 0, none⟩ = some (.func (.func 17) #[] #[.pointer (some ⟨W.heap.size + 1, 0, none⟩), .pointer (some ⟨W.heap.size, 0, none⟩)]) := HVC6.out.cell (i := 0) (by simp)
  clear hJ hA hK
  gi_wp2
  have hc := HR.out (n - 1) ([] ++ [⟨1, 0, 0, 64⟩] ++ rowL 2 64 64 8 ++ [⟨3, 0, 576, 64⟩] ++ rowL 4 640 64 32 ++ [⟨5, 0, 2688, 4096⟩] ++ rowL 6 6784 1024 8) 7 14976 64 128 _ HA6.out HYC6.out HVC6.out HJ6.out (by simp [rowL_len]) (fun j hj => (by rw [List.append_assoc, ← rowL_succ]; exact ((List.prefix_append_right_inj _).2 (rowL_prefix _ _ _ (Nat.succ_le_of_lt hj))).trans (by unfold partsL; exact List.prefix_refl _))) (by omega) (by omega) (by omega) (by omega) (by omega)
  rw [show ((128 : Nat) : Int) = 128 from rfl] at hc
  have HC := hid hc
  clear hc
  refine HC.out.mono ?_
  rintro e W7 (⟨rfl, hJ, hA, hK⟩ | ⟨rfl, q, hq, hx⟩)
  rotate_left
  · clear HC
    have HX := hid hx
    clear hx
    gi_wp2
    go_end0
    have hx := HX.out
    exact ⟨⟨_, rfl⟩, .inr ⟨([] ++ [⟨1, 0, 0, 64⟩] ++ rowL 2 64 64 8 ++ [⟨3, 0, 576, 64⟩] ++ rowL 4 640 64 32 ++ [⟨5, 0, 2688, 4096⟩] ++ rowL 6 6784 1024 8) ++ q, ((List.prefix_append_right_inj _).2 hq).trans (by unfold partsL; exact List.prefix_refl _), hx⟩⟩
  clear HC
  have HJ7 := hid hJ
  clear hJ hA hK
  gi_wp2
  go_end0
  exact ⟨⟨_, rfl⟩, .inl ⟨_, rfl, HJ7.out⟩⟩
end Go.Proofs.Ytikakpdbokcbnaa
