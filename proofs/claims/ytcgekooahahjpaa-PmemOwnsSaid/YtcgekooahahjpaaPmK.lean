/- A line evicted; lines flushed. -/
import Derived.Test.YtcgekooahahjpaaPmJ
namespace Go.Proofs.Ytcgekooahahjpaa
open Go.RowKit Go.Shelf
set_option linter.unusedSimpArgs false
set_option linter.unusedVariables false
attribute [local go_sem] Oper.semAt_some

theorem SeqK.inRound {α : Type} {F : Fence} {n : Nat} {P : Program} {g : Nat} {lb : Array Value} {encs : α → Array Value} {S Sp : List α → Prop} {N : Nat} {w0 : World} {Cs : World → Prop} (l : Nat) (h : SeqK F n P g lb encs S Sp N w0 Cs) : SeqK (F.inRound l) n P g lb encs S Sp N w0 Cs := h
theorem KeepUp.up {B Bi : Nat} {W0 X Y : World} (h : KeepUp B W0 X) (b : Below Bi X Y) (hB : W0.heap.size ≤ Bi) : KeepUp B W0 Y := ⟨Nat.le_trans h.1 b.size, fun k h1 h2 => (b.block k (by omega)).trans (h.2 k h1 h2)⟩
theorem CapT.up {Bn Ba Bs at_ m s B : Nat} {X Y : World} (h : CapT Bn Ba Bs at_ m s X) (b : Below B X Y) (h1 : Bn < B) (h2 : Ba < B) (h3 : Bs < B) : CapT Bn Ba Bs at_ m s Y := ⟨(b.block _ h1).trans h.1, (b.block _ h2).trans h.2.1, (b.block _ h3).trans h.2.2⟩
theorem CapT.turns {Bn Ba Bs at_ m s : Nat} {Z : Nat → Prop} {X Y : World} (h : CapT Bn Ba Bs at_ m s X) (t : Turns Z X Y) (h1 : ¬ Z Bn) (h2 : ¬ Z Ba) (h3 : ¬ Z Bs) : CapT Bn Ba Bs at_ m s Y := ⟨t.blk h.1 h1, t.blk h.2.1 h2, t.blk h.2.2 h3⟩
theorem mem_line (k line : Nat) : k ∈ touchL (64 * line) 64 8 ↔ k / 8 = line := by
  rw [touchL_mem _ _ _ _ (.inl rfl)]
  unfold inT
  rw [decide_eq_true_eq]
  omega

/-- what Evict does -/
def EvictP (g v d p : Nat) (M : MemM) (line : Int) (w : World) (e : Ending) (w' : World) : Prop :=
  if 0 ≤ line ∧ line < (M.V.length / 64 : Nat) then e = .returned (.int .i64 0) ∧ MemP w' g v d p (evictM M line.toNat) ∧ Turns (fun k => k = d ∨ k = p) w w' else e = .returned (.int .i64 1) ∧ Below w.heap.size w w'

set_option maxHeartbeats 4000000 in
set_option maxRecDepth 100000 in
theorem evict_any {w : World} {g v d p : Nat} {M : MemM} (h : MemP w g v d p M) (line : Int) (ha : -9223372036854775808 ≤ line ∧ line ≤ 9223372036854775807) :
    Calls Try.prog 27 #[.pointer (some ⟨g, 0, none⟩), .int .i64 line] w (EvictP g v d p M line w) := by
  have hd : Fence.wide.depth = none := rfl
  obtain ⟨w1, hw1⟩ : ∃ w1, w1 = w.alloc (.cells #[.pointer (some ⟨g, 0, none⟩)] 23) := ⟨_, rfl⟩
  have b1 : Below w.heap.size w w1 := by rw [hw1]; exact albO w _
  have k1 : Blk w1 w.heap.size 23 [.pointer (some ⟨g, 0, none⟩)] := by rw [hw1]; exact blk_newO rfl _ _
  have s1 : w1.heap.size = w.heap.size + 1 := by rw [hw1]; simp
  have m1 := h.mono b1
  have c1 : w1.cell? ⟨w.heap.size, 0, none⟩ = some (.pointer (some ⟨g, 0, none⟩)) := k1.cell (i := 0) (by simp)
  have HS := hid (size_any m1)
  have hVl : M.V.length ≤ 1048576 := m1.1.2.2.2.2
  have hAl : M.A.length * 8 = M.V.length := m1.1.2.1
  have hV64 : M.V.length % 64 = 0 := m1.1.2.2.1
  have e1 : (M.V.length : Int).tdiv 64 = ((M.V.length / 64 : Nat) : Int) := rfl
  have HW1 := hid hw1
  by_cases h0 : 0 ≤ line
  · have d0 : decide (line < 0) = false := decide_eq_false (by omega)
    have e2 : IntKind.i64.wrap ((M.V.length / 64 : Nat) : Int) = ((M.V.length / 64 : Nat) : Int) := IntWalk.i64_in _ (by omega)
    by_cases h1 : line < (M.V.length / 64 : Nat)
    · have hE : EvictP g v d p M line w = fun e w' => e = .returned (.int .i64 0) ∧ MemP w' g v d p (evictM M line.toNat) ∧ Turns (fun k => k = d ∨ k = p) w w' := by
        funext e w'; unfold EvictP; rw [if_pos ⟨h0, h1⟩]
      rw [hE]
      clear hE
      obtain ⟨ln, rfl⟩ : ∃ n : Nat, line = (n : Int) := ⟨line.toNat, by omega⟩
      rw [show ((ln : Int)).toNat = ln from rfl]
      have hlb : ln ≤ 16384 := by omega
      have hlA : ∀ k, k / 8 = ln → k < M.A.length := fun k hk => by omega
      have d1 : decide (M.V.length / 64 ≤ ln) = false := decide_eq_false (by omega)
      obtain ⟨av, ag1, ag2, ap1, ap2, ap3, gl, vl, dl, pl⟩ := mem_apart h
      have HCO := hid (fun X => cellsOf_any ln (by omega) X)
      have M1 := hid m1
      have K1 := hid k1
      have HLA := hid hlA
      have S1 := hid s1
      clear m1 k1 h0 h1 hlA hw1 s1
      generalize hq : M.V.length / 64 = N at *
      refine (callsIn_wide (n := 5)).1 ?_
      refine callsIn_of_wp_marks Try.func27 rfl trivial ?_ rfl
      simp only [Try.ntmps27, List.size_toArray, List.length_cons, List.length_nil, Nat.reduceAdd, Nat.reduceSub, Array.replicate_succ, Array.replicate_zero, List.push_toArray, List.append_toArray, List.nil_append, List.cons_append]
      gi_wp2_with (first
        | ((try refine ⟨trivial, ?_⟩); gi_at_call 14; rw [← HW1.out]; refine (callsIn_wide.2 HS.out).mono ?_; rintro e w2 ⟨rfl, rfl⟩)
        | ((try refine ⟨trivial, ?_⟩); gi_at_call 35; refine (callsIn_wide.2 (HCO.out _)).mono ?_; rintro e w4 ⟨rfl, k4, b4, s4⟩; have K4 := hid k4; have B4 := hid b4; have S4 := hid s4; clear k4 b4 s4))
      have s1 := S1.out
      have l4 := B4.out.size
      have h4 := S4.out
      have hI : StabC w4.heap.size (fun (pre : List Nat) W => Blk W w.heap.size 23 [.pointer (some ⟨g, 0, none⟩)] ∧ MemP W g v d p ⟨M.V, mixF (fun i => decide (i ∈ pre)) M.V M.D, setL false M.A pre⟩ ∧ CapT (w1.heap.size + 1) w1.heap.size (w1.heap.size + 1 + 1) (64 * ln) 64 8 W ∧ Turns (fun k => k = d ∨ k = p) w W) := by
        rintro pre X Y ⟨i1, i2, i3, i4⟩ bb
        exact ⟨(bb.block _ (by omega)).trans i1, i2.up bb (by omega) (by omega) (by omega) (by omega), i3.up bb (by omega) (by omega) (by omega), i4.up bb (by omega)⟩
      have hx4 := K1.out.mono B4.out
      have hm4 := M1.out.mono B4.out
      have ht4 : Turns (fun k => k = d ∨ k = p) w w4 := (Turns.of_below b1).trans (Turns.of_below B4.out)
      have hz : mixF (fun i => decide (i ∈ ([] : List Nat))) M.V M.D = M.D := by rw [mixF_congr (g := fun _ => false) (fun k _ => by simp), mixF_none]
      refine wpIn_rangeFunc_K1 rfl (by omega) (gf := 43) rfl trivial (enters_of Try.func43 (by kernel_rfl) rfl) (by simp) (val := fun x : Nat => .int .i64 (x : Int))
        (touched_seq (5 - 1) w4 (64 * ln) 64 8 (.inl rfl) (by omega) (by omega) (w1.heap.size + 1) w1.heap.size (w1.heap.size + 1 + 1) _ (Nat.le_refl _)) (Below.refl _ _)
        _ (fun _ _ _ => False) hI (fun _ _ _ _ q _ => q) ⟨hx4, by rw [hz]; exact hm4, K4.out, ht4⟩ (fun _ _ q => q.2.2.1) ?body ?done ?stop
      case body =>
        rintro l pre x W _ _ ⟨i1, i2, i3, i4⟩ hlt _ hsp
        have hxm : x ∈ touchL (64 * ln) 64 8 := hsp.subset (by simp)
        have hxl : x < M.A.length := HLA.out x ((mem_line x ln).1 hxm)
        have y0 : W.cell? ⟨w.heap.size, 0, none⟩ = some (.pointer (some ⟨g, 0, none⟩)) := i1.cell (i := 0) (by simp)
        obtain ⟨_, _, y2⟩ := i2.cells
        have HP := hid (persist_any i2 x (by rw [setL_len]; exact hxl))
        have I1 := hid i1; have I2 := hid i2; have I3 := hid i3; have I4 := hid i4
        clear i1 i2 i3 i4 hsp hxm s1 h4
        simp only [List.setIfInBounds_toArray, List.set_cons_succ, List.set_cons_zero]
        gi_wp2_with (first
          | ((try refine ⟨trivial, ?_⟩); gi_at_call 37; refine (CallsIn.inRound l (callsIn_wide.2 HP.out)).mono ?_; rintro e w5 ⟨⟨z, rfl⟩, m5, t5⟩; have x0 : w5.cell? ⟨w.heap.size, 0, none⟩ = some (.pointer (some ⟨g, 0, none⟩)) := (t5.blk I1.out (by omega)).cell (i := 0) (by simp); have x2 := m5.cells.2.2; have M5 := hid m5; have T5 := hid t5; clear m5 t5)
          | (gi_at_delete; refine wpi_delP rfl _ _ rfl Try.underlying50 rfl rfl (by rw [setL_len]; exact hxl) (by omega) M5.out.2.2.2.2.2 ?_; intro w6 p6 g6; have P6 := hid p6; have G6 := hid g6; clear p6 g6))
        have s1 := S1.out
        have h4 := S4.out
        have t6 : Turns (fun k => k = p) w5 w6 := Turns.of_grown G6.out rfl
        have t56 : Turns (fun k => k = d ∨ k = p) W w6 := (T5.out.mono (fun _ q => .inl q)).trans (t6.mono (fun _ q => .inr q))
        refine ⟨t56.keepUp (by omega), t56.blk I1.out (by omega), ?_, I3.out.turns t56 (by omega) (by omega) (by omega), I4.out.trans t56⟩
        have := M5.out.setA P6.out (by simp) t6
        rw [mixF_setA] at this
        rw [setL_snoc, mixF_congr (g := fun i => decide (i ∈ pre) || i == x) (fun i _ => by rw [Bool.eq_iff_iff]; simp)]
        exact this
      case done =>
        rintro D xs W hD rfl ⟨i1, i2, i3, i4⟩ hk
        have hst : (⟨M.V, mixF (fun i => decide (i ∈ touchL (64 * ln) 64 8)) M.V M.D, setL false M.A (touchL (64 * ln) 64 8)⟩ : MemM) = evictM M ln := by
          unfold evictM
          rw [tabF_ext (L := setL false M.A (touchL (64 * ln) 64 8)) (setL_len _ _ _) (fun k hk => ?_), mixF_congr (g := fun k => k / 8 == ln) (fun k _ => ?_)]
          · rw [Bool.eq_iff_iff]; simp [mem_line]
          · rw [setL_get _ _ _ _ hk]
            by_cases q : k / 8 = ln
            · rw [if_pos ((mem_line k ln).2 q)]; simp [q]
            · rw [if_neg (fun z => q ((mem_line k ln).1 z))]; simp [q]
        rw [hst] at i2
        have I2 := hid i2; have I4 := hid i4
        clear i1 i2 i3 i4 hst
        gi_wp2
        refine ⟨by simp, .inl ⟨_, _, rfl, run_takeDeferred hk, ?_⟩⟩
        have hb : ∀ o, Below w4.heap.size W (W.putObj D o) := fun o => below_putObjC (Below.refl _ _) o hD
        exact ⟨_, results_tmp rfl _ _ _, rfl, I2.out.up (hb _) (by omega) (by omega) (by omega) (by omega), I4.out.up (hb _) (by omega)⟩
      case stop =>
        rintro D c pre W _ _ h _
        exact h.elim
    · have hE : EvictP g v d p M line w = fun e w' => e = .returned (.int .i64 1) ∧ Below w.heap.size w w' := by
        funext e w'; unfold EvictP; rw [if_neg (fun q => h1 q.2)]
      rw [hE]
      obtain ⟨ln, rfl⟩ : ∃ n : Nat, line = (n : Int) := ⟨line.toNat, by omega⟩
      have d1 : decide (M.V.length / 64 ≤ ln) = true := decide_eq_true (by omega)
      clear hE h1 h m1 hw1 s1
      generalize M.V.length / 64 = N at *
      go_enter Try.func27, Try.ntmps27
      go_wp2_with (first | (go_at_call 14; rw [← HW1.out]; refine HS.out.mono ?_; rintro e w2 ⟨rfl, rfl⟩))
      go_ret
      exact ⟨rfl, b1⟩
  · have hE : EvictP g v d p M line w = fun e w' => e = .returned (.int .i64 1) ∧ Below w.heap.size w w' := by
      funext e w'; unfold EvictP; rw [if_neg (fun q => h0 q.1)]
    rw [hE]
    have d0 : decide (line < 0) = true := decide_eq_true (by omega)
    clear hE h m1 hw1 HS
    go_enter Try.func27, Try.ntmps27
    go_wp2
    go_ret
    exact ⟨rfl, by rw [← HW1.out]; exact b1⟩
end Go.Proofs.Ytcgekooahahjpaa
