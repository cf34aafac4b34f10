import Derived.Test.YtpiebklgpehafaaClockC
namespace Go.Proofs.Ytpiebklgpehafaa
open Go.RowKit Go.WideShapes
set_option linter.unusedSimpArgs false
set_option linter.unusedVariables false

theorem Blk.setOtherC {w : World} {g k : Nat} {e : TypeId} {L : List Value} (h : Blk w g e L) (hne : g ≠ k) (i : Nat) (v : Value) : Blk (w.setCell ⟨k, i, none⟩ v) g e L :=
  ((grownC_set (grownC_refl w (some k)) i v).block g h.lt (by simpa using hne)).trans h

theorem frozen_below {w w' : World} (b : Below w.heap.size w w') {p : Addr} (hp : p.block < w.heap.size) : w'.frozen? p = w.frozen? p := by
  unfold World.frozen?
  rw [b.block p.block hp]

/-- what holds while a pass is made -/
structure PInv (w0 : World) (h g n B : Nat) (T : Int) (F : Nat → Int) (l : Bool) (a : Option Addr) (c : Nat) (S : List Int) (w : World) : Prop where
  b : Blk w h 42 [.int .i64 T, .slice (some ⟨g, 0, none⟩) n n, .bool l]
  e : Blk w g 3 (arr n F)
  x : Blk w B 30 [.slice a S.length c]
  r : RowI w a c S
  k : Keep h g w0 w
theorem PInv.setE {w0 : World} {h g n B : Nat} {T : Int} {F F' : Nat → Int} {l : Bool} {a : Option Addr} {c : Nat} {S : List Int} {w : World} (I : PInv w0 h g n B T F l a c S w) (hap : Apart a S.length h g) (hne : h ≠ g) (hB : B ≠ g) {j : Nat} {v : Int} (hj : j < n) (hF : ∀ i, i < n → F' i = if i = j then v else F i) :
    PInv w0 h g n B T F' l a c S (w.setCell ⟨g, j, none⟩ (.int .i64 v)) :=
  ⟨I.b.setOtherC hne _ _, by have := Blk.set I.e j (.int .i64 v); rw [arr_set hj hF] at this; exact this, I.x.setOtherC hB _ _, (Keep.refl h g w).setG j _ |>.row I.r hap, I.k.setG _ _⟩
theorem PInv.setT {w0 : World} {h g n B : Nat} {T T' : Int} {F : Nat → Int} {l : Bool} {a : Option Addr} {c : Nat} {S : List Int} {w : World} (I : PInv w0 h g n B T F l a c S w) (hap : Apart a S.length h g) (hne : h ≠ g) (hB : B ≠ h) :
    PInv w0 h g n B T' F l a c S (w.setCell ⟨h, 0, none⟩ (.int .i64 T')) :=
  ⟨Blk.set I.b 0 _, I.e.setOtherC hne.symm _ _, I.x.setOtherC hB _ _, (Keep.refl h g w).setH 0 _ |>.row I.r hap, I.k.setH _ _⟩

set_option maxHeartbeats 4000000 in
theorem pass_ok (h g n : Nat) (T : Int) (E : Nat → Int) (l : Bool) (t : Int) (a : Option Addr) (c : Nat) (S : List Int) (w : World) (k : Clk w h g n T E l) (ha : RowI w a c S) (hap : Apart a S.length h g) (hok : okP T t n S = true) :
    Calls Try.prog 10 #[.pointer (some ⟨h, 0, none⟩), .int .i64 t, .slice a S.length c] w fun e w' => e = .returned (.int .i64 0) ∧ Clk w' h g n (T + t) (passE E t S) (l || S.any (byB 1)) ∧ Keep h g w w' := by
  have hmf : ∀ (fn : Fn) (first cap : Array Value) (w : World), (Instr.makeFunc fn first cap).run Try.prog w = .ok (.func fn first cap) w := fun _ _ _ _ => rfl
  have hl := rowI_len ha
  have hn := k.n9
  have hT := k.t
  have hE := k.bd
  have hne := k.ne
  have hh := k.b.lt
  have hg := k.e.lt
  have B0 : Below w.heap.size w (w.alloc (.cells #[.slice a S.length c] 30)) := (Below.refl _ w).alloc (Nat.le_refl _) _
  have c5 : (w.alloc (.cells #[.slice a S.length c] 30)).cell? ⟨w.heap.size, 0, none⟩ = some (.slice a S.length c) := Blk.cell (heap_alloc_new w _ : Blk _ w.heap.size 30 [.slice a S.length c]) (i := 0) (by simp)
  have k1 := k.below B0
  have c0 := k1.c0
  have c1 := k1.c1
  have H5 : Blk (w.alloc (.cells #[.slice a S.length c] 30)) w.heap.size 30 [.slice a S.length c] := heap_alloc_new w _
  have HB := hid (beyond_any a c S 8 w.heap.size (w.alloc (.cells #[.slice a S.length c] 30)).drew (Row.drew (Row.alloc ha _)) (Blk.drew H5) (by omega))
  have hsz : h < (w.alloc (.cells #[.slice a S.length c] 30)).heap.size := k1.b.lt
  have HI0 : ∀ w2, Below (w.alloc (.cells #[.slice a S.length c] 30)).heap.size (w.alloc (.cells #[.slice a S.length c] 30)) w2 → PInv w h g n w.heap.size T E l a c S w2 := fun w2 b =>
    ⟨k1.b.mono b, k1.e.mono b, H5.mono b, Row.mono (Row.alloc ha _) b, Keep.of_below (kept_trans B0 b)⟩
  have HI := hid HI0
  have hokc := hok
  unfold okP at hok
  simp only [Bool.and_eq_true, decide_eq_true_eq, Bool.not_eq_true'] at hok
  obtain ⟨⟨⟨h1, h2, h3⟩, h4⟩, h6⟩ := hok
  have hS8 : ∀ s ∈ S, -8 ≤ s ∧ s ≤ 8 := by
    intro s hs
    have := List.any_eq_false.1 h4 s hs
    simp [byB] at this; omega
  rw [h4] at HB
  have d1 : decide (t < 1) = false := decide_eq_false (by omega)
  have d2 : decide (64 < t) = false := decide_eq_false (by omega)
  have d3 : decide ((n : Int) < (S.length : Int)) = false := decide_eq_false (by omega)
  have d3' : decide (n < S.length) = false := decide_eq_false (by omega)
  have d5 : decide (1099511627776 < T + t) = false := decide_eq_false (by omega)
  have e5 : IntKind.i64.wrap (T + t) = T + t := IntWalk.i64_in _ (by omega)
  have hS0 : ((w.alloc (.cells #[.slice a S.length c] 30)).drew.cell? ⟨h, 0, none⟩ = some (.int .i64 T) ∧ (w.alloc (.cells #[.slice a S.length c] 30)).drew.cell? ⟨h, 1, none⟩ = some (.slice (some ⟨g, 0, none⟩) n n) ∧ (w.alloc (.cells #[.slice a S.length c] 30)).drew.cell? ⟨w.heap.size, 0, none⟩ = some (.slice a S.length c)) ∧ Below (w.alloc (.cells #[.slice a S.length c] 30)).heap.size (w.alloc (.cells #[.slice a S.length c] 30)) (w.alloc (.cells #[.slice a S.length c] 30)).drew := ⟨⟨c0, c1, c5⟩, (Below.refl _ _).drew⟩
  have HS8 := hid hS8
  have HEb := hid hE
  have HK := hid k
  clear k ha k1 H5 h4 hS8 HI0 hokc hE
  go_enter Try.func10, Try.ntmps10
  go_wp2_with fail
  refine wp_region_held_drew (S := fun w' => (w'.cell? ⟨h, 0, none⟩ = some (.int .i64 T) ∧ w'.cell? ⟨h, 1, none⟩ = some (.slice (some ⟨g, 0, none⟩) n n) ∧ w'.cell? ⟨w.heap.size, 0, none⟩ = some (.slice a S.length c)) ∧ Below (w.alloc (.cells #[.slice a S.length c] 30)).heap.size (w.alloc (.cells #[.slice a S.length c] 30)) w') (by kernel_rfl) hS0 (fun hS_0 => ?_)
  refine takeR (i := 0) (v := .int .i64 t) rfl rfl (by kernel_rfl) (by kernel_rfl) (by kernel_rfl) (fun _ _ _ h => h) (Or.inl ⟨Eq.refl true, fun w1 hSw => ?_⟩) hS_0 ?_
  · first | rfl | (clear hSw; go_simp; done) | (clear hSw; go_simp; rfl)
  (try simp only [Act.put, List.setIfInBounds_toArray, List.set_cons_zero, List.set_cons_succ])
  refine takeR (i := 1) (v := .bool false) rfl rfl (by kernel_rfl) (by kernel_rfl) (by kernel_rfl) (fun _ _ _ h => h) (Or.inl ⟨Eq.refl true, fun w1 hSw => ?_⟩) hS_0 ?_
  · first | rfl | (clear hSw; go_simp; done) | (clear hSw; go_simp; rfl)
  (try simp only [Act.put, List.setIfInBounds_toArray, List.set_cons_zero, List.set_cons_succ])
  refine takeR (i := 2) (v := .bool false) rfl rfl (by kernel_rfl) (by kernel_rfl) (by kernel_rfl) (fun _ _ _ h => h) (Or.inl ⟨Eq.refl true, fun w1 hSw => ?_⟩) hS_0 ?_
  · first | rfl | (clear hSw; go_simp; done) | (clear hSw; go_simp; rfl)
  (try simp only [Act.put, List.setIfInBounds_toArray, List.set_cons_zero, List.set_cons_succ])
  refine takeR (i := 3) (v := .int .i64 t) rfl rfl (by kernel_rfl) (by kernel_rfl) (by kernel_rfl) (fun _ _ _ h => h) (Or.inl ⟨Eq.refl true, fun w1 hSw => ?_⟩) hS_0 ?_
  · first | rfl | (clear hSw; go_simp; done) | (clear hSw; go_simp; rfl)
  (try simp only [Act.put, List.setIfInBounds_toArray, List.set_cons_zero, List.set_cons_succ])
  refine takeR (i := 4) (v := .bool false) rfl rfl (by kernel_rfl) (by kernel_rfl) (by kernel_rfl) (fun _ _ _ h => h) (Or.inl ⟨Eq.refl true, fun w1 hSw => ?_⟩) hS_0 ?_
  · first | rfl | (clear hSw; go_simp; done) | (clear hSw; go_simp; rfl)
  (try simp only [Act.put, List.setIfInBounds_toArray, List.set_cons_zero, List.set_cons_succ])
  refine takeR (i := 5) (v := .bool false) rfl rfl (by kernel_rfl) (by kernel_rfl) (by kernel_rfl) (fun _ _ _ h => h) (Or.inl ⟨Eq.refl true, fun w1 hSw => ?_⟩) hS_0 ?_
  · first | rfl | (clear hSw; go_simp; done) | (clear hSw; go_simp; rfl)
  (try simp only [Act.put, List.setIfInBounds_toArray, List.set_cons_zero, List.set_cons_succ])
  refine takeR (i := 6) (v := .bool false) rfl rfl (by kernel_rfl) (by kernel_rfl) (by kernel_rfl) (fun _ _ _ h => h) (Or.inl ⟨Eq.refl true, fun w1 hSw => ?_⟩) hS_0 ?_
  · first | rfl | (clear hSw; go_simp; done) | (clear hSw; go_simp; rfl)
  (try simp only [Act.put, List.setIfInBounds_toArray, List.set_cons_zero, List.set_cons_succ])
  refine takeR (i := 7) (v := .slice a S.length c) rfl rfl (by kernel_rfl) (by kernel_rfl) (by kernel_rfl) (fun _ _ _ h => h) (Or.inl ⟨Eq.refl true, fun w1 hSw => ?_⟩) hS_0 ?_
  · (obtain ⟨⟨q1, q2, q3⟩, _⟩ := hSw; go_simp; try rfl)
  (try simp only [Act.put, List.setIfInBounds_toArray, List.set_cons_zero, List.set_cons_succ])
  refine takeR (i := 8) (v := .int .i64 S.length) rfl rfl (by kernel_rfl) (by kernel_rfl) (by kernel_rfl) (fun _ _ _ h => h) (Or.inl ⟨Eq.refl true, fun w1 hSw => ?_⟩) hS_0 ?_
  · first | rfl | (clear hSw; go_simp; done) | (clear hSw; go_simp; rfl)
  (try simp only [Act.put, List.setIfInBounds_toArray, List.set_cons_zero, List.set_cons_succ])
  refine takeR (i := 9) (v := .pointer (some ⟨h, 0, none⟩)) rfl rfl (by kernel_rfl) (by kernel_rfl) (by kernel_rfl) (fun _ _ _ h => h) (Or.inl ⟨Eq.refl true, fun w1 hSw => ?_⟩) hS_0 ?_
  · first | rfl | (clear hSw; go_simp; done) | (clear hSw; go_simp; rfl)
  (try simp only [Act.put, List.setIfInBounds_toArray, List.set_cons_zero, List.set_cons_succ])
  refine takeR (i := 10) (v := .pointer (some ⟨h, 0, none⟩)) rfl rfl (by kernel_rfl) (by kernel_rfl) (by kernel_rfl) (fun _ _ _ h => h) (Or.inl ⟨Eq.refl true, fun w1 hSw => ?_⟩) hS_0 ?_
  · first | rfl | (clear hSw; go_simp; done) | (clear hSw; go_simp; rfl)
  (try simp only [Act.put, List.setIfInBounds_toArray, List.set_cons_zero, List.set_cons_succ])
  refine takeR (i := 11) (v := .pointer (some ⟨h, 1, none⟩)) rfl rfl (by kernel_rfl) (by kernel_rfl) (by kernel_rfl) (fun _ _ _ h => h) (Or.inl ⟨Eq.refl true, fun w1 hSw => ?_⟩) hS_0 ?_
  · first | rfl | (clear hSw; go_simp; done) | (clear hSw; go_simp; rfl)
  (try simp only [Act.put, List.setIfInBounds_toArray, List.set_cons_zero, List.set_cons_succ])
  refine takeR (i := 12) (v := .slice (some ⟨g, 0, none⟩) n n) rfl rfl (by kernel_rfl) (by kernel_rfl) (by kernel_rfl) (fun _ _ _ h => h) (Or.inl ⟨Eq.refl true, fun w1 hSw => ?_⟩) hS_0 ?_
  · (obtain ⟨⟨q1, q2, q3⟩, _⟩ := hSw; go_simp; try rfl)
  (try simp only [Act.put, List.setIfInBounds_toArray, List.set_cons_zero, List.set_cons_succ])
  refine takeR (i := 13) (v := .int .i64 n) rfl rfl (by kernel_rfl) (by kernel_rfl) (by kernel_rfl) (fun _ _ _ h => h) (Or.inl ⟨Eq.refl true, fun w1 hSw => ?_⟩) hS_0 ?_
  · first | rfl | (clear hSw; go_simp; done) | (clear hSw; go_simp; rfl)
  (try simp only [Act.put, List.setIfInBounds_toArray, List.set_cons_zero, List.set_cons_succ])
  refine takeR (i := 14) (v := .bool false) rfl rfl (by kernel_rfl) (by kernel_rfl) (by kernel_rfl) (fun _ _ _ h => h) (Or.inl ⟨Eq.refl true, fun w1 hSw => ?_⟩) hS_0 ?_
  · first | rfl | (clear hSw; go_simp; done) | (clear hSw; go_simp; rfl)
  (try simp only [Act.put, List.setIfInBounds_toArray, List.set_cons_zero, List.set_cons_succ])
  refine takeR (i := 15) (v := .bool false) rfl rfl (by kernel_rfl) (by kernel_rfl) (by kernel_rfl) (fun _ _ _ h => h) (Or.inl ⟨Eq.refl true, fun w1 hSw => ?_⟩) hS_0 ?_
  · first | rfl | (clear hSw; go_simp; done) | (clear hSw; go_simp; rfl)
  (try simp only [Act.put, List.setIfInBounds_toArray, List.set_cons_zero, List.set_cons_succ])
  refine takeR (i := 16) (v := .bool false) rfl rfl (by kernel_rfl) (by kernel_rfl) (by kernel_rfl) (fun _ _ _ h => h) (Or.inl ⟨Eq.refl true, fun w1 hSw => ?_⟩) hS_0 ?_
  · first | rfl | (clear hSw; go_simp; done) | (clear hSw; go_simp; rfl)
  (try simp only [Act.put, List.setIfInBounds_toArray, List.set_cons_zero, List.set_cons_succ])
  refine takeR (i := 17) (v := .func (.func 17) #[] #[.pointer (some ⟨w.heap.size, 0, none⟩)]) rfl rfl (by kernel_rfl) (by kernel_rfl) (by kernel_rfl) (fun _ _ _ h => h) (Or.inl ⟨Eq.refl true, fun w1 hSw => ?_⟩) hS_0 ?_
  · first | rfl | (clear hSw; go_simp; done) | (clear hSw; go_simp; rfl)
  (try simp only [Act.put, List.setIfInBounds_toArray, List.set_cons_zero, List.set_cons_succ])
  refine wpAnyH_ready (rs := [18]) (by kernel_rfl) (by simp) (AllReadyH.cons rfl (fun K hK => ?_) AllReadyH.nil)
  go_simp
  go_wp2_with (go_at_call 17; refine HB.out.mono ?_; rintro e w2 ⟨rfl, b2⟩)
  refine hK.out _ _ ?_ (fun hS_1 => ?_)
  · exact cells3_step hS_0 b2
  clear hK K
  refine takeR (i := 19) (v := .bool false) rfl rfl (by kernel_rfl) (by kernel_rfl) (by kernel_rfl) (fun _ _ _ h => h) (Or.inl ⟨Eq.refl true, fun w1 hSw => ?_⟩) hS_1 ?_
  · first | rfl | (clear hSw; go_simp; done) | (clear hSw; go_simp; rfl)
  (try simp only [Act.put, List.setIfInBounds_toArray, List.set_cons_zero, List.set_cons_succ])
  refine takeR (i := 20) (v := .bool false) rfl rfl (by kernel_rfl) (by kernel_rfl) (by kernel_rfl) (fun _ _ _ h => h) (Or.inl ⟨Eq.refl true, fun w1 hSw => ?_⟩) hS_1 ?_
  · first | rfl | (clear hSw; go_simp; done) | (clear hSw; go_simp; rfl)
  (try simp only [Act.put, List.setIfInBounds_toArray, List.set_cons_zero, List.set_cons_succ])
  refine takeR (i := 21) (v := .pointer (some ⟨h, 0, none⟩)) rfl rfl (by kernel_rfl) (by kernel_rfl) (by kernel_rfl) (fun _ _ _ h => h) (Or.inl ⟨Eq.refl true, fun w1 hSw => ?_⟩) hS_1 ?_
  · first | rfl | (clear hSw; go_simp; done) | (clear hSw; go_simp; rfl)
  (try simp only [Act.put, List.setIfInBounds_toArray, List.set_cons_zero, List.set_cons_succ])
  refine takeR (i := 22) (v := .pointer (some ⟨h, 0, none⟩)) rfl rfl (by kernel_rfl) (by kernel_rfl) (by kernel_rfl) (fun _ _ _ h => h) (Or.inl ⟨Eq.refl true, fun w1 hSw => ?_⟩) hS_1 ?_
  · first | rfl | (clear hSw; go_simp; done) | (clear hSw; go_simp; rfl)
  (try simp only [Act.put, List.setIfInBounds_toArray, List.set_cons_zero, List.set_cons_succ])
  refine takeR (i := 23) (v := .pointer (some ⟨h, 0, none⟩)) rfl rfl (by kernel_rfl) (by kernel_rfl) (by kernel_rfl) (fun _ _ _ h => h) (Or.inl ⟨Eq.refl true, fun w1 hSw => ?_⟩) hS_1 ?_
  · first | rfl | (clear hSw; go_simp; done) | (clear hSw; go_simp; rfl)
  (try simp only [Act.put, List.setIfInBounds_toArray, List.set_cons_zero, List.set_cons_succ])
  refine takeR (i := 24) (v := .int .i64 T) rfl rfl (by kernel_rfl) (by kernel_rfl) (by kernel_rfl) (fun _ _ _ h => h) (Or.inl ⟨Eq.refl true, fun w1 hSw => ?_⟩) hS_1 ?_
  · (obtain ⟨⟨q1, q2, q3⟩, _⟩ := hSw; go_simp; try rfl)
  (try simp only [Act.put, List.setIfInBounds_toArray, List.set_cons_zero, List.set_cons_succ])
  refine takeR (i := 25) (v := .int .i64 t) rfl rfl (by kernel_rfl) (by kernel_rfl) (by kernel_rfl) (fun _ _ _ h => h) (Or.inl ⟨Eq.refl true, fun w1 hSw => ?_⟩) hS_1 ?_
  · first | rfl | (clear hSw; go_simp; done) | (clear hSw; go_simp; rfl)
  (try simp only [Act.put, List.setIfInBounds_toArray, List.set_cons_zero, List.set_cons_succ])
  refine takeR (i := 26) (v := .int .i64 (T + t)) rfl rfl (by kernel_rfl) (by kernel_rfl) (by kernel_rfl) (fun _ _ _ h => h) (Or.inl ⟨Eq.refl true, fun w1 hSw => ?_⟩) hS_1 ?_
  · first | rfl | (clear hSw; go_simp; done) | (clear hSw; go_simp; rfl)
  (try simp only [Act.put, List.setIfInBounds_toArray, List.set_cons_zero, List.set_cons_succ])
  refine takeR (i := 27) (v := .bool false) rfl rfl (by kernel_rfl) (by kernel_rfl) (by kernel_rfl) (fun _ _ _ h => h) (Or.inl ⟨Eq.refl true, fun w1 hSw => ?_⟩) hS_1 ?_
  · first | rfl | (clear hSw; go_simp; done) | (clear hSw; go_simp; rfl)
  (try simp only [Act.put, List.setIfInBounds_toArray, List.set_cons_zero, List.set_cons_succ])
  refine takeR (i := 28) (v := .bool false) rfl rfl (by kernel_rfl) (by kernel_rfl) (by kernel_rfl) (fun _ _ _ h => h) (Or.inl ⟨Eq.refl true, fun w1 hSw => ?_⟩) hS_1 ?_
  · first | rfl | (clear hSw; go_simp; done) | (clear hSw; go_simp; rfl)
  (try simp only [Act.put, List.setIfInBounds_toArray, List.set_cons_zero, List.set_cons_succ])
  refine wpAnyH_done (by kernel_rfl) ?_ _
  clear HB hS0 hS_0 c0 c1 c5 d3 d3' d1 d2 d5 B0
  have I2 := HI.out w2 hS_1.2
  clear hS_1 b2 HI
  have c0 : w2.cell? ⟨h, 0, none⟩ = some (.int .i64 T) := Blk.cell I2.b (i := 0) (by simp)
  have f0 : w2.frozen? ⟨h, 0, none⟩ = false := Blk.frozen I2.b 0
  have c1 : (w2.setCell ⟨h, 0, none⟩ (.int .i64 (T + t))).cell? ⟨h, 1, none⟩ = some (.slice (some ⟨g, 0, none⟩) n n) := Blk.cell (Blk.set I2.b 0 _) (i := 1) (by simp)
  have I3 := I2.setT (T' := T + t) hap hne (by omega)
  have HI3 := hid I3
  clear I2 I3
  go_wp2_with fail
  have I3 := HI3.out
  clear HI3 c0 f0 c1
  generalize World.setCell _ _ _ = w3 at *
  go_loopw [54] (fun i wr => ∃ j : Nat, j ≤ n ∧ i = .int .i64 j ∧ PInv w h g n w.heap.size (T + t) (fun i => if i < j then E i + 8 * t else E i) l a c S wr) (fun i _ => n - (intOf i).toNat)
  case atStart => exact ⟨0, by omega, rfl, by simpa using I3⟩
  case round =>
    obtain ⟨j, hj, rfl, I⟩ := hrel
    by_cases hlt : j < n
    · have c1 : wr.cell? ⟨h, 1, none⟩ = some (.slice (some ⟨g, 0, none⟩) n n) := Blk.cell I.b (i := 1) (by simp)
      have ce : wr.cell? ⟨g, j, none⟩ = some (.int .i64 (E j)) := by
        rw [Blk.cell I.e (i := j) (by rw [arr_length]; exact hlt), arr_get _ _ hlt, if_neg (by omega)]
      have fe : wr.frozen? ⟨g, j, none⟩ = false := Blk.frozen I.e j
      have hbj := HEb.out j hlt
      have hltd : decide (j < n) = true := decide_eq_true hlt
      have I' := I.setE (F' := fun i => if i < j + 1 then E i + 8 * t else E i) (v := E j + t * 8) hap hne (by omega) hlt (fun i hi => by
        by_cases e : i = j
        · subst e; simp; omega
        · by_cases h2 : i < j
          · rw [if_pos (by omega), if_neg e, if_pos h2]
          · rw [if_neg (by omega), if_neg e, if_neg h2])
      have HI' := hid I'
      clear I I' I3
      go_wp2_with fail
      go_roundw
      case rel => exact ⟨j + 1, by omega, by go_num, HI'.out⟩
      case measure => simp [intOf]; omega
    · obtain rfl : j = n := by omega
      have I4 : PInv w h g j w.heap.size (T + t) (fun i => if i < 0 then passE E t S i else E i + 8 * t) l a c S wr := by
        have e : arr j (fun i => if i < 0 then passE E t S i else E i + 8 * t) = arr j (fun i => if i < j then E i + 8 * t else E i) := arr_congr (fun i hi => by rw [if_neg (by omega), if_pos hi])
        exact ⟨I.b, by rw [e]; exact I.e, I.x, I.r, I.k⟩
      have c5 : wr.cell? ⟨w.heap.size, 0, none⟩ = some (.slice a S.length c) := Blk.cell I.x (i := 0) (by simp)
      clear I I3
      go_wp2_with fail
      clear c5
      go_loopw [71] (fun i wr => ∃ m : Nat, m ≤ S.length ∧ i = .int .i64 m ∧ PInv w h g j w.heap.size (T + t) (fun i => if i < m then passE E t S i else E i + 8 * t) l a c S wr) (fun i _ => S.length - (intOf i).toNat)
      case atStart => exact ⟨0, by omega, rfl, I4⟩
      case round =>
        obtain ⟨m, hm, rfl, I⟩ := hrel
        by_cases hlt2 : m < S.length
        · obtain ⟨ba, oa, rfl, hba, hca⟩ := rowI_cells I.r (by omega)
          have cs := hca m hlt2
          have c1 : wr.cell? ⟨h, 1, none⟩ = some (.slice (some ⟨g, 0, none⟩) j j) := Blk.cell I.b (i := 1) (by simp)
          have hmj : m < j := by omega
          have ce : wr.cell? ⟨g, m, none⟩ = some (.int .i64 (E m + 8 * t)) := by
            rw [Blk.cell I.e (i := m) (by rw [arr_length]; exact hmj), arr_get _ _ hmj, if_neg (by omega)]
          have fe : wr.frozen? ⟨g, m, none⟩ = false := Blk.frozen I.e m
          have hbj := HEb.out m hmj
          have hmem : S.getD m 0 ∈ S := by simp [hlt2]
          have hb8 := HS8.out _ hmem
          have hpm : passE E t S m = E m + 8 * t + t * S.getD m 0 := rfl
          have hmul := mul_bd h1 h2 hb8.1 hb8.2
          have hltd : decide ((m : Int) < (S.length : Int)) = true := decide_eq_true (by omega)
          have hltd' : decide (m < S.length) = true := decide_eq_true hlt2
          have I' := I.setE (F' := fun i => if i < m + 1 then passE E t S i else E i + 8 * t) (v := E m + 8 * t + t * S.getD m 0) hap hne (by omega) hmj (fun i hi => by
            by_cases e : i = m
            · subst e; simp [passE]
            · by_cases h2 : i < m
              · rw [if_pos (by omega), if_neg e, if_pos h2]
              · rw [if_neg (by omega), if_neg e, if_neg h2])
          have HI' := hid I'
          clear I I' I4 hca hpm hmem
          generalize S.getD m 0 = s at *
          generalize hp : t * s = p at *
          have HP := hid hp
          have ep : IntKind.i64.wrap p = p := IntWalk.i64_in _ (by omega)
          have ep2 : IntKind.i64.wrap (E m + 8 * t + p) = E m + 8 * t + p := IntWalk.i64_in _ (by omega)
          clear hp hb8
          go_wp2_with fail
          go_roundw
          case rel => exact ⟨m + 1, by omega, by go_num, by rw [HP.out, IntWalk.wrap64_in p (by omega), IntWalk.wrap64_in _ (by omega)]; exact HI'.out⟩
          case measure => simp [intOf]; omega
        · obtain rfl : m = S.length := by omega
          have eF : arr j (fun i => if i < S.length then passE E t S i else E i + 8 * t) = arr j (passE E t S) := arr_congr (fun i hi => by
            by_cases h : i < S.length
            · rw [if_pos h]
            · rw [if_neg h]; unfold passE; simp [List.getD_eq_getElem?_getD, List.getElem?_eq_none (show S.length ≤ i by omega)])
          have ke := I.e
          rw [eF] at ke
          have hbd : ∀ i, i < j → 0 ≤ passE E t S i ∧ passE E t S i ≤ 16 * (T + t) := fun i hi => by
            have q1 := HEb.out i hi
            unfold passE
            by_cases h : i < S.length
            · have hm : S.getD i 0 ∈ S := by simp [h]
              have q2 := HS8.out _ hm
              have q3 := mul_bd h1 h2 q2.1 q2.2
              omega
            · have : S.getD i 0 = 0 := by simp [List.getD_eq_getElem?_getD, List.getElem?_eq_none (show S.length ≤ i by omega)]
              rw [this]; omega
          have c2 : wr.cell? ⟨h, 2, none⟩ = some (.bool l) := Blk.cell I.b (i := 2) (by simp)
          have f2 : wr.frozen? ⟨h, 2, none⟩ = false := Blk.frozen I.b 2
          have fin : ∀ (w5 : World) (r : Bool), Below wr.heap.size wr w5 → Clk (w5.setCell ⟨h, 2, none⟩ (.bool r)) h g j (T + t) (passE E t S) r ∧ Keep h g w (w5.setCell ⟨h, 2, none⟩ (.bool r)) := fun w5 r b5 =>
            ⟨⟨Blk.set (I.b.mono b5) 2 _, (ke.mono b5).setOtherC hne.symm _ _, hne, hn, by omega, hbd⟩, (I.k.trans (Keep.of_below b5)).setH _ _⟩
          have HF := hid fin
          cases l
          · have HB1 := hid (beyond_any a c S 1 w.heap.size wr I.r I.x (by omega))
            have hhr := I.b.lt
            clear fin hbd ke eF I I4
            generalize hr : S.any (byB 1) = r at *
            have HR := hid hr
            clear hr
            go_wp2_with (go_at_call 17; refine HB1.out.mono ?_; rintro e w5 ⟨rfl, b5⟩; have c2' := (b5.cell (p := ⟨h, 2, none⟩) hhr).trans c2; have f2' : w5.frozen? ⟨h, 2, none⟩ = false := (frozen_below b5 hhr).trans f2)
            go_ret
            exact ⟨rfl, by rw [Bool.false_or, HR.out]; exact (HF.out w5 r b5).1, (HF.out w5 r b5).2⟩
          · clear fin hbd ke eF I I4
            go_wp2_with fail
            go_ret
            exact ⟨rfl, by rw [Bool.true_or]; exact (HF.out wr true (Below.refl _ _)).1, (HF.out wr true (Below.refl _ _)).2⟩

end Go.Proofs.Ytpiebklgpehafaa
