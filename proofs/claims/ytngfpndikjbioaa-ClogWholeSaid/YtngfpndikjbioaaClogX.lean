import Derived.Test.YtngfpndikjbioaaClogW
import Derived.Test.YtngfpndikjbioaaLibR
namespace Go.Proofs.Ytngfpndikjbioaa
open Go.RowKit Go.WideShapes
set_option linter.unusedSimpArgs false
set_option linter.unusedVariables false

theorem Blk.setOtherX {w : World} {g k : Nat} {e : TypeId} {L : List Value} (h : Blk w g e L) (hne : g ≠ k) (i : Nat) (v : Value) : Blk (w.setCell ⟨k, i, none⟩ v) g e L :=
  ((grown_set (grown_refl w (some k)) i v).block g h.lt (by simpa using hne)).trans h
theorem results_rec3 {fn : Func} {c u v : Tmp} (h : fn.results = #[.cell c 23, .tmp u, .tmp v]) {tmps : Array Value} {w : World} {g : Nat} {L : List Value} (hc : tmps.getD c undef = .pointer (some ⟨g, 0, none⟩)) (hb : Blk w g 23 L) (hl : L.length = 5) :
    (results fn tmps).run Try.prog w = .ok (.tuple #[.agg L.toArray, tmps.getD u undef, tmps.getD v undef]) w := by
  have hv := run_loadVar_row (P := Try.prog) w g 23 23 L.toArray (0, 0) _ hb Try.underlying23 rfl (by
    have : (Try.prog.info? 23).map (·.size) = some 5 := by kernel_rfl
    rw [this]; simp [hl])
  have hc' : tmps[c]?.getD undef = .pointer (some ⟨g, 0, none⟩) := by simpa using hc
  simp [results, h, hc', asAddr, hv]

set_option maxHeartbeats 4000000 in
set_option maxRecDepth 100000 in
theorem dec_ok (a : Option Addr) (c : Nat) (xs rest : List UInt8) (C I O : Nat) (t : Bool) (s : ByteArray) (w : World) (ha : RowB w a c xs) (hm : recMay C I t O s = true) (hx : xs = recL C I t O s ++ rest) :
    Calls Try.prog 14 #[.slice a xs.length c] w fun e w' => e = .returned (.tuple #[recV C I t O s, .int .i64 (recL C I t O s).length, .int .i64 0]) ∧ Below w.heap.size w w' := by
  obtain ⟨f1, f2, f3, f4, f5, f6, f7, f8, f9, f10⟩ := dec_facts hm hx
  have hl := rowB_len ha
  have hcap : xs.length ≤ c := ha.2.1
  have hz : s.size ≤ 64 := (recMay_iff hm).2.2.2.2.2.2.1
  have G12 := fun (w1 : World) (r1 : RowB w1 a c xs) => get_any a c xs 12 1 w1 r1 hl
  have G13 := fun (w1 : World) (r1 : RowB w1 a c xs) => get_any a c xs ((13 + s.size : Nat) : Int) 4 w1 r1 hl
  have G0 := fun (w1 : World) (r1 : RowB w1 a c xs) => get_any a c xs 0 8 w1 r1 hl
  have G8 := fun (w1 : World) (r1 : RowB w1 a c xs) => get_any a c xs 8 1 w1 r1 hl
  have G10 := fun (w1 : World) (r1 : RowB w1 a c xs) => get_any a c xs 10 2 w1 r1 hl
  rw [f1] at G12; rw [f2, show ((13 + s.size : Nat) : Int) = 13 + (s.size : Int) by omega] at G13; rw [f3] at G0; rw [f4] at G8; rw [f5] at G10
  simp only [getV, Option.getD_some, Option.isSome_some] at G12 G13 G0 G8 G10
  have hXl : (xs.take (13 + s.size)).length = 13 + s.size := by simp; omega
  have HSum := fun (w1 : World) (r1 : RowB w1 a c (xs.take (13 + s.size))) => sum_any a c (xs.take (13 + s.size)) w1 r1
  rw [hXl] at HSum
  have HEnc := fun w1 => enc_any C I t O s w1
  rw [if_pos hm] at HEnc
  have HPre := fun (w1 : World) (a2 : Option Addr) (c2 : Nat) (r1 : RowB w1 a c xs) (r2 : RowB w1 a2 c2 (recL C I t O s)) => hasPrefix_any a a2 c c2 xs (recL C I t O s) w1 r1 r2
  rw [decide_eq_true f9, decide_eq_true f10] at HPre
  have hcl := crcF_lt (xs.take (13 + s.size))
  have hL300 : (recL C I t O s).length ≤ xs.length := f9
  obtain ⟨b, off, rfl, hb, hcell⟩ := ha.bytes (by omega)
  have c9 := hcell 9 (by omega)
  rw [f6] at c9
  have hsub := fun (w1 : World) (r1 : RowB w1 (some ⟨b, off, none⟩) c xs) => rowB_sub r1 13 s.size (by omega)
  rw [f7] at hsub
  have hstr : ∀ w1, RowB w1 (some ⟨b, off, none⟩) c xs → (convert 25 9 (.slice (some ⟨b, off + 13, none⟩) s.size (c - 13))).run Try.prog w1 = .ok (.string s) w1 := fun w1 r1 => by
    have h := run_str (hsub w1 r1)
    have e1 : s.data.toList.length = s.size := by simp
    have e2 : (⟨s.data.toList.toArray⟩ : ByteArray) = s := by cases s; simp
    rw [e1, e2] at h
    exact h
  have G12 := hid G12; have G13 := hid G13; have G0 := hid G0; have G8 := hid G8; have G10 := hid G10
  have HSum := hid HSum; have HEnc := hid HEnc; have HPre := hid HPre; have HStr := hid hstr
  have hrX := rowB_take ha (13 + s.size)
  have HX := hid (fun w1 (hb : Below w.heap.size w w1) => Row.mono hrX hb)
  have HR := hid (fun w1 (hb : Below w.heap.size w w1) => Row.mono ha hb)
  have hC13 : ¬ c = 13 := by omega
  have hc17 : 17 + s.size ≤ c := by omega
  clear f1 f2 f3 f4 f5 f6 f7 f9 f10 hsub hstr hrX ha hXl hcell hm hx
  generalize crcF (xs.take (13 + s.size)) = cr at *
  generalize recL C I t O s = L at *
  unfold recV at *
  have K0 : Blk (w.alloc (.cells #[.int .i64 0, .int .i64 0, .bool false, .int .i64 0, .string ⟨#[]⟩] 23)) w.heap.size 23 [.int .i64 0, .int .i64 0, .bool false, .int .i64 0, .string ⟨#[]⟩] := heap_alloc_new w _
  have B0 : Below w.heap.size w (w.alloc (.cells #[.int .i64 0, .int .i64 0, .bool false, .int .i64 0, .string ⟨#[]⟩] 23)) := (Below.refl _ w).alloc (Nat.le_refl _) _
  have ew1 : IntKind.i64.wrap (13 + (s.size : Int)) = 13 + (s.size : Int) := IntWalk.i64_in _ (by omega)
  have ecr : IntKind.i64.wrap (cr : Int) = cr := IntWalk.i64_in _ (by omega)
  go_enter Try.func14, Try.ntmps14
  go_wp2_with (first
    | (go_at_call_of 32 (Value.int IntKind.i64 12); refine (G12.out _ (HR.out _ B0)).mono ?_; rintro e w4 ⟨rfl, rfl⟩)
    | (go_at_call_of 32 (Value.int IntKind.i64 4); refine (G13.out _ (HR.out _ B0)).mono ?_; rintro e w4 ⟨rfl, rfl⟩)
    | (go_at_call 27; refine (HSum.out _ (HX.out _ B0)).mono ?_; rintro e w5 ⟨rfl, b5⟩))
  have hB5 := kept_trans B0 b5
  have K5 := Blk.mono K0 b5
  have hb5 : b < w5.heap.size := Nat.lt_of_lt_of_le hb hB5.size
  have c95 := (hB5.cell (p := ⟨b, off + 9, none⟩) hb).trans c9
  have SP : ∀ w', Below w5.heap.size w5 w' → w'.cell? ⟨b, off + 9, none⟩ = some (.int .u8 (tB t : Nat)) ∧ (convert 25 9 (.slice (some ⟨b, off + 13, none⟩) s.size (c - 13))).run Try.prog w' = .ok (.string s) w' ∧ Below w5.heap.size w5 w' := fun w' hb' =>
    ⟨(hb'.cell (p := ⟨b, off + 9, none⟩) hb5).trans c95, HStr.out _ (HR.out _ (kept_trans hB5 hb')), hb'⟩
  have hS0 := SP _ (Below.refl _ w5).drew
  have etb : (((tB t : Nat) : Int) == 1) = t := by cases t <;> rfl
  have i9 : (9 : Int) < (xs.length : Int) := by omega
  have g2 : (13 : Int) + (s.size : Int) ≤ (c : Int) := by omega
  have g3 : 0 ≤ (13 : Int) + (s.size : Int) := by omega
  have g4 : (13 : Int) ≤ (13 : Int) + (s.size : Int) := by omega
  have g5 : ((13 : Int) + (s.size : Int)).toNat = 13 + s.size := by omega
  clear b5 K0 B0 c9 c95
  refine wp_region_held_drew (S := fun w' => w'.cell? ⟨b, off + 9, none⟩ = some (.int .u8 (tB t : Nat)) ∧ (convert 25 9 (.slice (some ⟨b, off + 13, none⟩) s.size (c - 13))).run Try.prog w' = .ok (.string s) w' ∧ Below w5.heap.size w5 w') (by kernel_rfl) hS0 (fun hS_0 => ?_)
  refine takeR (i := 0) (v := .slice (some ⟨b, off, none⟩) xs.length c) rfl rfl (by kernel_rfl) (by kernel_rfl) (by kernel_rfl) (fun _ _ _ h => h) (Or.inl ⟨Eq.refl true, fun w1 hSw => ?_⟩) hS_0 ?_
  · first | rfl | (clear hSw; go_simp; done) | (clear hSw; go_simp; rfl)
  (try simp only [Act.put, List.setIfInBounds_toArray, List.set_cons_zero, List.set_cons_succ])
  refine takeR (i := 1) (v := .pointer (some ⟨b, off + 9, none⟩)) rfl rfl (by kernel_rfl) (by kernel_rfl) (by kernel_rfl) (fun _ _ _ h => h) (Or.inl ⟨Eq.refl true, fun w1 hSw => ?_⟩) hS_0 ?_
  · first | rfl | (clear hSw; go_simp; done) | (clear hSw; go_simp; rfl)
  (try simp only [Act.put, List.setIfInBounds_toArray, List.set_cons_zero, List.set_cons_succ])
  refine takeR (i := 2) (v := .int .u8 (tB t : Nat)) rfl rfl (by kernel_rfl) (by kernel_rfl) (by kernel_rfl) (fun _ _ _ h => h) (Or.inl ⟨Eq.refl true, fun w1 hSw => ?_⟩) hS_0 ?_
  · (obtain ⟨q1, q2, _⟩ := hSw; go_simp; try rfl)
  (try simp only [Act.put, List.setIfInBounds_toArray, List.set_cons_zero, List.set_cons_succ])
  refine takeR (i := 3) (v := .bool t) rfl rfl (by kernel_rfl) (by kernel_rfl) (by kernel_rfl) (fun _ _ _ h => h) (Or.inl ⟨Eq.refl true, fun w1 hSw => ?_⟩) hS_0 ?_
  · first | rfl | (clear hSw; go_simp; done) | (clear hSw; go_simp; rfl)
  (try simp only [Act.put, List.setIfInBounds_toArray, List.set_cons_zero, List.set_cons_succ])
  refine takeR (i := 4) (v := .slice (some ⟨b, off, none⟩) xs.length c) rfl rfl (by kernel_rfl) (by kernel_rfl) (by kernel_rfl) (fun _ _ _ h => h) (Or.inl ⟨Eq.refl true, fun w1 hSw => ?_⟩) hS_0 ?_
  · first | rfl | (clear hSw; go_simp; done) | (clear hSw; go_simp; rfl)
  (try simp only [Act.put, List.setIfInBounds_toArray, List.set_cons_zero, List.set_cons_succ])
  refine takeR (i := 5) (v := .int .i64 (13 + (s.size : Int))) rfl rfl (by kernel_rfl) (by kernel_rfl) (by kernel_rfl) (fun _ _ _ h => h) (Or.inl ⟨Eq.refl true, fun w1 hSw => ?_⟩) hS_0 ?_
  · first | rfl | (clear hSw; go_simp; done) | (clear hSw; go_simp; rfl)
  (try simp only [Act.put, List.setIfInBounds_toArray, List.set_cons_zero, List.set_cons_succ])
  refine takeR (i := 6) (v := .slice (some ⟨b, off + 13, none⟩) s.size (c - 13)) rfl rfl (by kernel_rfl) (by kernel_rfl) (by kernel_rfl) (fun _ _ _ h => h) (Or.inl ⟨Eq.refl true, fun w1 hSw => ?_⟩) hS_0 ?_
  · first | rfl | (clear hSw; go_simp; done) | (clear hSw; go_simp; rfl)
  (try simp only [Act.put, List.setIfInBounds_toArray, List.set_cons_zero, List.set_cons_succ])
  refine takeR (i := 7) (v := .string s) rfl rfl (by kernel_rfl) (by kernel_rfl) (by kernel_rfl) (fun _ _ _ h => h) (Or.inl ⟨Eq.refl true, fun w1 hSw => ?_⟩) hS_0 ?_
  · (obtain ⟨q1, q2, _⟩ := hSw; go_simp; try rfl)
  (try simp only [Act.put, List.setIfInBounds_toArray, List.set_cons_zero, List.set_cons_succ])
  refine takeR (i := 8) (v := .agg #[.int .i64 0, .int .i64 0, .bool t, .int .i64 0, .string s]) rfl rfl (by kernel_rfl) (by kernel_rfl) (by kernel_rfl) (fun _ _ _ h => h) (Or.inl ⟨Eq.refl true, fun w1 hSw => ?_⟩) hS_0 ?_
  · first | rfl | (clear hSw; go_simp; done) | (clear hSw; go_simp; rfl)
  (try simp only [Act.put, List.setIfInBounds_toArray, List.set_cons_zero, List.set_cons_succ])
  refine wpAnyH_ready (rs := [9]) (by kernel_rfl) (by simp) (AllReadyH.cons rfl (fun K hK => ?_) AllReadyH.nil)
  go_simp
  refine hK.out _ _ ?_ (fun hS_1 => ?_)
  · exact SP _ ((Below.refl _ _).drew.alloc (Nat.le_refl _) _)
  clear hK K
  refine wpAnyH_ready (rs := [10]) (by kernel_rfl) (by simp) (AllReadyH.cons rfl (fun K hK => ?_) AllReadyH.nil)
  go_simp
  refine hK.out _ _ ?_ (fun hS_2 => ?_)
  · exact SP _ (by first | exact (Below.refl _ _).drew.alloc (Nat.le_refl _) _ | exact ((Below.refl _ _).alloc (Nat.le_refl _) _).drew | exact bel5 ((Below.refl _ _).drew.alloc (Nat.le_refl _) _) (Nat.le_refl _) _ _ _ _ _)
  clear hK K
  refine wpAnyH_done (by kernel_rfl) ?_ _
  have KS : Blk (w5.alloc (.cells #[.int .i64 0, .int .i64 0, .bool t, .int .i64 0, .string s] 23)).drew w5.heap.size 23 [.int .i64 0, .int .i64 0, .bool t, .int .i64 0, .string s] := Blk.drew (heap_alloc_new w5 _)
  have K6 := Blk.drew (Blk.mono K5 ((Below.refl w5.heap.size w5).alloc (Nat.le_refl _) (.cells #[.int .i64 0, .int .i64 0, .bool t, .int .i64 0, .string s] 23)))
  have B6 : Below w.heap.size w (w5.alloc (.cells #[.int .i64 0, .int .i64 0, .bool t, .int .i64 0, .string s] 23)).drew := (hB5.alloc hB5.size _).drew
  have hlt0 : w.heap.size < w5.heap.size := K5.lt
  clear hS0 hS_0 hS_1 hS_2 SP K5 etb g2 g3 g4 g5 ew1 ecr
  generalize (w5.alloc (.cells #[.int .i64 0, .int .i64 0, .bool t, .int .i64 0, .string s] 23)).drew = w6 at *
  have k0 : w6.cell? ⟨w5.heap.size, 0, none⟩ = some (.int .i64 0) := Blk.cell KS (i := 0) (by simp)
  have fz0 : w6.frozen? ⟨w5.heap.size, 0, none⟩ = false := Blk.frozen KS 0
  have HK := hid (Blk.set KS 0 (.int .i64 (C : Nat)))
  have HZ := hid (Blk.setOtherX K6 (show w.heap.size ≠ w5.heap.size by omega) 0 (.int .i64 (C : Nat)))
  have HBl := hid (B6.setCell hB5.size (p := ⟨w5.heap.size, 0, none⟩) (.int .i64 (C : Nat)))
  have HRw := hid (HR.out _ B6)
  clear KS K6 B6
  go_wp2_with (go_at_call_of 32 (Value.int IntKind.i64 0); refine (G0.out _ HRw.out).mono ?_; rintro e w8 ⟨rfl, rfl⟩)
  have KS := HK.out; have K6 := HZ.out; have B6 := HBl.out
  clear HK HZ HBl HRw k0 fz0
  generalize World.setCell _ _ _ = w7 at *
  have k1 : w7.cell? ⟨w5.heap.size, 1, none⟩ = some (.int .i64 0) := Blk.cell KS (i := 1) (by simp)
  have fz1 : w7.frozen? ⟨w5.heap.size, 1, none⟩ = false := Blk.frozen KS 1
  have HK := hid (Blk.set KS 1 (.int .i64 (I : Nat)))
  have HZ := hid (Blk.setOtherX K6 (show w.heap.size ≠ w5.heap.size by omega) 1 (.int .i64 (I : Nat)))
  have HBl := hid (B6.setCell hB5.size (p := ⟨w5.heap.size, 1, none⟩) (.int .i64 (I : Nat)))
  have HRw := hid (HR.out _ B6)
  clear KS K6 B6
  go_wp2_with (go_at_call_of 32 (Value.int IntKind.i64 1); refine (G8.out _ HRw.out).mono ?_; rintro e w8 ⟨rfl, rfl⟩)
  have KS := HK.out; have K6 := HZ.out; have B6 := HBl.out
  clear HK HZ HBl HRw k1 fz1
  generalize World.setCell _ _ _ = w8 at *
  have zk : ∀ i (hi : i < 5), True := fun _ _ => trivial
  have k3 : w8.cell? ⟨w5.heap.size, 3, none⟩ = some (.int .i64 0) := Blk.cell KS (i := 3) (by simp)
  have fz3 : w8.frozen? ⟨w5.heap.size, 3, none⟩ = false := Blk.frozen KS 3
  have KS9 := Blk.set KS 3 (.int .i64 (O : Nat))
  have K69 := Blk.setOtherX K6 (show w.heap.size ≠ w5.heap.size by omega) 3 (.int .i64 (O : Nat))
  have B69 := B6.setCell hB5.size (p := ⟨w5.heap.size, 3, none⟩) (.int .i64 (O : Nat))
  have HRw := hid (HR.out _ B6)
  have m0 : (w8.setCell ⟨w5.heap.size, 3, none⟩ (.int .i64 (O : Nat))).cell? ⟨w5.heap.size, 0, none⟩ = some (.int .i64 (C : Nat)) := Blk.cell KS9 (i := 0) (by simp)
  have m1 : (w8.setCell ⟨w5.heap.size, 3, none⟩ (.int .i64 (O : Nat))).cell? ⟨w5.heap.size, 1, none⟩ = some (.int .i64 (I : Nat)) := Blk.cell KS9 (i := 1) (by simp)
  have m2 : (w8.setCell ⟨w5.heap.size, 3, none⟩ (.int .i64 (O : Nat))).cell? ⟨w5.heap.size, 2, none⟩ = some (.bool t) := Blk.cell KS9 (i := 2) (by simp)
  have m3 : (w8.setCell ⟨w5.heap.size, 3, none⟩ (.int .i64 (O : Nat))).cell? ⟨w5.heap.size, 3, none⟩ = some (.int .i64 (O : Nat)) := Blk.cell KS9 (i := 3) (by simp)
  have m4 : (w8.setCell ⟨w5.heap.size, 3, none⟩ (.int .i64 (O : Nat))).cell? ⟨w5.heap.size, 4, none⟩ = some (.string s) := Blk.cell KS9 (i := 4) (by simp)
  have HKS := hid KS9; have HK6 := hid K69; have HB6 := hid B69
  clear KS K6 B6 KS9 K69 B69 zk
  go_wp2_with (go_at_call_of 32 (Value.int IntKind.i64 10); refine (G10.out _ HRw.out).mono ?_; rintro e w9 ⟨rfl, rfl⟩)
  have KS := HKS.out; have K6 := HK6.out; have B6 := HB6.out
  clear k3 fz3 m0 m1 m2 m3 m4 HKS HK6 HB6 HRw
  generalize World.setCell _ _ _ = w9 at *
  refine (HEnc.out w9).mono ?_
  rintro en w10 ⟨a2, c2, rfl, o2, b2⟩
  have KS10 := KS.mono b2
  have K10 := K6.mono b2
  have B10 := kept_trans B6 b2
  have HP10 := hid (HPre.out w10 a2 c2 (HR.out _ B10) o2.row)
  have n0 : w10.cell? ⟨w5.heap.size, 0, none⟩ = some (.int .i64 (C : Nat)) := Blk.cell KS10 (i := 0) (by simp)
  have z0 : w10.cell? ⟨w.heap.size, 0, none⟩ = some (.int .i64 0) := Blk.cell K10 (i := 0) (by simp)
  have zf0 : w10.frozen? ⟨w.heap.size, 0, none⟩ = false := Blk.frozen K10 0
  have n1 : w10.cell? ⟨w5.heap.size, 1, none⟩ = some (.int .i64 (I : Nat)) := Blk.cell KS10 (i := 1) (by simp)
  have z1 : w10.cell? ⟨w.heap.size, 1, none⟩ = some (.int .i64 0) := Blk.cell K10 (i := 1) (by simp)
  have zf1 : w10.frozen? ⟨w.heap.size, 1, none⟩ = false := Blk.frozen K10 1
  have n2 : w10.cell? ⟨w5.heap.size, 2, none⟩ = some (.bool t) := Blk.cell KS10 (i := 2) (by simp)
  have z2 : w10.cell? ⟨w.heap.size, 2, none⟩ = some (.bool false) := Blk.cell K10 (i := 2) (by simp)
  have zf2 : w10.frozen? ⟨w.heap.size, 2, none⟩ = false := Blk.frozen K10 2
  have n3 : w10.cell? ⟨w5.heap.size, 3, none⟩ = some (.int .i64 (O : Nat)) := Blk.cell KS10 (i := 3) (by simp)
  have z3 : w10.cell? ⟨w.heap.size, 3, none⟩ = some (.int .i64 0) := Blk.cell K10 (i := 3) (by simp)
  have zf3 : w10.frozen? ⟨w.heap.size, 3, none⟩ = false := Blk.frozen K10 3
  have n4 : w10.cell? ⟨w5.heap.size, 4, none⟩ = some (.string s) := Blk.cell KS10 (i := 4) (by simp)
  have z4 : w10.cell? ⟨w.heap.size, 4, none⟩ = some (.string ⟨#[]⟩) := Blk.cell K10 (i := 4) (by simp)
  have zf4 : w10.frozen? ⟨w.heap.size, 4, none⟩ = false := Blk.frozen K10 4
  have HSet := hid (set5 K10 rfl (.int .i64 (C : Nat)) (.int .i64 (I : Nat)) (.bool t) (.int .i64 (O : Nat)) (.string s))
  have HBel := hid (bel5 B10 (Nat.le_refl _) (.int .i64 (C : Nat)) (.int .i64 (I : Nat)) (.bool t) (.int .i64 (O : Nat)) (.string s))
  clear KS K6 B6 KS10 K10 B10 o2 b2 HPre HEnc
  go_wp2_with (go_at_call 33; refine HP10.out.mono ?_; rintro e w11 ⟨rfl, rfl⟩; rw [Bool.and_self])
  refine bodyPost_ret (results_rec3 rfl rfl HSet.out rfl) rfl ⟨rfl, HBel.out⟩

end Go.Proofs.Ytngfpndikjbioaa
