/- Merged: TxnI TxnJ TxnK TxnL. -/
import Derived.Test.YtcackliabemecaaDoorTxnMb
import Derived.Lib.SlBytesConst
/- The document's example of a transaction, pure. -/
namespace Go.Proofs.YtcackliabemecaaDoor
open Go.RowKit
set_option linter.unusedSimpArgs false
set_option linter.unusedVariables false
set_option maxRecDepth 100000

def exS1 : PtM := ⟨3, [97, 98]⟩
def exS2 : PtM := ⟨4, [120]⟩
theorem exS_ok : encOk [exS1, exS2] = true := by decide +kernel
theorem exS_len : (encL [exS1, exS2]).length = 24 := by rw [encL_len8 exS_ok, encB_eq exS_ok]; rfl
theorem app3E : appE mem0 512 512 [exS1, exS2] = 0 := by
  unfold appE encE
  rw [if_pos exS_ok, if_pos rfl, logR0, exS_len]; rfl
def mem3 : MemM := appM mem0 512 512 [exS1, exS2]
theorem log3 : LogOk 512 512 mem3 := logOk_app log0 _
theorem logR3 : logR mem3.V 512 512 = ([[exS1, exS2]], 24) := by
  unfold mem3
  rw [logR_app log0, if_pos app3E, logR0, exS_len]; rfl
def mem4 : MemM := redoM mem3 512 512
theorem mem3_len : mem3.V.length = 1024 := by unfold mem3; rw [appM_len, mem0_len]
theorem mem4_len : mem4.V.length = 1024 := by unfold mem4; rw [redoM_len, mem3_len]
theorem mem4_D : mem4.D = mem4.V := redoM_D (appM_ok mem0_ok _ _ _) (appM_D mem0_ok mem0_D _ _ _) _ _
theorem two_splice {V : List UInt8} (h : 5 ≤ V.length) : ((splice (splice V 3 [97, 98]) 4 [120]).drop 3).take 2 = [97, 120] := by
  match V, h with
  | a :: b :: c :: d :: e :: r, _ => rfl
theorem two_st {V : List UInt8} (h1 : 3 + ([97, 98] : List UInt8).length ≤ V.length) (h2 : 4 + ([120] : List UInt8).length ≤ (splice V 3 [97, 98]).length) : [exS1, exS2].foldl stV V = splice (splice V 3 [97, 98]) 4 [120] := by
  have z1 : stV V exS1 = splice V 3 [97, 98] := app_V (q := 3) (b := [97, 98]) h1
  rw [List.foldl_cons, z1]
  exact app_V (q := 4) (b := [120]) h2
theorem mem4_eq : redoM (appM mem0 512 512 [exS1, exS2]) 512 512 = mem4 := by unfold mem4 mem3; rfl
attribute [irreducible] mem3
theorem last4 : (mem4.D.drop 3).take 2 = [97, 120] := by
  rw [mem4_D]
  unfold mem4 redoM
  rw [show setM (writeM mem3 (logR mem3.V 512 512).1.flatten) 512 0 = setM (writeM mem3 (logR mem3.V 512 512).1.flatten) 512 ((0 : Nat) : Int) from rfl, setM_V (by rw [writeM_len, mem3_len]; omega)]
  have h1 : (3 : Nat) + ([97, 98] : List UInt8).length ≤ mem3.V.length := by rw [mem3_len]; show 3 + 2 ≤ _; omega
  have l1 : (splice mem3.V 3 [97, 98]).length = 1024 := by rw [length_splice _ _ _ h1, mem3_len]
  have h2 : (4 : Nat) + ([120] : List UInt8).length ≤ (splice mem3.V 3 [97, 98]).length := by rw [l1]; show 4 + 1 ≤ _; omega
  have e : (writeM mem3 (logR mem3.V 512 512).1.flatten).V = splice (splice mem3.V 3 [97, 98]) 4 [120] := by
    rw [writeM_V, logR3, List.flatten_cons, List.flatten_nil, List.append_nil]
    exact two_st h1 h2
  rw [e]
  have hl : (splice (splice mem3.V 3 [97, 98]) 4 [120]).length = 1024 := by rw [length_splice _ _ _ h2, l1]
  rw [sl_splice (by rw [le_length, hl]; omega) (.inl (by omega)) (by rw [hl]; omega)]
  exact two_splice (by rw [mem3_len]; omega)
theorem in4 : inM mem4 3 2 = true := by rw [show (2 : Int) = ((2 : Nat) : Int) from rfl, inM_iff, mem4_len]; omega
theorem in0 : inM mem0 3 2 = true := by rw [show (2 : Int) = ((2 : Nat) : Int) from rfl, inM_iff, mem0_len]; omega
theorem view0 : (mem0.V.drop 3).take 2 = [0, 0] := by rw [mem0_V, List.drop_replicate, List.take_replicate]; rfl
theorem ovl0 : ovl 3 [0, 0] [exS1, exS2] = [97, 120] := by decide +kernel
theorem ok1 : okT mem0 [] 3 ([97, 98] : List UInt8).length = true := by
  unfold okT; rw [decide_eq_true_iff, mem0_len]; decide
theorem ok2 : okT mem0 [exS1] 4 ([120] : List UInt8).length = true := by
  unfold okT; rw [decide_eq_true_iff, mem0_len]; decide
theorem put1 : putT mem0 [] 3 [97, 98] = [exS1] := by unfold putT; rw [if_pos ok1]; rfl
theorem put2 : putT mem0 [exS1] 4 [120] = [exS1, exS2] := by unfold putT; rw [if_pos ok2]; rfl
theorem err1 : errT mem0 [] 3 2 = 0 := if_pos ok1
theorem err2 : errT mem0 [exS1] 4 1 = 0 := if_pos ok2
theorem comE0 : comE mem0 [exS1, exS2] = 0 := by unfold comE; rw [if_neg (by decide), app3E]
theorem comM0 : comM mem0 [exS1, exS2] = mem4 := by unfold comM; rw [if_neg (by decide), if_pos app3E, mem4_eq]
theorem comP0 : comP mem0 [exS1, exS2] = [] := by unfold comP; rw [if_neg (by decide), if_pos app3E]
theorem txS : TxOk mem0 [exS1, exS2] := by
  have z := ((TxOk.nil mem0).put 3 [97, 98])
  rw [put1] at z
  have y := z.put 4 [120]
  rw [put2] at y
  exact y
attribute [irreducible] mem4
end Go.Proofs.YtcackliabemecaaDoor
/- The document's example of a transaction. -/
namespace Go.Proofs.YtcackliabemecaaDoor
open Go.RowKit
set_option linter.unusedSimpArgs false
set_option linter.unusedVariables false
set_option maxRecDepth 100000

/-- a transaction, its log, its memory, its patches; X a block that stays -/
structure TxP (w : World) (B pp tg g lg v d p dt gr : Nat) (ta : Option Addr) (tc : Nat) (M : MemM) (P : List PtM) : Prop where
  l : LogP w lg g v d p 512 512 M
  t : Blk w tg 61 (txC g lg ta P.length tc)
  o : OwnPt w B ta tc P
  q : Blk w pp 32 [.pointer (some ⟨g, 0, none⟩), .pointer (some ⟨lg, 0, none⟩), .pointer (some ⟨tg, 0, none⟩), .pointer (some ⟨gr, 0, none⟩), .pointer (some ⟨dt, 0, none⟩)]
  b : B ≤ w.heap.size
  n : g < lg ∧ v < lg ∧ d < lg ∧ p < lg ∧ lg < tg ∧ tg < pp ∧ pp < B
theorem TxP.mono {w w' : World} {B pp tg g lg v d p dt gr tc : Nat} {ta : Option Addr} {M : MemM} {P : List PtM} (h : TxP w B pp tg g lg v d p dt gr ta tc M P) (b : Below w.heap.size w w') : TxP w' B pp tg g lg v d p dt gr ta tc M P :=
  ⟨h.l.mono b, h.t.mono b, Own.mono h.o b, h.q.mono b, Nat.le_trans h.b b.size, h.n⟩
theorem TxP.cells {w : World} {B pp tg g lg v d p dt gr tc : Nat} {ta : Option Addr} {M : MemM} {P : List PtM} (h : TxP w B pp tg g lg v d p dt gr ta tc M P) : w.cell? ⟨pp, 0, none⟩ = some (.pointer (some ⟨g, 0, none⟩)) ∧ w.cell? ⟨pp, 2, none⟩ = some (.pointer (some ⟨tg, 0, none⟩)) :=
  ⟨h.q.cell (i := 0) (by show 0 < 5; omega), h.q.cell (i := 2) (by show 2 < 5; omega)⟩
theorem TxP.store {w : World} {B pp tg g lg v d p dt gr tc : Nat} {ta : Option Addr} {M : MemM} {P : List PtM} (h : TxP w B pp tg g lg v d p dt gr ta tc M P) (hM : M.V.length ≤ 1048576) (hP : P.length ≤ 64) {a : Option Addr} {c : Nat} {xs : List UInt8} (h0 : RowB w a c xs) (hx : xs.length ≤ 1000000) {at_ : Int} (ha : i64B at_) :
    Calls Tryd.prog 6 #[.pointer (some ⟨tg, 0, none⟩), .int .i64 at_, .slice a xs.length c] w fun e w' => e = .returned (.int .i64 (errT M P at_ xs.length)) ∧ ∃ ta tc, TxP w' B pp tg g lg v d p dt gr ta tc M (putT M P at_ xs) ∧ Turns (fun k => k = tg ∨ B ≤ k) w w' := by
  obtain ⟨n1, n2, n3, n4, n5, n6, n7⟩ := h.n
  refine (storeT_any h.l.m h.t h.o h.b (by omega) hM h0 ha hP (by omega)).mono ?_
  rintro e w' ⟨rfl, ta2, tc2, k1, k2, t⟩
  exact ⟨rfl, ta2, tc2, ⟨logP_turns h.l t (by omega) (by omega) (by omega) (by omega) (by omega), k1, k2, t.blk h.q (by omega), Nat.le_trans h.b t.size, h.n⟩, t⟩
theorem TxP.commit {w : World} {B pp tg g lg v d p dt gr tc : Nat} {ta : Option Addr} {M : MemM} {P : List PtM} (h : TxP w B pp tg g lg v d p dt gr ta tc M P) (hok : LogOk 512 512 M) (hx : TxOk M P) :
    Calls Tryd.prog 12 #[.pointer (some ⟨tg, 0, none⟩)] w fun e w' => e = .returned (.int .i64 (comE M P)) ∧ ∃ ta tc, TxP w' B pp tg g lg v d p dt gr ta tc (comM M P) (comP M P) ∧ Turns (fun k => XM v d p k ∨ k = tg) w w' := by
  obtain ⟨n1, n2, n3, n4, n5, n6, n7⟩ := h.n
  refine (commitT_any (B := B) h.l hok h.t h.o.row (by omega) (by omega) (by omega) (by omega) (by omega) hx.n (hx.pts hok.v).1 h.o ⟨by omega, by omega, by omega, by omega⟩).mono ?_
  rintro e w' ⟨rfl, ta2, tc2, k0, k1, k2, t⟩
  exact ⟨rfl, ta2, tc2, ⟨k0, k1, k2, t.blk h.q (by unfold XM; omega), Nat.le_trans h.b t.size, h.n⟩, t⟩
theorem beginT (w : World) : Calls Tryd.prog 5 #[] w fun e w' => ∃ pp tg g lg v d p dt gr, e = .returned (.pointer (some ⟨pp, 0, none⟩)) ∧ TxP w' w'.heap.size pp tg g lg v d p dt gr none 0 mem0 [] ∧ (w.heap.size ≤ g ∧ w.heap.size ≤ v ∧ w.heap.size ≤ d ∧ w.heap.size ≤ p) ∧ Below w.heap.size w w' := by
  refine (beginT_any w).mono ?_
  rintro e w1 ⟨⟨g, v, d, p, lg, tg, gr, vr, dr, ar, lr, dt, pp⟩, rfl, l1, k1, m1, r1, d1, p1, o1, b1⟩
  obtain ⟨o1, o2, o3, o4, o5, o6, o7, o8, o9, o10, o11, o12⟩ := o1
  dsimp only at o1 o2 o3 o4 o5 o6 o7 o8 o9 o10 o11 o12
  exact ⟨pp, tg, g, lg, v, d, p, dt, gr, rfl, ⟨l1, k1, Own.nil _ _ _ _, p1, Nat.le_refl _, ⟨by omega, by omega, by omega, by omega, by omega, by omega, by omega⟩⟩, ⟨by omega, by omega, by omega, by omega⟩, b1⟩
end Go.Proofs.YtcackliabemecaaDoor
/- lives: the document's example of a transaction. -/
namespace Go.Proofs.YtcackliabemecaaDoor
open Go.RowKit
set_option linter.unusedSimpArgs false
set_option linter.unusedVariables false
set_option maxRecDepth 100000

theorem row_newF (w : World) (L : List Value) (e : TypeId) (fz : Nat × Nat) (hl : L.length ≤ 9223372036854775807) : Row (w.alloc (.cells L.toArray e fz)) 1 (some ⟨w.heap.size, 0, none⟩) L.length L.length L := by
  refine ⟨by simp, Nat.le_refl _, by unfold maxLen; omega, fun h => by (cases h), fun _ => ⟨w.heap.size, 0, rfl, by simp, fun j u hu => ?_⟩⟩
  have hh := heap_alloc_new w (.cells L.toArray e fz)
  unfold World.cell?
  rw [show (⟨w.heap.size, 0 + j, none⟩ : Addr).block = w.heap.size from rfl, hh]
  simpa using hu
section
variable {w : World} {B pp tg g lg v d p dt gr tc : Nat} {ta : Option Addr}
theorem storeX1 (h : TxP w B pp tg g lg v d p dt gr ta tc mem0 []) : Calls Tryd.prog 6 #[.pointer (some ⟨tg, 0, none⟩), .int .i64 3, .slice (some ⟨w.heap.size, 0, none⟩) 2 2] (w.alloc (.cells #[.int .u8 97, .int .u8 98] 5 (2, 3))) fun e w' => e = .returned (.int .i64 0) ∧ ∃ ta tc, TxP w' B pp tg g lg v d p dt gr ta tc mem0 [exS1] ∧ Turns (fun k => k = tg ∨ B ≤ k) w w' := by
  have hb := albO w (.cells #[.int .u8 97, .int .u8 98] 5 (2, 3))
  have r : RowB (w.alloc (.cells #[.int .u8 97, .int .u8 98] 5 (2, 3))) (some ⟨w.heap.size, 0, none⟩) 2 [97, 98] := row_newF w ([97, 98].map fun x : Int => Value.int .u8 x) 5 _ (by simp)
  refine ((h.mono hb).store (by rw [mem0_len]; omega) (by decide) r (by decide) (at_ := 3) (by unfold i64B; omega)).mono ?_
  rintro e w' ⟨rfl, ta, tc, q, t⟩
  rw [put1] at q
  exact ⟨by rw [show ([97, 98] : List UInt8).length = 2 from rfl, err1], ta, tc, q, (Turns.of_below hb).trans t⟩
theorem storeX2 (h : TxP w B pp tg g lg v d p dt gr ta tc mem0 [exS1]) : Calls Tryd.prog 6 #[.pointer (some ⟨tg, 0, none⟩), .int .i64 4, .slice (some ⟨w.heap.size, 0, none⟩) 1 1] (w.alloc (.cells #[.int .u8 120] 5 (1, 2))) fun e w' => e = .returned (.int .i64 0) ∧ ∃ ta tc, TxP w' B pp tg g lg v d p dt gr ta tc mem0 [exS1, exS2] ∧ Turns (fun k => k = tg ∨ B ≤ k) w w' := by
  have hb := albO w (.cells #[.int .u8 120] 5 (1, 2))
  have r : RowB (w.alloc (.cells #[.int .u8 120] 5 (1, 2))) (some ⟨w.heap.size, 0, none⟩) 1 [120] := row_newF w ([120].map fun x : Int => Value.int .u8 x) 5 _ (by simp)
  refine ((h.mono hb).store (by rw [mem0_len]; omega) (by decide) r (by decide) (at_ := 4) (by unfold i64B; omega)).mono ?_
  rintro e w' ⟨rfl, ta, tc, q, t⟩
  rw [put2] at q
  exact ⟨by rw [show ([120] : List UInt8).length = 1 from rfl, err2], ta, tc, q, (Turns.of_below hb).trans t⟩
theorem loadX (h : TxP w B pp tg g lg v d p dt gr ta tc mem0 [exS1, exS2]) : Calls Tryd.prog 26 #[.pointer (some ⟨tg, 0, none⟩), .int .i64 3, .int .i64 2] w fun e w' => ∃ a c, e = .returned (.tuple #[.slice a 2 c, .int .i64 0]) ∧ OwnB w' w.heap.size a c [97, 120] ∧ Below w.heap.size w w' := by
  refine (loadT_yes h.l.m h.t h.o.row txS (by rw [mem0_len]; omega) 3 2 (by unfold i64B; omega) (by unfold i64B; omega) in0 (b0 := [0, 0]) view0 rfl).mono ?_
  rintro e w' ⟨a, c, rfl, o, b⟩
  rw [ovl0] at o
  exact ⟨a, c, rfl, o, b⟩
theorem mloadX (h : TxP w B pp tg g lg v d p dt gr ta tc mem0 [exS1, exS2]) : Calls Tryd.prog 11 #[.pointer (some ⟨g, 0, none⟩), .int .i64 3, .int .i64 2] w fun e w' => ∃ a c, e = .returned (.tuple #[.slice a 2 c, .int .i64 0]) ∧ OwnB w' w.heap.size a c [0, 0] ∧ Below w.heap.size w w' := by
  refine (load_yes h.l.m 3 2 (by unfold i64B; omega) (by unfold i64B; omega) in0 (b0 := [0, 0]) view0 rfl).mono ?_
  rintro e w' ⟨a, c, rfl, o, b⟩
  exact ⟨a, c, rfl, o, b⟩
theorem commitX (h : TxP w B pp tg g lg v d p dt gr ta tc mem0 [exS1, exS2]) : Calls Tryd.prog 12 #[.pointer (some ⟨tg, 0, none⟩)] w fun e w' => e = .returned (.int .i64 0) ∧ ∃ ta tc, TxP w' B pp tg g lg v d p dt gr ta tc mem4 [] ∧ Turns (fun k => XM v d p k ∨ k = tg) w w' := by
  refine (h.commit log0 txS).mono ?_
  rintro e w' ⟨rfl, ta, tc, q, t⟩
  rw [comM0, comP0] at q
  rw [comE0]
  exact ⟨rfl, ta, tc, q, t⟩
theorem lastsX4 (h : TxP w B pp tg g lg v d p dt gr ta tc mem4 []) : Calls Tryd.prog 13 #[.pointer (some ⟨g, 0, none⟩), .int .i64 3, .int .i64 2] w fun e w' => ∃ a c, e = .returned (.tuple #[.slice a 2 c, .int .i64 0]) ∧ RowB w' a c [97, 120] ∧ Below w.heap.size w w' := by
  refine (lasts_any h.l.m 3 2 (by omega) (by omega)).mono ?_
  intro e w' z
  unfold LoadP at z
  rw [if_pos in4] at z
  obtain ⟨a, c, rfl, o, b⟩ := z
  have hr := o.row
  rw [show ((3 : Int)).toNat = 3 from rfl, show ((2 : Int)).toNat = 2 from rfl, last4] at hr
  exact ⟨a, c, rfl, hr, b⟩
end
set_option maxHeartbeats 8000000 in
theorem lives09_any (w : World) : Calls Tryd.prog 9 #[] w fun e w' => e = .returned (.bool true) ∧ Below w.heap.size w w' := by
  have kc := fun (w : World) (C : Array Value) (n c : Nat) => Lib.run_convert_bytes_const (P := Tryd.prog) w 22 5 C n c Tryd.underlying22 Tryd.underlying5
  go_enter Tryd.func9, Tryd.ntmps9
  go_wp2_with fail
  refine (beginT w).mono ?_
  rintro e w1 ⟨pp, tg, g, lg, v, d, p, dt, gr, rfl, t1, ⟨hg, hv, hd, hp⟩, b1⟩
  have T1 := hid t1; have B1 := hid b1
  have n1 := hid t1.n
  have s1 := hid b1.size
  obtain ⟨c0, c2⟩ := t1.cells
  clear t1 b1
  go_wp2_with fail
  refine (storeX1 T1.out).mono ?_
  rintro e w2 ⟨rfl, ta2, tc2, t2, u2⟩
  have B2 := hid (B1.out.trans (u2.below (B := w.heap.size) s1.out (fun k hk => by have z := n1.out; have y := s1.out; omega)))
  have T2 := hid t2; have s12 := hid u2.size; clear c0 c2
  obtain ⟨c0, c2⟩ := t2.cells
  clear t2 u2
  go_wp2_with fail
  refine (storeX2 T2.out).mono ?_
  rintro e w3 ⟨rfl, ta3, tc3, t3, u3⟩
  have B3 := hid (B2.out.trans (u3.below (B := w.heap.size) B2.out.size (fun k hk => by have z := n1.out; have y := s1.out; omega)))
  have T3 := hid t3; have s13 := hid (Nat.le_trans s12.out u3.size); clear c0 c2
  obtain ⟨c0, c2⟩ := t3.cells
  clear t3 u3
  go_wp2_with fail
  refine (loadX T3.out).mono ?_
  rintro e w4 ⟨a4, e4, rfl, r4, b4⟩
  have T4 := hid (T3.out.mono b4); have B4 := hid (kept_trans B3.out b4); have R4 := hid r4; have s34 := hid b4.size; clear c0 c2
  obtain ⟨c0, c2⟩ := T4.out.cells
  clear r4 b4
  go_wp2_with fail
  refine (mloadX T4.out).mono ?_
  rintro e w5 ⟨a5, e5, rfl, r5, b5⟩
  have T5 := hid (T4.out.mono b5); have B5 := hid (kept_trans B4.out b5); have R4b := hid (Own.mono R4.out b5); have R5 := hid r5; clear c0 c2
  obtain ⟨c0, c2⟩ := T5.out.cells
  clear r5 b5
  go_wp2_with fail
  refine (commitX T5.out).mono ?_
  rintro e w6 ⟨rfl, ta6, tc6, t6, u6⟩
  have B6 := hid (B5.out.trans (u6.below (B := w.heap.size) B5.out.size (fun k hk => by have z := n1.out; rcases hk with (e | e | e) | e <;> omega)))
  have y3 := B3.out.size; have z1 := n1.out; have x3 : w1.heap.size ≤ w3.heap.size := s13.out; have x4 : w3.heap.size ≤ w4.heap.size := s34.out; have R4c := hid ((u6.own R4b.out (fun k hk => by rcases hk with (e | e | e) | e <;> omega)).row); have R5c := hid ((u6.own R5.out (fun k hk => by rcases hk with (e | e | e) | e <;> omega)).row)
  have T6 := hid t6; clear c0 c2
  obtain ⟨c0, c2⟩ := t6.cells
  clear t6 u6
  go_wp2_with fail
  refine (lastsX4 T6.out).mono ?_
  rintro e w7 ⟨a7, e7, rfl, r7, b7⟩
  have B7 := hid (kept_trans B6.out b7)
  have hcv4 : (convert 22 9 (.slice a4 2 e4)).run Tryd.prog w7 = .ok (.string ⟨#[97, 120]⟩) w7 := run_str (R4c.out.mono b7)
  have hcv5 : (convert 22 9 (.slice a5 2 e5)).run Tryd.prog w7 = .ok (.string ⟨#[0, 0]⟩) w7 := run_str (R5c.out.mono b7)
  have hcv7 : (convert 22 9 (.slice a7 2 e7)).run Tryd.prog w7 = .ok (.string ⟨#[97, 120]⟩) w7 := run_str r7
  clear r7 b7
  go_wp2_with fail
  go_ret
  exact ⟨rfl, B7.out⟩
end Go.Proofs.YtcackliabemecaaDoor
/- Many patches, pure (for TxnMany). -/
namespace Go.Proofs.YtcackliabemecaaDoor
open Go.RowKit
set_option linter.unusedSimpArgs false
set_option linter.unusedVariables false
set_option maxRecDepth 100000

def manyP (b : List UInt8) (i : Nat) : List PtM := (List.range (min i 64)).map fun (k : Nat) => (⟨(k : Int), b⟩ : PtM)
theorem manyP_len (b : List UInt8) (i : Nat) : (manyP b i).length = min i 64 := by unfold manyP; rw [List.length_map, List.length_range]
theorem manyP_zero (b : List UInt8) : manyP b 0 = [] := rfl
theorem manyP_get {b : List UInt8} {i k : Nat} (h : k < (manyP b i).length) : (manyP b i)[k] = ⟨(k : Int), b⟩ := by
  simp [manyP]
theorem many_ok {b : List UInt8} {i : Nat} (hb : b.length ≤ 3) (hi : i ≤ 70) : okT mem0 (manyP b i) (i : Int) b.length = decide (i < 64) := by
  unfold okT
  rw [manyP_len, mem0_len]
  by_cases h : i < 64
  · rw [decide_eq_true h, decide_eq_true]; omega
  · rw [decide_eq_false h, decide_eq_false]; omega
theorem many_put {b : List UInt8} {i : Nat} (hb : b.length ≤ 3) (hi : i ≤ 70) : putT mem0 (manyP b i) (i : Int) b = manyP b (i + 1) := by
  unfold putT
  rw [many_ok hb hi]
  by_cases h : i < 64
  · rw [decide_eq_true h, if_pos rfl]
    unfold manyP
    rw [show min i 64 = i by omega, show min (i + 1) 64 = i + 1 by omega, List.range_succ, List.map_append]
    rfl
  · rw [decide_eq_false h, if_neg (by decide)]
    unfold manyP
    rw [show min i 64 = 64 by omega, show min (i + 1) 64 = 64 by omega]
theorem many_err {b : List UInt8} {i : Nat} (hb : b.length ≤ 3) (hi : i ≤ 70) : errT mem0 (manyP b i) (i : Int) b.length = if i < 64 then 0 else 1 := by
  unfold errT
  rw [many_ok hb hi]
  by_cases h : i < 64
  · rw [decide_eq_true h, if_pos rfl, if_pos h]
  · rw [decide_eq_false h, if_neg (by decide), if_neg h]
end Go.Proofs.YtcackliabemecaaDoor
