/- The document's example of a transaction. -/
import Derived.Test.YtcackliabemecaaDoorTxnI
namespace Go.Proofs.YtcackliabemecaaDoor
open Go.RowKit
set_option linter.unusedSimpArgs false
set_option linter.unusedVariables false
set_option maxRecDepth 100000

/-- a transaction, its log, its memory, its patches; X a block that stays -/
structure TxP (w : World) (B pp tg g lg v d p dt gr : Nat) (ta : Option Addr) (tc : Nat) (M : MemM) (P : List PtM) : Prop where
  l : LogP w lg g v d p 512 512 M
  t : Blk w tg 61 (txC g lg ta P.length tc)
  o : OwnPt w B ta tc P
  q : Blk w pp 32 [.pointer (some ⟨g, 0, none⟩), .pointer (some ⟨lg, 0, none⟩), .pointer (some ⟨tg, 0, none⟩), .pointer (some ⟨gr, 0, none⟩), .pointer (some ⟨dt, 0, none⟩)]
  b : B ≤ w.heap.size
  n : g < lg ∧ v < lg ∧ d < lg ∧ p < lg ∧ lg < tg ∧ tg < pp ∧ pp < B
theorem TxP.mono {w w' : World} {B pp tg g lg v d p dt gr tc : Nat} {ta : Option Addr} {M : MemM} {P : List PtM} (h : TxP w B pp tg g lg v d p dt gr ta tc M P) (b : Below w.heap.size w w') : TxP w' B pp tg g lg v d p dt gr ta tc M P :=
  ⟨h.l.mono b, h.t.mono b, Own.mono h.o b, h.q.mono b, Nat.le_trans h.b b.size, h.n⟩
theorem TxP.cells {w : World} {B pp tg g lg v d p dt gr tc : Nat} {ta : Option Addr} {M : MemM} {P : List PtM} (h : TxP w B pp tg g lg v d p dt gr ta tc M P) : w.cell? ⟨pp, 0, none⟩ = some (.pointer (some ⟨g, 0, none⟩)) ∧ w.cell? ⟨pp, 2, none⟩ = some (.pointer (some ⟨tg, 0, none⟩)) :=
  ⟨h.q.cell (i := 0) (by show 0 < 5; omega), h.q.cell (i := 2) (by show 2 < 5; omega)⟩
theorem TxP.store {w : World} {B pp tg g lg v d p dt gr tc : Nat} {ta : Option Addr} {M : MemM} {P : List PtM} (h : TxP w B pp tg g lg v d p dt gr ta tc M P) (hM : M.V.length ≤ 1048576) (hP : P.length ≤ 64) {a : Option Addr} {c : Nat} {xs : List UInt8} (h0 : RowB w a c xs) (hx : xs.length ≤ 1000000) {at_ : Int} (ha : i64B at_) :
    Calls Tryd.prog 6 #[.pointer (some ⟨tg, 0, none⟩), .int .i64 at_, .slice a xs.length c] w fun e w' => e = .returned (.int .i64 (errT M P at_ xs.length)) ∧ ∃ ta tc, TxP w' B pp tg g lg v d p dt gr ta tc M (putT M P at_ xs) ∧ Turns (fun k => k = tg ∨ B ≤ k) w w' := by
  obtain ⟨n1, n2, n3, n4, n5, n6, n7⟩ := h.n
  refine (storeT_any h.l.m h.t h.o h.b (by omega) hM h0 ha hP (by omega)).mono ?_
  rintro e w' ⟨rfl, ta2, tc2, k1, k2, t⟩
  exact ⟨rfl, ta2, tc2, ⟨logP_turns h.l t (by omega) (by omega) (by omega) (by omega) (by omega), k1, k2, t.blk h.q (by omega), Nat.le_trans h.b t.size, h.n⟩, t⟩
theorem TxP.commit {w : World} {B pp tg g lg v d p dt gr tc : Nat} {ta : Option Addr} {M : MemM} {P : List PtM} (h : TxP w B pp tg g lg v d p dt gr ta tc M P) (hok : LogOk 512 512 M) (hx : TxOk M P) :
    Calls Tryd.prog 12 #[.pointer (some ⟨tg, 0, none⟩)] w fun e w' => e = .returned (.int .i64 (comE M P)) ∧ ∃ ta tc, TxP w' B pp tg g lg v d p dt gr ta tc (comM M P) (comP M P) ∧ Turns (fun k => XM v d p k ∨ k = tg) w w' := by
  obtain ⟨n1, n2, n3, n4, n5, n6, n7⟩ := h.n
  refine (commitT_any (B := B) h.l hok h.t h.o.row (by omega) (by omega) (by omega) (by omega) (by omega) hx.n (hx.pts hok.v).1 h.o ⟨by omega, by omega, by omega, by omega⟩).mono ?_
  rintro e w' ⟨rfl, ta2, tc2, k0, k1, k2, t⟩
  exact ⟨rfl, ta2, tc2, ⟨k0, k1, k2, t.blk h.q (by unfold XM; omega), Nat.le_trans h.b t.size, h.n⟩, t⟩
theorem beginT (w : World) : Calls Tryd.prog 5 #[] w fun e w' => ∃ pp tg g lg v d p dt gr, e = .returned (.pointer (some ⟨pp, 0, none⟩)) ∧ TxP w' w'.heap.size pp tg g lg v d p dt gr none 0 mem0 [] ∧ (w.heap.size ≤ g ∧ w.heap.size ≤ v ∧ w.heap.size ≤ d ∧ w.heap.size ≤ p) ∧ Below w.heap.size w w' := by
  refine (beginT_any w).mono ?_
  rintro e w1 ⟨⟨g, v, d, p, lg, tg, gr, vr, dr, ar, lr, dt, pp⟩, rfl, l1, k1, m1, r1, d1, p1, o1, b1⟩
  obtain ⟨o1, o2, o3, o4, o5, o6, o7, o8, o9, o10, o11, o12⟩ := o1
  dsimp only at o1 o2 o3 o4 o5 o6 o7 o8 o9 o10 o11 o12
  exact ⟨pp, tg, g, lg, v, d, p, dt, gr, rfl, ⟨l1, k1, Own.nil _ _ _ _, p1, Nat.le_refl _, ⟨by omega, by omega, by omega, by omega, by omega, by omega, by omega⟩⟩, ⟨by omega, by omega, by omega, by omega⟩, b1⟩
end Go.Proofs.YtcackliabemecaaDoor
