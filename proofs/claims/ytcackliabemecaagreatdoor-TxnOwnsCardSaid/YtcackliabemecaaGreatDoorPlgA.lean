/- Patches: pure, and as they lie in memory. -/
import Derived.Test.YtcackliabemecaaGreatDoorLibO
import Derived.Test.YtcackliabemecaaGreatDoorLibS
import Derived.Test.YtcackliabemecaaGreatDoorLibV
import Derived.Test.YtcackliabemecaaGreatDoorLibZ
import Derived.Test.YtcackliabemecaaGreatDoorLibD
import Derived.Test.YtcackliabemecaaGreatDoorNumD
import Derived.Test.YtcackliabemecaaGreatDoorNumC
import Derived.Test.YtcackliabemecaaGreatDoorNumE
import Derived.Test.YtcackliabemecaaGreatDoorCrcB
import Derived.Test.YtcackliabemecaaGreatDoorBytesA
import Derived.Test.YtcackliabemecaaGreatDoorPmA
namespace Go.Proofs.YtcackliabemecaaGreatDoor
open Go.RowKit
set_option linter.unusedSimpArgs false
set_option linter.unusedVariables false
set_option maxRecDepth 100000

structure PtM where
  at_ : Int
  d : List UInt8
def bsB (l : List UInt8) : ByteArray := ⟨l.toArray⟩
def strB (l : List UInt8) : Value := .string (bsB l)
theorem bsB_size (l : List UInt8) : (bsB l).size = l.length := by simp [bsB, ByteArray.size]
theorem bsB_list (l : List UInt8) : (bsB l).data.toList = l := by simp [bsB]
def ptC (p : PtM) : List Value := [.int .i64 p.at_, strB p.d]
def ptV (p : PtM) : Value := .agg (ptC p).toArray
theorem ptC_len (p : PtM) : (ptC p).length = 2 := rfl
theorem ptC_one (p : PtM) : ∀ v ∈ ptC p, v.oneCell' = true := by intro v hv; simp [ptC, strB] at hv; rcases hv with rfl | rfl <;> rfl
theorem pts_one (L : List PtM) : ∀ v ∈ L.flatMap ptC, v.oneCell' = true := by
  intro v hv
  obtain ⟨p, _, h⟩ := List.mem_flatMap.1 hv
  exact ptC_one p v h
theorem pts_len (L : List PtM) : (L.flatMap ptC).length = L.length * 2 := flat_len ptC 2 ptC_len L
abbrev RowPt (w : World) (a : Option Addr) (c : Nat) (L : List PtM) : Prop := Row w 2 a L.length c (L.flatMap ptC)
abbrev OwnPt (w : World) (B : Nat) (a : Option Addr) (c : Nat) (L : List PtM) : Prop := Own w B 47 2 a L.length c (L.flatMap ptC)
theorem infoPt : (Tryz.prog.info? 47).map (·.size) = some 2 := by kernel_rfl
theorem rowPt_at {w : World} {a : Option Addr} {c : Nat} {L : List PtM} (r : RowPt w a c L) (hn : 0 < L.length) :
    ∃ b off, a = some ⟨b, off, none⟩ ∧ ∀ i (hi : i < L.length), w.rangeAt b (off + i * 2) (ptC L[i]) := by
  obtain ⟨b, off, e, _, h⟩ := row_flat ptC_len r hn
  exact ⟨b, off, e, fun i hi j u hu => h i hi j u hu⟩
/-- what an int may be -/
def okI (n : Int) : Prop := -9223372036854775808 ≤ n ∧ n ≤ 9223372036854775807
def okPts (L : List PtM) : Prop := ∀ p ∈ L, okI p.at_

/-! encoding -/
def okPt (p : PtM) : Bool := fitsB p.at_ 4 && decide (p.d.length ≤ 256)
def encP1 (b : List UInt8) (p : PtM) : List UInt8 := putF (putF b p.at_ 4) p.d.length 2 ++ p.d
def encB (L : List PtM) : List UInt8 := L.foldl encP1 (putF [] L.length 2)
def pad8 (n : Nat) : Nat := (8 - n % 8) % 8
def sealY (b : List UInt8) : List UInt8 := putF b (crcF b : Int) 4
def sealP (b : List UInt8) : List UInt8 := sealY b ++ List.replicate (pad8 (sealY b).length) 0
def encOk (L : List PtM) : Bool := decide (L.length ≤ 64) && L.all okPt
def encL (L : List PtM) : List UInt8 := if encOk L = true then sealP (encB L) else []
def encE (L : List PtM) : Int := if encOk L = true then 0 else 1
theorem putF_lenA (b : List UInt8) (v : Int) (k : Nat) : (putF b v k).length ≤ b.length + k := by
  unfold putF; split
  · rw [List.length_append, le_length]; simp
  · omega
theorem encP1_len (b : List UInt8) (p : PtM) (h : p.d.length ≤ 256) : (encP1 b p).length ≤ b.length + 262 := by
  unfold encP1
  have h1 : (putF (putF b p.at_ 4) p.d.length 2).length ≤ (putF b p.at_ 4).length + 2 := putF_lenA _ _ 2
  have h2 : (putF b p.at_ 4).length ≤ b.length + 4 := putF_lenA _ _ 4
  rw [List.length_append]
  omega
theorem encFold_len (L : List PtM) (b : List UInt8) (h : ∀ p ∈ L, p.d.length ≤ 256) : (L.foldl encP1 b).length ≤ b.length + 262 * L.length := by
  induction L generalizing b with
  | nil => simp
  | cons p L ih =>
    have h1 := ih (encP1 b p) (fun q hq => h q (List.mem_cons_of_mem _ hq))
    have h2 := encP1_len b p (h p (List.mem_cons_self ..))
    rw [List.foldl_cons, List.length_cons]; omega
theorem pad8_val (n : Nat) : (((n : Int) + 7) / 8 * 8 - n) = (pad8 n : Int) := by unfold pad8; omega

/-! words -/
theorem run_allocPt {o : Oper} (ho : o.op = .alloc 47) (ρ : Operand → Value) (w : World) : (execOp ρ o).run Tryz.prog w = .ok (.value (.pointer (some ⟨w.heap.size, 0, none⟩))) (w.alloc (.cells (ptC ⟨0, []⟩).toArray 47)) := by
  unfold execOp; rw [ho]; rfl
theorem loadIP {w : World} {g off : Nat} {x : Int} (h : w.cell? ⟨g, off, none⟩ = some (.int .i64 x)) : (Instr.loadAt 3 (.pointer (some ⟨g, off, none⟩))).run Tryz.prog w = .ok (.int .i64 x) w := by
  have u3 := Tryz.underlying3
  have a3 := Tryz.isAgg3
  have z3 := Tryz.sizeOf3
  go_simp
theorem loadSP {w : World} {g off : Nat} {x : ByteArray} (h : w.cell? ⟨g, off, none⟩ = some (.string x)) : (Instr.loadAt 9 (.pointer (some ⟨g, off, none⟩))).run Tryz.prog w = .ok (.string x) w := by
  have u3 := Tryz.underlying9
  have a3 := Tryz.isAgg9
  have z3 := Tryz.sizeOf9
  go_simp
/-- one's own row stays where a block of another type is changed -/
theorem own_turnsP {w w' : World} {B g : Nat} {e t : TypeId} {sz : Nat} {a : Option Addr} {n c : Nat} {cs L : List Value} (h : Own w B e sz a n c cs) (hb : Blk w g t L) (hne : e ≠ t) (t1 : Turns (fun k => k = g) w w') : Own w' B e sz a n c cs := by
  refine ⟨h.1, ?_⟩
  rcases h.2 with hn | ⟨b, cap, cur, hv, hB, hh, rest⟩
  · exact .inl hn
  · refine .inr ⟨b, cap, cur, hv, hB, (t1.block b (Array.getElem?_eq_some_iff.1 hh).1 (fun q => ?_)).trans hh, rest⟩
    subst q
    unfold Blk at hb
    rw [hb] at hh
    simp at hh
    exact hne hh.2.symm
end Go.Proofs.YtcackliabemecaaGreatDoor
