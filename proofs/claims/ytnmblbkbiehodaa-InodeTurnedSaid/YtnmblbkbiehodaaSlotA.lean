import Derived.Test.YtnmblbkbiehodaaLibZ
import Derived.Test.YtnmblbkbiehodaaBytesA
import Derived.Test.YtnmblbkbiehodaaNumD
import Derived.Test.YtnmblbkbiehodaaCrcB
namespace Go.Proofs.Ytnmblbkbiehodaa
open Go.RowKit
set_option linter.unusedSimpArgs false
set_option linter.unusedVariables false

/-- padded to 60 bytes, and their sum -/
def padF (l : List UInt8) : List UInt8 := l ++ List.replicate (60 - l.length) 0
def sealF (l : List UInt8) : List UInt8 := padF l ++ le 4 (crcF (padF l))
theorem padF_length {l : List UInt8} (h : l.length ≤ 60) : (padF l).length = 60 := by simp [padF]; omega
theorem sealF_length {l : List UInt8} (h : l.length ≤ 60) : (sealF l).length = 64 := by simp [sealF, padF_length h, le_length]

def btw (n m : Int) : Bool := decide (0 ≤ n) && decide (n ≤ m)
theorem btw_t {n m : Int} (h : 0 ≤ n ∧ n ≤ m) : btw n m = true := by simp [btw, h]
theorem btw_f {n m : Int} (h : n < 0 ∨ m < n) : btw n m = false := by simp [btw]; omega

/-- may a slot be? -/
def mayS (e h r er i wr : Int) : Bool := decide (0 ≤ e ∧ e ≤ 1073741824 ∧ 0 ≤ h ∧ h ≤ 1024 ∧ 0 ≤ r ∧ r ≤ 1099511627776 ∧ 0 ≤ wr ∧ wr ≤ 1099511627776 ∧ 0 ≤ er ∧ er ≤ 255 ∧ 0 ≤ i ∧ i ≤ 32)

/-- a slot as a value -/
def slotV (e h r er i wr : Int) : Value := .agg #[.int .i64 e, .int .i64 h, .int .i64 r, .int .i64 er, .int .i64 i, .int .i64 wr]

theorem may_cases (e h r er i wr : Int) :
    e < 0 ∨ (0 ≤ e ∧ 1073741824 < e) ∨ (0 ≤ e ∧ e ≤ 1073741824 ∧ h < 0) ∨ (0 ≤ e ∧ e ≤ 1073741824 ∧ 0 ≤ h ∧ 1024 < h) ∨
    (0 ≤ e ∧ e ≤ 1073741824 ∧ 0 ≤ h ∧ h ≤ 1024 ∧ r < 0) ∨ (0 ≤ e ∧ e ≤ 1073741824 ∧ 0 ≤ h ∧ h ≤ 1024 ∧ 0 ≤ r ∧ 1099511627776 < r) ∨
    (0 ≤ e ∧ e ≤ 1073741824 ∧ 0 ≤ h ∧ h ≤ 1024 ∧ 0 ≤ r ∧ r ≤ 1099511627776 ∧ wr < 0) ∨ (0 ≤ e ∧ e ≤ 1073741824 ∧ 0 ≤ h ∧ h ≤ 1024 ∧ 0 ≤ r ∧ r ≤ 1099511627776 ∧ 0 ≤ wr ∧ 1099511627776 < wr) ∨
    (0 ≤ e ∧ e ≤ 1073741824 ∧ 0 ≤ h ∧ h ≤ 1024 ∧ 0 ≤ r ∧ r ≤ 1099511627776 ∧ 0 ≤ wr ∧ wr ≤ 1099511627776 ∧ er < 0) ∨ (0 ≤ e ∧ e ≤ 1073741824 ∧ 0 ≤ h ∧ h ≤ 1024 ∧ 0 ≤ r ∧ r ≤ 1099511627776 ∧ 0 ≤ wr ∧ wr ≤ 1099511627776 ∧ 0 ≤ er ∧ 255 < er) ∨
    (0 ≤ e ∧ e ≤ 1073741824 ∧ 0 ≤ h ∧ h ≤ 1024 ∧ 0 ≤ r ∧ r ≤ 1099511627776 ∧ 0 ≤ wr ∧ wr ≤ 1099511627776 ∧ 0 ≤ er ∧ er ≤ 255 ∧ i < 0) ∨ (0 ≤ e ∧ e ≤ 1073741824 ∧ 0 ≤ h ∧ h ≤ 1024 ∧ 0 ≤ r ∧ r ≤ 1099511627776 ∧ 0 ≤ wr ∧ wr ≤ 1099511627776 ∧ 0 ≤ er ∧ er ≤ 255 ∧ 0 ≤ i ∧ 32 < i) ∨
    (0 ≤ e ∧ e ≤ 1073741824 ∧ 0 ≤ h ∧ h ≤ 1024 ∧ 0 ≤ r ∧ r ≤ 1099511627776 ∧ 0 ≤ wr ∧ wr ≤ 1099511627776 ∧ 0 ≤ er ∧ er ≤ 255 ∧ 0 ≤ i ∧ i ≤ 32) := by
  rcases Int.lt_or_le e 0 with a1 | a1
  · exact .inl a1
  refine .inr ?_
  rcases Int.lt_or_le 1073741824 e with a2 | a2
  · exact .inl ⟨a1, a2⟩
  refine .inr ?_
  rcases Int.lt_or_le h 0 with a3 | a3
  · exact .inl ⟨a1, a2, a3⟩
  refine .inr ?_
  rcases Int.lt_or_le 1024 h with a4 | a4
  · exact .inl ⟨a1, a2, a3, a4⟩
  refine .inr ?_
  rcases Int.lt_or_le r 0 with a5 | a5
  · exact .inl ⟨a1, a2, a3, a4, a5⟩
  refine .inr ?_
  rcases Int.lt_or_le 1099511627776 r with a6 | a6
  · exact .inl ⟨a1, a2, a3, a4, a5, a6⟩
  refine .inr ?_
  rcases Int.lt_or_le wr 0 with a7 | a7
  · exact .inl ⟨a1, a2, a3, a4, a5, a6, a7⟩
  refine .inr ?_
  rcases Int.lt_or_le 1099511627776 wr with a8 | a8
  · exact .inl ⟨a1, a2, a3, a4, a5, a6, a7, a8⟩
  refine .inr ?_
  rcases Int.lt_or_le er 0 with a9 | a9
  · exact .inl ⟨a1, a2, a3, a4, a5, a6, a7, a8, a9⟩
  refine .inr ?_
  rcases Int.lt_or_le 255 er with a10 | a10
  · exact .inl ⟨a1, a2, a3, a4, a5, a6, a7, a8, a9, a10⟩
  refine .inr ?_
  rcases Int.lt_or_le i 0 with a11 | a11
  · exact .inl ⟨a1, a2, a3, a4, a5, a6, a7, a8, a9, a10, a11⟩
  refine .inr ?_
  rcases Int.lt_or_le 32 i with a12 | a12
  · exact .inl ⟨a1, a2, a3, a4, a5, a6, a7, a8, a9, a10, a11, a12⟩
  exact .inr ⟨a1, a2, a3, a4, a5, a6, a7, a8, a9, a10, a11, a12⟩

