/- A crash leaves each cell whole; a second one changes nothing. (genPnF.py) -/
import Derived.Test.YtcgekooahahjpaaPnF
import Derived.Test.YtcgekooahahjpaaPnG
import Derived.Test.YtcgekooahahjpaaPnH
import Derived.Test.YtcgekooahahjpaaPnI
namespace Go.Proofs.Ytcgekooahahjpaa
open Go.RowKit
set_option linter.unusedSimpArgs false
set_option linter.unusedVariables false


theorem PmemCells_walk (w : World) (a : Option Addr) (n c : Nat) (f : Nat → DeedV) (r : RowD w a c n f) (ap : Option Addr) (cpP : Nat) (P : List Int) (rp : RowI w ap cpP P) (kp : intsOk P) (aa : Option Addr) (cpA : Nat) (A : List Int) (ra : RowI w aa cpA A) (ka : intsOk A) :
    Calls Try.prog 6 #[.slice a n c, .slice ap P.length cpP, .slice aa A.length cpA] w fun e w' => e = .returned (.bool true) ∧ Below w.heap.size w w' := by
  have hcP : P.length ≤ cpP := by have := rp.2.1; simpa using this
  have hcA : A.length ≤ cpA := by have := ra.2.1; simpa using this
  by_cases h : P.length ≤ 200
  · by_cases h2 : A.length ≤ 200
    · exact cells_00 w a n c f r ap cpP _ P rp kp hcP rfl (decide_eq_false (by omega)) aa cpA _ A ra ka hcA rfl (decide_eq_false (by omega))
    · exact cells_01 w a n c f r ap cpP _ P rp kp hcP rfl (decide_eq_false (by omega)) aa cpA _ (A.take 200) (rowI_take ra 200) (fun x hx => ka x (List.mem_of_mem_take hx)) hcA (by rw [List.length_take]; omega) (decide_eq_true (by omega))
  · by_cases h2 : A.length ≤ 200
    · exact cells_10 w a n c f r ap cpP _ (P.take 200) (rowI_take rp 200) (fun x hx => kp x (List.mem_of_mem_take hx)) hcP (by rw [List.length_take]; omega) (decide_eq_true (by omega)) aa cpA _ A ra ka hcA rfl (decide_eq_false (by omega))
    · exact cells_11 w a n c f r ap cpP _ (P.take 200) (rowI_take rp 200) (fun x hx => kp x (List.mem_of_mem_take hx)) hcP (by rw [List.length_take]; omega) (decide_eq_true (by omega)) aa cpA _ (A.take 200) (rowI_take ra 200) (fun x hx => ka x (List.mem_of_mem_take hx)) hcA (by rw [List.length_take]; omega) (decide_eq_true (by omega))
end Go.Proofs.Ytcgekooahahjpaa
