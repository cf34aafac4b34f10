/- The document's example of a transaction, pure. -/
import Derived.Test.YtcackliabemecaaDoorTxnH
namespace Go.Proofs.YtcackliabemecaaDoor
open Go.RowKit
set_option linter.unusedSimpArgs false
set_option linter.unusedVariables false
set_option maxRecDepth 100000

def exS1 : PtM := ⟨3, [97, 98]⟩
def exS2 : PtM := ⟨4, [120]⟩
theorem exS_ok : encOk [exS1, exS2] = true := by decide +kernel
theorem exS_len : (encL [exS1, exS2]).length = 24 := by rw [encL_len8 exS_ok, encB_eq exS_ok]; rfl
theorem app3E : appE mem0 512 512 [exS1, exS2] = 0 := by
  unfold appE encE
  rw [if_pos exS_ok, if_pos rfl, logR0, exS_len]; rfl
def mem3 : MemM := appM mem0 512 512 [exS1, exS2]
theorem log3 : LogOk 512 512 mem3 := logOk_app log0 _
theorem logR3 : logR mem3.V 512 512 = ([[exS1, exS2]], 24) := by
  unfold mem3
  rw [logR_app log0, if_pos app3E, logR0, exS_len]; rfl
def mem4 : MemM := redoM mem3 512 512
theorem mem3_len : mem3.V.length = 1024 := by unfold mem3; rw [appM_len, mem0_len]
theorem mem4_len : mem4.V.length = 1024 := by unfold mem4; rw [redoM_len, mem3_len]
theorem mem4_D : mem4.D = mem4.V := redoM_D (appM_ok mem0_ok _ _ _) (appM_D mem0_ok mem0_D _ _ _) _ _
theorem two_splice {V : List UInt8} (h : 5 ≤ V.length) : ((splice (splice V 3 [97, 98]) 4 [120]).drop 3).take 2 = [97, 120] := by
  match V, h with
  | a :: b :: c :: d :: e :: r, _ => rfl
theorem two_st {V : List UInt8} (h1 : 3 + ([97, 98] : List UInt8).length ≤ V.length) (h2 : 4 + ([120] : List UInt8).length ≤ (splice V 3 [97, 98]).length) : [exS1, exS2].foldl stV V = splice (splice V 3 [97, 98]) 4 [120] := by
  have z1 : stV V exS1 = splice V 3 [97, 98] := app_V (q := 3) (b := [97, 98]) h1
  rw [List.foldl_cons, z1]
  exact app_V (q := 4) (b := [120]) h2
theorem mem4_eq : redoM (appM mem0 512 512 [exS1, exS2]) 512 512 = mem4 := by unfold mem4 mem3; rfl
attribute [irreducible] mem3
theorem last4 : (mem4.D.drop 3).take 2 = [97, 120] := by
  rw [mem4_D]
  unfold mem4 redoM
  rw [show setM (writeM mem3 (logR mem3.V 512 512).1.flatten) 512 0 = setM (writeM mem3 (logR mem3.V 512 512).1.flatten) 512 ((0 : Nat) : Int) from rfl, setM_V (by rw [writeM_len, mem3_len]; omega)]
  have h1 : (3 : Nat) + ([97, 98] : List UInt8).length ≤ mem3.V.length := by rw [mem3_len]; show 3 + 2 ≤ _; omega
  have l1 : (splice mem3.V 3 [97, 98]).length = 1024 := by rw [length_splice _ _ _ h1, mem3_len]
  have h2 : (4 : Nat) + ([120] : List UInt8).length ≤ (splice mem3.V 3 [97, 98]).length := by rw [l1]; show 4 + 1 ≤ _; omega
  have e : (writeM mem3 (logR mem3.V 512 512).1.flatten).V = splice (splice mem3.V 3 [97, 98]) 4 [120] := by
    rw [writeM_V, logR3, List.flatten_cons, List.flatten_nil, List.append_nil]
    exact two_st h1 h2
  rw [e]
  have hl : (splice (splice mem3.V 3 [97, 98]) 4 [120]).length = 1024 := by rw [length_splice _ _ _ h2, l1]
  rw [sl_splice (by rw [le_length, hl]; omega) (.inl (by omega)) (by rw [hl]; omega)]
  exact two_splice (by rw [mem3_len]; omega)
theorem in4 : inM mem4 3 2 = true := by rw [show (2 : Int) = ((2 : Nat) : Int) from rfl, inM_iff, mem4_len]; omega
theorem in0 : inM mem0 3 2 = true := by rw [show (2 : Int) = ((2 : Nat) : Int) from rfl, inM_iff, mem0_len]; omega
theorem view0 : (mem0.V.drop 3).take 2 = [0, 0] := by rw [mem0_V, List.drop_replicate, List.take_replicate]; rfl
theorem ovl0 : ovl 3 [0, 0] [exS1, exS2] = [97, 120] := by decide +kernel
theorem ok1 : okT mem0 [] 3 ([97, 98] : List UInt8).length = true := by
  unfold okT; rw [decide_eq_true_iff, mem0_len]; decide
theorem ok2 : okT mem0 [exS1] 4 ([120] : List UInt8).length = true := by
  unfold okT; rw [decide_eq_true_iff, mem0_len]; decide
theorem put1 : putT mem0 [] 3 [97, 98] = [exS1] := by unfold putT; rw [if_pos ok1]; rfl
theorem put2 : putT mem0 [exS1] 4 [120] = [exS1, exS2] := by unfold putT; rw [if_pos ok2]; rfl
theorem err1 : errT mem0 [] 3 2 = 0 := if_pos ok1
theorem err2 : errT mem0 [exS1] 4 1 = 0 := if_pos ok2
theorem comE0 : comE mem0 [exS1, exS2] = 0 := by unfold comE; rw [if_neg (by decide), app3E]
theorem comM0 : comM mem0 [exS1, exS2] = mem4 := by unfold comM; rw [if_neg (by decide), if_pos app3E, mem4_eq]
theorem comP0 : comP mem0 [exS1, exS2] = [] := by unfold comP; rw [if_neg (by decide), if_pos app3E]
theorem txS : TxOk mem0 [exS1, exS2] := by
  have z := ((TxOk.nil mem0).put 3 [97, 98])
  rw [put1] at z
  have y := z.put 4 [120]
  rw [put2] at y
  exact y
attribute [irreducible] mem4
end Go.Proofs.YtcackliabemecaaDoor
