/- A packet with few of all may be put. -/
import Derived.Test.YtanediaaidfcaaaWirMh
import Derived.Test.YtanediaaidfcaaaWirPe
import Derived.Test.YtanediaaidfcaaaWirLv
import Derived.Test.YtanediaaidfcaaaWirZa
namespace Go.Proofs.Ytanediaaidfcaaa
open Go.RowKit
set_option linter.unusedSimpArgs false
set_option linter.unusedVariables false

theorem fewP_small {P : PkM} (h : smallP P) : smallP (fewP P) := h
theorem fewP_short (P : PkM) : shortP (fewP P) := fun o ho => by
  show (if o ≤ 12 then (P.S o).take 150 else P.S o).length ≤ 200
  rw [if_pos ho, List.length_take]; omega
theorem fewP_names (P : PkM) : ∀ s ∈ (fewP P).N, s.length ≤ 200 := fun s hs => by
  obtain ⟨t, _, rfl⟩ := List.mem_map.1 (show s ∈ (P.N.take 20).map (List.take 20) from hs)
  rw [List.length_take]; omega
theorem fewP_n9 (P : PkM) : (fewP P).N.length ≤ 100 := by
  show ((P.N.take 20).map (List.take 20)).length ≤ 100
  rw [List.length_map, List.length_take]; omega
theorem putB_len (P : PkM) : (putB P).length ≤ 1004 := by
  have h := putW_in P
  cases hi : inW P with
  | none =>
    rw [hi] at h
    have hb : putB P = [] := (congrArg (fun o => Option.getD o []) h).trans rfl
    rw [hb]; exact Nat.zero_le _
  | some e =>
    rw [hi, Option.map_some] at h
    have hb : putB P = putF e (crcF e : Int) 4 := (congrArg (fun o => Option.getD o []) h).trans (Option.getD_some ..)
    rw [hb]
    have h1 := encP_len (inW_enc hi)
    have h2 := putF_len e (crcF e : Int) 4
    exact Nat.le_trans h2 (by omega)
/-- what a law hands to Put -/
structure MayP (P : PkM) : Prop where
  small : smallP P
  short : shortP P
  names : ∀ s ∈ P.N, s.length ≤ 200
  n9 : P.N.length ≤ 100
theorem few_may {P : PkM} (h : smallP P) : MayP (fewP P) := ⟨fewP_small h, fewP_short P, fewP_names P, fewP_n9 P⟩
end Go.Proofs.Ytanediaaidfcaaa
