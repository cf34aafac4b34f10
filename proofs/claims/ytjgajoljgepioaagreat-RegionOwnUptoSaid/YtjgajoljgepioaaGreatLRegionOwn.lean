/- commonslaw20.RegionOwn: called with any arguments the law returns true, does not panic, and every argument reads afterwards as it read before. Condition: what is read of the arguments is of bulk at most 1048576. -/
import Derived.Test.YtjgajoljgepioaaGreatQam
import Derived.JoinedCond
import Derived.WalkKit
import Derived.ProofKit
import Derived.OpenShut
import Derived.ShutString
import Derived.ChangeOld
import Derived.Below
namespace Go.Proofs.YtjgajoljgepioaaGreat.regionOwn
open Go.ChangeShapes Go.WideShapes Go.ChangeAt Go.RowKit
open Go.ChangeMaps (open_string shut_string)
set_option linter.unusedVariables false

theorem own : ownKnob Tryz.prog.godebug = none := by kernel_rfl
theorem laidOut : laidOutB Tryz.prog = true := by kernel_rfl

set_option maxRecDepth 100000 in
theorem wit (H : Type) (enc : TypeId × Value → H) (os : Os) : ∃ x, DataW.whole enc Tryz.prog (World.plainHolding Tryz.prog os ⟨#[], #[.slice none 0 0, .agg (pkC P0z none 0 0).toArray], []⟩).memory Tryz.f6.params.toList (Rows.OpenSpec.upto Rows.regionOwnSpec).vars Rows.regionOwnUptoRow.apart #[.slice none 0 0, .agg (pkC P0z none 0 0).toArray].toList 8 = some x ∧ Rows.uptoSmall H (x.1 ++ x.2.1) = true := by
  have h : (DataW.whole enc Tryz.prog (World.plainHolding Tryz.prog os ⟨#[], #[.slice none 0 0, .agg (pkC P0z none 0 0).toArray], []⟩).memory Tryz.f6.params.toList (Rows.OpenSpec.upto Rows.regionOwnSpec).vars Rows.regionOwnUptoRow.apart #[.slice none 0 0, .agg (pkC P0z none 0 0).toArray].toList 8).map (fun x => Rows.uptoSmall H (x.1 ++ x.2.1)) = some true := by kernel_rfl
  obtain ⟨x, h1, h2⟩ := Option.map_eq_some_iff.1 h
  exact ⟨x, h1, h2⟩

set_option maxRecDepth 100000 in
theorem lifted (os : Os) (started : os.Started) (H : Type) (enc : TypeId × Value → H) (F : Stop.Interp) :
    ReturnsInHanded {} Tryz.checked os 6 .any ((Rows.OpenSpec.upto Rows.regionOwnSpec).pre6 enc Tryz.prog Tryz.f6 Rows.regionOwnUptoRow.domain false) (((Rows.OpenSpec.upto Rows.regionOwnSpec).at F).post enc Tryz.prog Tryz.f6 false true false false) := by
  obtain ⟨xw, hxw, hkw⟩ := wit H enc os
  refine returnsInHanded_of_cond (C := Tryz.checked) (s := Rows.OpenSpec.upto Rows.regionOwnSpec) (k := Rows.uptoSmall) rfl own started (by kernel_rfl) Tryz.func6
    (OpenSpec.witness (enc := enc) (C := Tryz.checked) (s := Rows.OpenSpec.upto Rows.regionOwnSpec) (k := Rows.uptoSmall) rfl false ⟨#[], #[.slice none 0 0, .agg (pkC P0z none 0 0).toArray], []⟩ 8 (by kernel_rfl) (by kernel_rfl) (by kernel_rfl) hxw rfl hkw (by kernel_rfl)) ?_
  intro W base args ds gs before hval0 hW hcnd hbk _
  have hval : ∀ (j : Nat) t v, Tryz.f6.params[j]? = some t → args[j]? = some v → Value.okWide Tryz.prog W .any base t v := hval0
  have hW' := hW
  obtain ⟨p, q, hA0, hV, rfl, hfz, hnd⟩ := hW
  have hA : DataW.TrodAll enc Tryz.prog W 0 (fun _ => true) true Tryz.f6.params.toList args.toList ds p := hA0
  rw [Tryz.params6] at hA hval
  obtain ⟨v0, vs0, d0, ds0, p0, q0, hargs, rfl, rfl, h0, r0⟩ := trodAll_cons hA
  obtain ⟨v1, vs1, d1, ds1, p1, q1, rfl, rfl, rfl, h1, r1⟩ := trodAll_cons r0
  obtain ⟨rfl, rfl, rfl⟩ := trodAll_nil r1
  obtain rfl : args = #[v0, v1] := by cases args; simp_all
  obtain ⟨rfl, rfl⟩ := trodVars_none hV
  have hbA : Rows.uptoBulkAll [d0, d1] ≤ 1048576 := of_decide_eq_true hbk
  have hb0 : Rows.uptoBulk d0 ≤ 1048576 := Nat.le_trans (bulk_mem (by simp)) hbA
  have hb1 : Rows.uptoBulk d1 ≤ 1048576 := Nat.le_trans (bulk_mem (by simp)) hbA
  have k0 := h0
  have lt0 : ∀ x ∈ p0, x.block < W.heap.size := by obtain ⟨m, hm⟩ := k0; exact DataW.trod_lt m _ _ _ hm
  have k1 := h1
  have lt1 : ∀ x ∈ p1, x.block < W.heap.size := by obtain ⟨m, hm⟩ := k1; exact DataW.trod_lt m _ _ _ hm
  obtain ⟨a0, len0, cap0, rfl⟩ := okWide_slice Tryz.underlying22 (hval 0 22 v0 rfl rfl)
  obtain ⟨f0, rb0⟩ := open_deeds20 h0 hb0
  obtain ⟨P1, pa1, pc1, rfl, wp1⟩ := open_pkU (hval 1 39 v1 rfl rfl) h1 hb1
  clear hA0 hval0
  refine (RegionOwn_walk W a0 len0 cap0 f0 rb0 P1 pa1 pc1 wp1).mono fun e W' ⟨he, bel⟩ => ?_
  subst he
  exact ⟨_, rfl, _, _, _, [], _, [], hW', trodAll_mk1 (shut_bool Tryz.underlying4 _), (trodAll_cons_mk (Below.trod laidOut (by kernel_rfl) (of_decide_eq_true (by kernel_rfl)) k0 bel lt0) (trodAll_cons_mk (Below.trod laidOut (by kernel_rfl) (of_decide_eq_true (by kernel_rfl)) k1 bel lt1) trodAll_mk0)), rfl, bel.frame _, fun h => by cases h⟩

theorem over : Rows.regionOwnUptoRow.holds Tryz.pinned (Rows.OpenSpec.upto Rows.regionOwnSpec) :=
  OpenClaim.holds_of_cond 6 Tryz.f6 rfl rfl rfl rfl rfl rfl rfl ⟨rfl, rfl, rfl, rfl, rfl⟩ rfl rfl rfl rfl rfl (by kernel_rfl) Tryz.func6 (by kernel_rfl)
    (of_decide_eq_true (by kernel_rfl)) (by unfold Func.isWrapper; first | (rw [if_pos (by decide +kernel)]; kernel_rfl) | (rw [if_neg (by decide +kernel)]; exact ⟨rfl, rfl⟩))
    (fun os started H enc _ F0 => by rw [OpenClaim.pre_of_none' rfl]; exact lifted os started H enc F0)

theorem proved : Rows.RegionOwnUptoSaid := over
#print axioms proved
end Go.Proofs.YtjgajoljgepioaaGreat.regionOwn
