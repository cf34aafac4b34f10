import Derived.Test.YtpalgffmdinfpaaPk3
import Derived.Deep.Slices
import Derived.Deep.Fields
import Derived.ChangeSame
section
namespace Go.Proofs.Ytpalgffmdinfpaa
open Go.RowKit
set_option linter.unusedSimpArgs false
set_option linter.unusedVariables false
set_option maxRecDepth 100000

structure DeedV where
  k : Int
  now : Int
  c : Int
  i : Int
  own : Bool
def DeedV.wf (d : DeedV) : Prop := (Lit.int .i64 d.k).wf = true ∧ (Lit.int .i64 d.now).wf = true ∧ (Lit.int .i64 d.c).wf = true ∧ (Lit.int .i64 d.i).wf = true
def stepG (d : DeedV) (g : GrF) (wt : WtF) : GrF := if d.k = 0 then askG g wt d.now d.c d.i d.own else if d.k = 1 then updG g (d.c, d.i) none else if d.k = 2 then dropG d.c g else g
def stepW (d : DeedV) (g : GrF) (wt : WtF) : WtF := if d.k = 0 then askW g wt d.now d.c d.i d.own else if d.k = 1 then wt else if d.k = 2 then dropW d.c wt else wt
theorem step_askG {d : DeedV} {g : GrF} {wt : WtF} (h : d.k = 0) : stepG d g wt = askG g wt d.now d.c d.i d.own := if_pos h
theorem step_askW {d : DeedV} {g : GrF} {wt : WtF} (h : d.k = 0) : stepW d g wt = askW g wt d.now d.c d.i d.own := if_pos h
theorem step_giveG {d : DeedV} {g : GrF} {wt : WtF} (h : d.k = 1) : stepG d g wt = updG g (d.c, d.i) none := by unfold stepG; rw [if_neg (by omega), if_pos h]
theorem step_giveW {d : DeedV} {g : GrF} {wt : WtF} (h : d.k = 1) : stepW d g wt = wt := by unfold stepW; rw [if_neg (by omega), if_pos h]
theorem step_dropG {d : DeedV} {g : GrF} {wt : WtF} (h : d.k = 2) : stepG d g wt = dropG d.c g := by unfold stepG; rw [if_neg (by omega), if_neg (by omega), if_pos h]
theorem step_dropW {d : DeedV} {g : GrF} {wt : WtF} (h : d.k = 2) : stepW d g wt = dropW d.c wt := by unfold stepW; rw [if_neg (by omega), if_neg (by omega), if_pos h]
theorem step_elseG {d : DeedV} {g : GrF} {wt : WtF} (h : ¬ d.k = 0 ∧ ¬ d.k = 1 ∧ ¬ d.k = 2) : stepG d g wt = g := by unfold stepG; rw [if_neg h.1, if_neg h.2.1, if_neg h.2.2]
theorem step_elseW {d : DeedV} {g : GrF} {wt : WtF} (h : ¬ d.k = 0 ∧ ¬ d.k = 1 ∧ ¬ d.k = 2) : stepW d g wt = wt := by unfold stepW; rw [if_neg h.1, if_neg h.2.1, if_neg h.2.2]
theorem ownW_or (wt : WtF) (c i : Int) : ownW wt c i = wt ∨ ownW wt c i = updG wt i none := by
  unfold ownW
  cases wt i with
  | none => exact .inl rfl
  | some a =>
    show (if a.1 = c then updG wt i none else wt) = wt ∨ (if a.1 = c then updG wt i none else wt) = _
    split
    · exact .inr rfl
    · exact .inl rfl
theorem WtOk.ask {wt : WtF} (h : WtOk wt) (g : GrF) (now c i : Int) (own : Bool) : WtOk (askW g wt now c i own) := fun j a ha => by
  unfold askW at ha
  split at ha
  · rename_i hb
    have hok := askOkB_iff.1 hb
    unfold askOk at hok
    split at ha
    · split at ha
      · exact h j a ha
      · rcases ownW_or wt c i with q | q
        · rw [q] at ha; exact h j a ha
        · rw [q] at ha
          by_cases e : j = i
          · subst e; rw [updG_same] at ha; cases ha
          · rw [updG_ne _ _ e] at ha; exact h j a ha
    · split at ha
      · exact h j a ha
      · by_cases e : j = i
        · subst e; rw [updG_same] at ha; cases ha; exact ⟨hok.2.1.1, hok.2.1.2, hok.2.2.1, hok.2.2.2⟩
        · rw [updG_ne _ _ e] at ha; exact h j a ha
  · exact h j a ha
theorem WtOk.drop {wt : WtF} (h : WtOk wt) (c : Int) : WtOk (dropW c wt) := fun j a ha => by
  unfold dropW at ha
  cases hb : wt j with
  | none => rw [hb] at ha; cases ha
  | some b =>
    rw [hb] at ha
    have ha' : (if b.1 = c then none else some b) = some a := ha
    split at ha'
    · cases ha'
    · cases ha'; exact h j _ hb
theorem WtOk.empty : WtOk (fun _ => none) := fun i a h => by cases h
def both7 (tg gm wm n m : Nat) (g : GrF) (wt : WtF) (rg gb wb lb : Nat) (G : List Gr3) (W L : List Int) : List Ch := [blkC tg 54 [.map (some gm), .map (some wm)], mapC KG gm n g, mapC KW wm m wt, blkC rg 43 [.slice (some ⟨gb, 0, none⟩) 297 297, .slice (some ⟨wb, 0, none⟩) 33 33, .slice (some ⟨lb, 0, none⟩) 33 33], blkC gb 58 (G.flatMap g3C), blkC wb 3 (W.map iV), blkC lb 3 (L.map iV)]
def In7 (tg gm wm rg gb wb lb b : Nat) : Prop := b = tg ∨ b = gm ∨ b = wm ∨ b = rg ∨ b = gb ∨ b = wb ∨ b = lb
theorem foot7 {tg gm wm n m : Nat} {g : GrF} {wt : WtF} {rg gb wb lb : Nat} {G : List Gr3} {W L : List Int} : ∀ (i : Nat) (c : Ch), (both7 tg gm wm n m g wt rg gb wb lb G W L)[i]? = some c → ∀ k, c.F k → In7 tg gm wm rg gb wb lb k
  | 0, c, h, k, hk => by cases h; exact .inl hk
  | 1, c, h, k, hk => by cases h; exact .inr (.inl hk)
  | 2, c, h, k, hk => by cases h; exact .inr (.inr (.inl hk))
  | 3, c, h, k, hk => by cases h; exact .inr (.inr (.inr (.inl hk)))
  | 4, c, h, k, hk => by cases h; exact .inr (.inr (.inr (.inr (.inl hk))))
  | 5, c, h, k, hk => by cases h; exact .inr (.inr (.inr (.inr (.inr (.inl hk)))))
  | 6, c, h, k, hk => by cases h; exact .inr (.inr (.inr (.inr (.inr (.inr hk)))))
theorem foot7' {tg gm wm n m : Nat} {g : GrF} {wt : WtF} {rg gb wb lb : Nat} {G : List Gr3} {W L : List Int} {k : Nat} (h : In7 tg gm wm rg gb wb lb k) : ∃ (j : Nat) (d : Ch), (both7 tg gm wm n m g wt rg gb wb lb G W L)[j]? = some d ∧ d.F k := by
  rcases h with h | h | h | h | h | h | h
  · exact ⟨0, _, rfl, h⟩
  · exact ⟨1, _, rfl, h⟩
  · exact ⟨2, _, rfl, h⟩
  · exact ⟨3, _, rfl, h⟩
  · exact ⟨4, _, rfl, h⟩
  · exact ⟨5, _, rfl, h⟩
  · exact ⟨6, _, rfl, h⟩
/-- both tables, of the same grants and waits -/
def bothC (tg gm wm rg gb wb lb K : Nat) (g : GrF) (wt : WtF) : Ch where
  F b := In7 tg gm wm rg gb wb lb b
  P w := ∃ n m G W L, n ≤ K ∧ m ≤ K ∧ Sep w (both7 tg gm wm n m g wt rg gb wb lb G W L) ∧ RelL g wt G W L ∧ GrOk g ∧ WtOk wt
  keep h t := by
    obtain ⟨n, m, G, W, L, h1, h2, h3, h4⟩ := h
    exact ⟨n, m, G, W, L, h1, h2, h3.turns t (fun k _ hk i c hi hF => hk (foot7 i c hi k hF)), h4⟩
  lt h b hb := by
    obtain ⟨n, m, G, W, L, h1, h2, h3, h4⟩ := h
    obtain ⟨j, d, hj, hd⟩ := foot7' (n := n) (m := m) (g := g) (wt := wt) (G := G) (W := W) (L := L) hb
    exact d.lt (h3.all j d hj) b hd
theorem both_open {w : World} {tg gm wm rg gb wb lb K : Nat} {g : GrF} {wt : WtF} {R : List Ch} (h : Sep w (bothC tg gm wm rg gb wb lb K g wt :: R)) :
    ∃ n m G W L, n ≤ K ∧ m ≤ K ∧ Sep w (both7 tg gm wm n m g wt rg gb wb lb G W L ++ R) ∧ RelL g wt G W L ∧ GrOk g ∧ WtOk wt := by
  obtain ⟨n, m, G, W, L, h1, h2, h3, h4⟩ : (bothC tg gm wm rg gb wb lb K g wt).P w := h.get 0 rfl
  exact ⟨n, m, G, W, L, h1, h2, Sep.swap (A := [bothC tg gm wm rg gb wb lb K g wt]) h h3 (fun i c hi k hk => ⟨0, _, rfl, foot7 i c hi k hk⟩), h4⟩
theorem both_close {w : World} {tg gm wm rg gb wb lb K n m : Nat} {g : GrF} {wt : WtF} {G : List Gr3} {W L : List Int} {R : List Ch} (hn : n ≤ K) (hm : m ≤ K) (h : Sep w (both7 tg gm wm n m g wt rg gb wb lb G W L ++ R)) (hR : RelL g wt G W L) (hok : GrOk g) (hwo : WtOk wt) : Sep w (bothC tg gm wm rg gb wb lb K g wt :: R) := by
  refine Sep.swap (A := both7 tg gm wm n m g wt rg gb wb lb G W L) (B := [bothC tg gm wm rg gb wb lb K g wt]) h ?_ (fun i c hi k hk => ?_)
  · refine Sep.cons ⟨n, m, G, W, L, hn, hm, h.left, hR, hok, hwo⟩ (Sep.nil _) (fun i d hi => by simp at hi)
  · cases i with
    | zero => cases hi; exact foot7' hk
    | succ i => simp at hi
theorem sameI_t {w : World} {B B' : Nat} {a b : Option Addr} {c d : Nat} {xs ys : List Int} {R : List Ch} (hS : Sep w (ownC B 3 1 a xs.length c (xs.map iV) :: ownC B' 3 1 b ys.length d (ys.map iV) :: R)) :
    CallsR Try.prog 14 #[.slice a xs.length c, .slice b ys.length d] w fun v w' => v = .bool (decide (xs = ys)) ∧ Sep w' (ownC B 3 1 a xs.length c (xs.map iV) :: ownC B' 3 1 b ys.length d (ys.map iV) :: R) :=
  (sameInts_any a b c d xs ys w (Own.row (hS.get 0 rfl : Own _ _ _ _ _ _ _ _)) (Own.row (hS.get 1 rfl : Own _ _ _ _ _ _ _ _))).mono fun e w' ⟨e1, hb⟩ => ⟨_, e1, rfl, hS.mono hb⟩
theorem sameI_s {w : World} {B B' : Nat} {a b : Option Addr} {c d : Nat} {xs : List Int} {R : List Ch} (hS : Sep w (ownC B 3 1 a xs.length c (xs.map iV) :: ownC B' 3 1 b xs.length d (xs.map iV) :: R)) :
    CallsR Try.prog 14 #[.slice a xs.length c, .slice b xs.length d] w fun v w' => v = .bool true ∧ Sep w' (ownC B 3 1 a xs.length c (xs.map iV) :: ownC B' 3 1 b xs.length d (xs.map iV) :: R) :=
  (sameI_t hS).mono fun v w' ⟨e1, h⟩ => ⟨by rw [e1]; simp, h⟩

theorem fa_commonslaw19_Deed_lg1_0 (g off : Nat) (w : World) : (Instr.fieldAt 29 (.pointer (some ⟨g, off, none⟩)) 0).run Try.prog w = .ok (.pointer (some ⟨g, off + 0, none⟩)) w := rfl
theorem fa_commonslaw19_Deed_lg1_1 (g off : Nat) (w : World) : (Instr.fieldAt 29 (.pointer (some ⟨g, off, none⟩)) 1).run Try.prog w = .ok (.pointer (some ⟨g, off + 1, none⟩)) w := rfl
theorem fa_commonslaw19_Deed_lg1_2 (g off : Nat) (w : World) : (Instr.fieldAt 29 (.pointer (some ⟨g, off, none⟩)) 2).run Try.prog w = .ok (.pointer (some ⟨g, off + 2, none⟩)) w := rfl
theorem fa_commonslaw19_Deed_lg1_3 (g off : Nat) (w : World) : (Instr.fieldAt 29 (.pointer (some ⟨g, off, none⟩)) 3).run Try.prog w = .ok (.pointer (some ⟨g, off + 3, none⟩)) w := rfl
theorem fa_commonslaw19_Deed_lg1_4 (g off : Nat) (w : World) : (Instr.fieldAt 29 (.pointer (some ⟨g, off, none⟩)) 4).run Try.prog w = .ok (.pointer (some ⟨g, off + 4, none⟩)) w := rfl
theorem cp_lease_Table_Ask_lg1 (args : Array Value) (w : World) : (callFunc 17 args).run Try.prog w = .ok (.enter 17 args) w := by
  have h := Try.func17
  go_simp
theorem cp_commonsref19_Table_Ask_lg1 (args : Array Value) (w : World) : (callFunc 20 args).run Try.prog w = .ok (.enter 20 args) w := by
  have h := Try.func20
  go_simp
theorem cp_commonsref03_SameInts_lg1 (args : Array Value) (w : World) : (callFunc 14 args).run Try.prog w = .ok (.enter 14 args) w := by
  have h := Try.func14
  go_simp
theorem cp_lease_Table_Give_lg1 (args : Array Value) (w : World) : (callFunc 21 args).run Try.prog w = .ok (.enter 21 args) w := by
  have h := Try.func21
  go_simp
theorem cp_commonsref19_Table_Give_lg1 (args : Array Value) (w : World) : (callFunc 22 args).run Try.prog w = .ok (.enter 22 args) w := by
  have h := Try.func22
  go_simp
theorem cp_lease_Table_Drop_lg1 (args : Array Value) (w : World) : (callFunc 18 args).run Try.prog w = .ok (.enter 18 args) w := by
  have h := Try.func18
  go_simp
theorem cp_commonsref19_Table_Drop_lg1 (args : Array Value) (w : World) : (callFunc 23 args).run Try.prog w = .ok (.enter 23 args) w := by
  have h := Try.func23
  go_simp

set_option maxHeartbeats 4000000 in
theorem does_s {w : World} {tg gm wm rg gb wb lb K : Nat} {g : GrF} {wt : WtF} {R : List Ch} (hSb : Sep w (bothC tg gm wm rg gb wb lb K g wt :: R)) (hK : K < 1000) (d : DeedV) (hd : d.wf) :
    CallsR Try.prog 10 #[.pointer (some ⟨tg, 0, none⟩), .pointer (some ⟨rg, 0, none⟩), .agg #[.int .i64 d.k, .int .i64 d.now, .int .i64 d.c, .int .i64 d.i, .bool d.own]] w (fun v w' => v = .bool true ∧ Sep w' (bothC tg gm wm rg gb wb lb (K + 1) (stepG d g wt) (stepW d g wt) :: R)) := by
  obtain ⟨n, m, G, W, L, hnK, hmK, hS0, hR, hok, hwo⟩ := both_open hSb; clear hSb
  have hS : Sep w [blkC tg 54 [.map (some gm), .map (some wm)], mapC KG gm n g, mapC KW wm m wt, blkC rg 43 [.slice (some ⟨gb, 0, none⟩) 297 297, .slice (some ⟨wb, 0, none⟩) 33 33, .slice (some ⟨lb, 0, none⟩) 33 33], blkC gb 58 (G.flatMap g3C), blkC wb 3 (W.map iV), blkC lb 3 (L.map iV), Ch.many R] := Sep.tail_many (xs := [_, _, _, _, _, _, _]) hS0; clear hS0; obtain ⟨hG, hW, hL⟩ := hR.n
  have hkw := i64_bd hd.1; have hnw := i64_bd hd.2.1; have hcw := i64_bd hd.2.2.1; have hiw := i64_bd hd.2.2.2
  refine enterR Try.func10 rfl (N := 76) Try.ntmps10 (by show 3 ≤ 76; decide) [(0, .pointer (some ⟨tg, 0, none⟩)), (1, .pointer (some ⟨rg, 0, none⟩)), (2, .agg #[.int .i64 d.k, .int .i64 d.now, .int .i64 d.c, .int .i64 d.i, .bool d.own])] rfl fun a2 h1 => ?_
  refine wp_seq_k fun K3 hK3 => ?_
  refine wp_region_lit ?_
  refine so (wanted_none rfl) fun K11 hK11 => xbox h1 rfl rfl rfl rfl rfl (z := [.int .i64 d.k, .int .i64 d.now, .int .i64 d.c, .int .i64 d.i, .bool d.own]) rfl hS fun a6 g4 w7 h5 s8 b9 e10 => hK11 _ _ ?_
  clear hK11 K11
  clear b9 e10
  refine sv h5 (wanted_none rfl) rfl rfl rfl (v := .bool false) (rassign h5 rfl rfl) fun a13 h12 => ?_
  refine wpList_nil ?_
  refine hK3 _ _ ?_
  refine wp_seq_k fun K14 hK14 => ?_
  refine wp_seq_k fun K15 hK15 => ?_
  refine wp_region_lit ?_
  refine sv h12 (wanted_none rfl) rfl rfl rfl (v := .pointer (some ⟨g4, 0, none⟩)) (rfa h12 rfl rfl (fun w => fa_commonslaw19_Deed_lg1_0 g4 0 w)) fun a17 h16 => ?_
  refine sw h16 (wanted_none rfl) rfl rfl rfl (v := .int .i64 d.k) (rld h16 rfl rfl (ldB Try.underlying3 rfl (s8.get 0 rfl : Blk _ _ _ _) rfl)) fun a19 h18 => ?_
  have h20 := h18.subs (l' := [(13, _), (6, _), (5, _), (0, _), (1, _), (2, _)]) rfl
  clear h18 h1 h5 h12 h16 a2 a6 a13 a17
  refine wpList_nil ?_
  refine hK15 _ _ ?_
  refine wp_block ?_
  refine wp_seq_k fun K21 hK21 => ?_
  refine wp_region_lit ?_
  refine sv h20 (wanted_none rfl) rfl rfl rfl (v := .bool (decide (d.k = 0))) (rbin h20 rfl rfl rfl (cEq _ _ _ _ rfl)) fun a23 h22 => ?_
  refine sv h22 (wanted_none rfl) rfl rfl rfl (v := .bool (decide (d.k = 0))) (rassign h22 rfl rfl) fun a25 h24 => ?_
  have h26 := h24.subs (l' := [(14, _), (13, _), (6, _), (5, _), (0, _), (1, _), (2, _)]) rfl
  clear h24 h20 h22 a19 a23
  refine wpList_nil ?_
  refine hK21 _ _ ?_
  rcases Bool.eq_false_or_eq_true (decide (d.k = 0)) with hc27 | hc27
  · skip
    have hp28 : d.k = 0 := (of_decide_eq_true hc27)
    refine wp_condS h26 rfl hc27 ?_
    simp only [if_true]
    have h29 := h26.subs (l' := [(13, _), (6, _), (5, _), (0, _), (1, _), (2, _)]) rfl
    clear h26
    refine wp_seq_k fun K30 hK30 => ?_
    refine wp_region_lit ?_
    refine sv h29 (wanted_none rfl) rfl rfl rfl (v := .pointer (some ⟨tg, 0, none⟩)) (rmove h29 rfl rfl) fun a32 h31 => ?_
    refine sv h31 (wanted_none rfl) rfl rfl rfl (v := .pointer (some ⟨g4, 1, none⟩)) (rfa h31 rfl rfl (fun w => fa_commonslaw19_Deed_lg1_1 g4 0 w)) fun a34 h33 => ?_
    refine sw h33 (wanted_none rfl) rfl rfl rfl (v := .int .i64 d.now) (rld h33 rfl rfl (ldB Try.underlying3 rfl (s8.get 0 rfl : Blk _ _ _ _) rfl)) fun a36 h35 => ?_
    refine sv h35 (wanted_none rfl) rfl rfl rfl (v := .pointer (some ⟨g4, 2, none⟩)) (rfa h35 rfl rfl (fun w => fa_commonslaw19_Deed_lg1_2 g4 0 w)) fun a38 h37 => ?_
    refine sw h37 (wanted_none rfl) rfl rfl rfl (v := .int .i64 d.c) (rld h37 rfl rfl (ldB Try.underlying3 rfl (s8.get 0 rfl : Blk _ _ _ _) rfl)) fun a40 h39 => ?_
    refine sv h39 (wanted_none rfl) rfl rfl rfl (v := .pointer (some ⟨g4, 3, none⟩)) (rfa h39 rfl rfl (fun w => fa_commonslaw19_Deed_lg1_3 g4 0 w)) fun a42 h41 => ?_
    refine sw h41 (wanted_none rfl) rfl rfl rfl (v := .int .i64 d.i) (rld h41 rfl rfl (ldB Try.underlying3 rfl (s8.get 0 rfl : Blk _ _ _ _) rfl)) fun a44 h43 => ?_
    refine sv h43 (wanted_none rfl) rfl rfl rfl (v := .pointer (some ⟨g4, 4, none⟩)) (rfa h43 rfl rfl (fun w => fa_commonslaw19_Deed_lg1_4 g4 0 w)) fun a46 h45 => ?_
    refine sw h45 (wanted_none rfl) rfl rfl rfl (v := .bool d.own) (rld h45 rfl rfl (ldB Try.underlying4 rfl (s8.get 0 rfl : Blk _ _ _ _) rfl)) fun a48 h47 => ?_
    refine so (wanted_none rfl) fun K59 hK59 => xcall h47 rfl rfl rfl (xs := [.tmp 17, .tmp 19, .tmp 21, .tmp 23, .tmp 25]) rfl cp_lease_Table_Ask_lg1 rfl (vs := [.pointer (some ⟨tg, 0, none⟩), .int .i64 d.now, .int .i64 d.c, .int .i64 d.i, .bool d.own]) rfl (args := #[.pointer (some ⟨tg, 0, none⟩), .int .i64 d.now, .int .i64 d.c, .int .i64 d.i, .bool d.own]) rfl (askT_s (tg := tg) (gm := gm) (wm := wm) (R := [blkC g4 29 [.int .i64 d.k, .int .i64 d.now, .int .i64 d.c, .int .i64 d.i, .bool d.own], blkC rg 43 [.slice (some ⟨gb, 0, none⟩) 297 297, .slice (some ⟨wb, 0, none⟩) 33 33, .slice (some ⟨lb, 0, none⟩) 33 33], blkC gb 58 (G.flatMap g3C), blkC wb 3 (W.map iV), blkC lb 3 (L.map iV), Ch.many R]) ((s8.pick [1, 2, 3, 0, 4, 5, 6, 7, 8] (by decide) rfl) : Sep _ [blkC tg 54 [.map (some gm), .map (some wm)], mapC KG gm n g, mapC KW wm m wt, blkC g4 29 [.int .i64 d.k, .int .i64 d.now, .int .i64 d.c, .int .i64 d.i, .bool d.own], blkC rg 43 [.slice (some ⟨gb, 0, none⟩) 297 297, .slice (some ⟨wb, 0, none⟩) 33 33, .slice (some ⟨lb, 0, none⟩) 33 33], blkC gb 58 (G.flatMap g3C), blkC wb 3 (W.map iV), blkC lb 3 (L.map iV), Ch.many R]) hok (by omega) (by omega) d.now d.c d.i d.own) fun a54 v55 w56 r57 h53 => hK59 _ _ ?_
    clear hK59 K59
    obtain ⟨lax49, lcx50, nx51, mx52, rfl, s58, hn57, hm57⟩ := r57
    refine sv h53 (wanted_none rfl) rfl rfl rfl (v := .tuple #[.slice lax49 ((askLst g d.now d.c d.i d.own).length) lcx50, .int .i64 (askE g wt d.now d.c d.i d.own)]) (rmove h53 rfl rfl) fun a61 h60 => ?_
    refine sv h60 (wanted_none rfl) rfl rfl rfl (v := .slice lax49 ((askLst g d.now d.c d.i d.own).length) lcx50) (rext h60 rfl rfl rfl) fun a63 h62 => ?_
    refine sv h62 (wanted_none rfl) rfl rfl rfl (v := .int .i64 (askE g wt d.now d.c d.i d.own)) (rext h62 rfl rfl rfl) fun a65 h64 => ?_
    refine sv h64 (wanted_none rfl) rfl rfl rfl (v := .slice lax49 ((askLst g d.now d.c d.i d.own).length) lcx50) (rassign h64 rfl rfl) fun a67 h66 => ?_
    refine sv h66 (wanted_none rfl) rfl rfl rfl (v := .int .i64 (askE g wt d.now d.c d.i d.own)) (rassign h66 rfl rfl) fun a69 h68 => ?_
    have h70 := h68.subs (l' := [(8, _), (7, _), (13, _), (6, _), (5, _), (0, _), (1, _), (2, _)]) rfl
    clear h68 h29 h31 h33 h35 h37 h39 h41 h43 h45 h47 h53 h60 h62 h64 h66 a25 a32 a34 a36 a38 a40 a42 a44 a46 a48 a54 a61 a63 a65 a67
    refine wpList_nil ?_
    refine hK30 _ _ ?_
    refine wp_seq_k fun K71 hK71 => ?_
    refine wp_region_lit ?_
    refine sv h70 (wanted_none rfl) rfl rfl rfl (v := .pointer (some ⟨rg, 0, none⟩)) (rmove h70 rfl rfl) fun a73 h72 => ?_
    refine sv h72 (wanted_none rfl) rfl rfl rfl (v := .pointer (some ⟨g4, 1, none⟩)) (rfa h72 rfl rfl (fun w => fa_commonslaw19_Deed_lg1_1 g4 0 w)) fun a75 h74 => ?_
    refine sw h74 (wanted_none rfl) rfl rfl rfl (v := .int .i64 d.now) (rld h74 rfl rfl (ldB Try.underlying3 rfl (s58.get 4 rfl : Blk _ _ _ _) rfl)) fun a77 h76 => ?_
    refine sv h76 (wanted_none rfl) rfl rfl rfl (v := .pointer (some ⟨g4, 2, none⟩)) (rfa h76 rfl rfl (fun w => fa_commonslaw19_Deed_lg1_2 g4 0 w)) fun a79 h78 => ?_
    refine sw h78 (wanted_none rfl) rfl rfl rfl (v := .int .i64 d.c) (rld h78 rfl rfl (ldB Try.underlying3 rfl (s58.get 4 rfl : Blk _ _ _ _) rfl)) fun a81 h80 => ?_
    refine sv h80 (wanted_none rfl) rfl rfl rfl (v := .pointer (some ⟨g4, 3, none⟩)) (rfa h80 rfl rfl (fun w => fa_commonslaw19_Deed_lg1_3 g4 0 w)) fun a83 h82 => ?_
    refine sw h82 (wanted_none rfl) rfl rfl rfl (v := .int .i64 d.i) (rld h82 rfl rfl (ldB Try.underlying3 rfl (s58.get 4 rfl : Blk _ _ _ _) rfl)) fun a85 h84 => ?_
    refine sv h84 (wanted_none rfl) rfl rfl rfl (v := .pointer (some ⟨g4, 4, none⟩)) (rfa h84 rfl rfl (fun w => fa_commonslaw19_Deed_lg1_4 g4 0 w)) fun a87 h86 => ?_
    refine sw h86 (wanted_none rfl) rfl rfl rfl (v := .bool d.own) (rld h86 rfl rfl (ldB Try.underlying4 rfl (s58.get 4 rfl : Blk _ _ _ _) rfl)) fun a89 h88 => ?_
    refine so (wanted_none rfl) fun K101 hK101 => xcall h88 rfl rfl rfl (xs := [.tmp 30, .tmp 32, .tmp 34, .tmp 36, .tmp 38]) rfl cp_commonsref19_Table_Ask_lg1 rfl (vs := [.pointer (some ⟨rg, 0, none⟩), .int .i64 d.now, .int .i64 d.c, .int .i64 d.i, .bool d.own]) rfl (args := #[.pointer (some ⟨rg, 0, none⟩), .int .i64 d.now, .int .i64 d.c, .int .i64 d.i, .bool d.own]) rfl (askR_any (R := [ownC 0 3 1 lax49 (askLst g d.now d.c d.i d.own).length lcx50 ((askLst g d.now d.c d.i d.own).map iV), blkC tg 54 [.map (some gm), .map (some wm)], mapC KG gm nx51 (askG g wt d.now d.c d.i d.own), mapC KW wm mx52 (askW g wt d.now d.c d.i d.own), blkC g4 29 [.int .i64 d.k, .int .i64 d.now, .int .i64 d.c, .int .i64 d.i, .bool d.own], Ch.many R]) ((s58.pick [5, 6, 7, 8, 0, 1, 2, 3, 4, 9] (by decide) rfl) : Sep _ [blkC rg 43 [.slice (some ⟨gb, 0, none⟩) 297 297, .slice (some ⟨wb, 0, none⟩) 33 33, .slice (some ⟨lb, 0, none⟩) 33 33], blkC gb 58 (G.flatMap g3C), blkC wb 3 (W.map iV), blkC lb 3 (L.map iV), ownC 0 3 1 lax49 (askLst g d.now d.c d.i d.own).length lcx50 ((askLst g d.now d.c d.i d.own).map iV), blkC tg 54 [.map (some gm), .map (some wm)], mapC KG gm nx51 (askG g wt d.now d.c d.i d.own), mapC KW wm mx52 (askW g wt d.now d.c d.i d.own), blkC g4 29 [.int .i64 d.k, .int .i64 d.now, .int .i64 d.c, .int .i64 d.i, .bool d.own], Ch.many R]) hR hd.2.1 hd.2.2.1 hd.2.2.2) fun a96 v97 w98 r99 h95 => hK101 _ _ ?_
    clear hK101 K101
    obtain ⟨lax90, lcx91, Gx92, Wx93, Lx94, rfl, s100, hR99⟩ := r99
    refine sv h95 (wanted_none rfl) rfl rfl rfl (v := .tuple #[.slice lax90 ((askLst g d.now d.c d.i d.own).length) lcx91, .int .i64 (askE g wt d.now d.c d.i d.own)]) (rmove h95 rfl rfl) fun a103 h102 => ?_
    refine sv h102 (wanted_none rfl) rfl rfl rfl (v := .slice lax90 ((askLst g d.now d.c d.i d.own).length) lcx91) (rext h102 rfl rfl rfl) fun a105 h104 => ?_
    refine sv h104 (wanted_none rfl) rfl rfl rfl (v := .int .i64 (askE g wt d.now d.c d.i d.own)) (rext h104 rfl rfl rfl) fun a107 h106 => ?_
    refine sv h106 (wanted_none rfl) rfl rfl rfl (v := .slice lax90 ((askLst g d.now d.c d.i d.own).length) lcx91) (rassign h106 rfl rfl) fun a109 h108 => ?_
    refine sv h108 (wanted_none rfl) rfl rfl rfl (v := .int .i64 (askE g wt d.now d.c d.i d.own)) (rassign h108 rfl rfl) fun a111 h110 => ?_
    have h112 := h110.subs (l' := [(10, _), (9, _), (8, _), (7, _), (13, _), (6, _), (5, _), (0, _), (1, _), (2, _)]) rfl
    clear h110 h70 h72 h74 h76 h78 h80 h82 h84 h86 h88 h95 h102 h104 h106 h108 a69 a73 a75 a77 a79 a81 a83 a85 a87 a89 a96 a103 a105 a107 a109
    refine wpList_nil ?_
    refine hK71 _ _ ?_
    refine wp_seq_k fun K113 hK113 => ?_
    refine wp_region_lit ?_
    refine sv h112 (wanted_none rfl) rfl rfl rfl (v := .slice lax49 ((askLst g d.now d.c d.i d.own).length) lcx50) (rmove h112 rfl rfl) fun a115 h114 => ?_
    refine sv h114 (wanted_none rfl) rfl rfl rfl (v := .slice lax90 ((askLst g d.now d.c d.i d.own).length) lcx91) (rmove h114 rfl rfl) fun a117 h116 => ?_
    refine so (wanted_none rfl) fun K124 hK124 => xcall h116 rfl rfl rfl (xs := [.tmp 42, .tmp 43]) rfl cp_commonsref03_SameInts_lg1 rfl (vs := [.slice lax49 ((askLst g d.now d.c d.i d.own).length) lcx50, .slice lax90 ((askLst g d.now d.c d.i d.own).length) lcx91]) rfl (args := #[.slice lax49 ((askLst g d.now d.c d.i d.own).length) lcx50, .slice lax90 ((askLst g d.now d.c d.i d.own).length) lcx91]) rfl (sameI_s (R := [blkC rg 43 [.slice (some ⟨gb, 0, none⟩) 297 297, .slice (some ⟨wb, 0, none⟩) 33 33, .slice (some ⟨lb, 0, none⟩) 33 33], blkC gb 58 (Gx92.flatMap g3C), blkC wb 3 (Wx93.map iV), blkC lb 3 (Lx94.map iV), blkC tg 54 [.map (some gm), .map (some wm)], mapC KG gm nx51 (askG g wt d.now d.c d.i d.own), mapC KW wm mx52 (askW g wt d.now d.c d.i d.own), blkC g4 29 [.int .i64 d.k, .int .i64 d.now, .int .i64 d.c, .int .i64 d.i, .bool d.own], Ch.many R]) ((s100.pick [5, 0, 1, 2, 3, 4, 6, 7, 8, 9, 10] (by decide) rfl) : Sep _ [ownC 0 3 1 lax49 (askLst g d.now d.c d.i d.own).length lcx50 ((askLst g d.now d.c d.i d.own).map iV), ownC 0 3 1 lax90 (askLst g d.now d.c d.i d.own).length lcx91 ((askLst g d.now d.c d.i d.own).map iV), blkC rg 43 [.slice (some ⟨gb, 0, none⟩) 297 297, .slice (some ⟨wb, 0, none⟩) 33 33, .slice (some ⟨lb, 0, none⟩) 33 33], blkC gb 58 (Gx92.flatMap g3C), blkC wb 3 (Wx93.map iV), blkC lb 3 (Lx94.map iV), blkC tg 54 [.map (some gm), .map (some wm)], mapC KG gm nx51 (askG g wt d.now d.c d.i d.own), mapC KW wm mx52 (askW g wt d.now d.c d.i d.own), blkC g4 29 [.int .i64 d.k, .int .i64 d.now, .int .i64 d.c, .int .i64 d.i, .bool d.own], Ch.many R])) fun a119 v120 w121 r122 h118 => hK124 _ _ ?_
    clear hK124 K124
    obtain ⟨rfl, s123⟩ := r122
    refine sv h118 (wanted_none rfl) rfl rfl rfl (v := .bool true) (rassign h118 rfl rfl) fun a126 h125 => ?_
    have h127 := h125.subs (l' := [(11, _), (10, _), (9, _), (8, _), (7, _), (13, _), (6, _), (5, _), (0, _), (1, _), (2, _)]) rfl
    clear h125 h112 h114 h116 h118 a111 a115 a117 a119
    refine wpList_nil ?_
    refine hK113 _ _ ?_
    refine wp_seq_k fun K128 hK128 => ?_
    refine wp_region_lit ?_
    refine sv h127 (wanted_none rfl) rfl rfl rfl (v := .bool true) (rmove h127 rfl rfl) fun a130 h129 => ?_
    refine sv h129 (wanted_none rfl) rfl rfl rfl (v := .bool true) (rmove h129 rfl rfl) fun a132 h131 => ?_
    refine sv h131 (wT h131 (E := true) rfl rfl rfl) rfl rfl rfl (v := .int .i64 (askE g wt d.now d.c d.i d.own)) (rmove h131 rfl rfl) fun a134 h133 => ?_
    refine sv h133 (wT h133 (E := true) rfl rfl rfl) rfl rfl rfl (v := .int .i64 (askE g wt d.now d.c d.i d.own)) (rmove h133 rfl rfl) fun a136 h135 => ?_
    refine sv h135 (wT h135 (E := true) rfl rfl rfl) rfl rfl rfl (v := .bool true) (rbin h135 rfl rfl rfl (cEq _ _ _ _ (decide_eq_true rfl))) fun a138 h137 => ?_
    refine sv h137 (wanted_none rfl) rfl rfl rfl (v := .bool true) (rpick h137 rfl rfl rfl) fun a140 h139 => ?_
    have h141 := h139.subs (l' := [(50, _), (49, _), (48, _), (47, _), (46, _), (45, _), (11, _), (10, _), (9, _), (8, _), (7, _), (13, _), (5, _), (0, _), (1, _), (2, _)]) rfl
    clear h139 h127 h129 h131 h133 h135 h137 a126 a130 a132 a134 a136 a138
    refine sv h141 (wanted_none rfl) rfl rfl rfl (v := .bool true) (rassign h141 rfl rfl) fun a143 h142 => ?_
    have h144 := h142.subs (l' := [(6, _), (11, _), (10, _), (9, _), (8, _), (7, _), (13, _), (5, _), (0, _), (1, _), (2, _)]) rfl
    clear h142 h141 a140
    refine wpList_nil ?_
    refine hK128 _ _ ?_
    refine wp_ret ?_
    try simp only [Exit.then, Exit.inBlock]
    refine retR (v := .bool true) (res1 h144 rfl rfl) h144.defs ?_
    refine ⟨rfl, ?_⟩
    rw [step_askG (by omega), step_askW (by omega)]
    exact both_close (K := K + 1) (by omega) (by omega) (Sep.tail_un (xs := both7 _ _ _ _ _ _ _ _ _ _ _ _ _ _) ((s123.pick [6, 7, 8, 2, 3, 4, 5, 10] (by decide) rfl) : Sep _ [blkC tg 54 [.map (some gm), .map (some wm)], mapC KG gm nx51 (askG g wt d.now d.c d.i d.own), mapC KW wm mx52 (askW g wt d.now d.c d.i d.own), blkC rg 43 [.slice (some ⟨gb, 0, none⟩) 297 297, .slice (some ⟨wb, 0, none⟩) 33 33, .slice (some ⟨lb, 0, none⟩) 33 33], blkC gb 58 (Gx92.flatMap g3C), blkC wb 3 (Wx93.map iV), blkC lb 3 (Lx94.map iV), Ch.many R])) hR99 (hok.ask wt d.now d.c d.i d.own) (hwo.ask g d.now d.c d.i d.own)
  · skip
    have hp145 : ¬ (d.k = 0) := (of_decide_eq_false hc27)
    refine wp_condS h26 rfl hc27 ?_
    simp only [Bool.false_eq_true, if_false]
    have h146 := h26.subs (l' := [(13, _), (6, _), (5, _), (0, _), (1, _), (2, _)]) rfl
    clear h26
    refine wp_seq_k fun K147 hK147 => ?_
    refine wp_region_lit ?_
    refine sv h146 (wanted_none rfl) rfl rfl rfl (v := .bool (decide (d.k = 1))) (rbin h146 rfl rfl rfl (cEq _ _ _ _ rfl)) fun a149 h148 => ?_
    refine sv h148 (wanted_none rfl) rfl rfl rfl (v := .bool (decide (d.k = 1))) (rassign h148 rfl rfl) fun a151 h150 => ?_
    have h152 := h150.subs (l' := [(51, _), (13, _), (6, _), (5, _), (0, _), (1, _), (2, _)]) rfl
    clear h150 h146 h148 a25 a149
    refine wpList_nil ?_
    refine hK147 _ _ ?_
    rcases Bool.eq_false_or_eq_true (decide (d.k = 1)) with hc153 | hc153
    · skip
      have hp154 : d.k = 1 := (of_decide_eq_true hc153)
      refine wp_condS h152 rfl hc153 ?_
      simp only [if_true]
      have h155 := h152.subs (l' := [(13, _), (6, _), (5, _), (0, _), (1, _), (2, _)]) rfl
      clear h152
      refine wp_seq_k fun K156 hK156 => ?_
      have s158 := s8.drew
      refine wp_region_held_drew (S := fun w' => Sep w' [blkC g4 29 [.int .i64 d.k, .int .i64 d.now, .int .i64 d.c, .int .i64 d.i, .bool d.own], blkC tg 54 [.map (some gm), .map (some wm)], mapC KW wm m wt, Ch.many R]) (by kernel_rfl) (s158.pick [0, 1, 3, 8] (by decide) rfl) (fun hq157 => ?_)
      refine tv hq157 h155 0 rfl rfl rfl rfl (by kernel_rfl) (by kernel_rfl) (by kernel_rfl) (fun _ _ _ _ h => h) (wanted_none rfl) (v := .pointer (some ⟨tg, 0, none⟩)) (fun w1 _ => (rmove h155 rfl rfl) w1) fun a160 h159 => ?_
      refine tv hq157 h159 1 rfl rfl rfl rfl (by kernel_rfl) (by kernel_rfl) (by kernel_rfl) (fun _ _ _ _ h => h) (wanted_none rfl) (v := .pointer (some ⟨g4, 2, none⟩)) (fun w1 _ => (rfa h159 rfl rfl (fun w => fa_commonslaw19_Deed_lg1_2 g4 0 w)) w1) fun a162 h161 => ?_
      refine tv hq157 h161 2 rfl rfl rfl rfl (by kernel_rfl) (by kernel_rfl) (by kernel_rfl) (fun _ _ _ _ h => h) (wanted_none rfl) (v := .int .i64 d.c) (fun w1 hSw => (rld h161 rfl rfl (ldB Try.underlying3 rfl (hSw.get 0 rfl : Blk _ _ _ _) rfl))) fun a164 h163 => ?_
      refine tv hq157 h163 3 rfl rfl rfl rfl (by kernel_rfl) (by kernel_rfl) (by kernel_rfl) (fun _ _ _ _ h => h) (wanted_none rfl) (v := .pointer (some ⟨g4, 3, none⟩)) (fun w1 _ => (rfa h163 rfl rfl (fun w => fa_commonslaw19_Deed_lg1_3 g4 0 w)) w1) fun a166 h165 => ?_
      refine tv hq157 h165 4 rfl rfl rfl rfl (by kernel_rfl) (by kernel_rfl) (by kernel_rfl) (fun _ _ _ _ h => h) (wanted_none rfl) (v := .int .i64 d.i) (fun w1 hSw => (rld h165 rfl rfl (ldB Try.underlying3 rfl (hSw.get 0 rfl : Blk _ _ _ _) rfl))) fun a168 h167 => ?_
      refine tv hq157 h167 6 rfl rfl rfl rfl (by kernel_rfl) (by kernel_rfl) (by kernel_rfl) (fun _ _ _ _ h => h) (wanted_none rfl) (v := .pointer (some ⟨rg, 0, none⟩)) (fun w1 _ => (rmove h167 rfl rfl) w1) fun a170 h169 => ?_
      refine tv hq157 h169 7 rfl rfl rfl rfl (by kernel_rfl) (by kernel_rfl) (by kernel_rfl) (fun _ _ _ _ h => h) (wanted_none rfl) (v := .pointer (some ⟨g4, 2, none⟩)) (fun w1 _ => (rfa h169 rfl rfl (fun w => fa_commonslaw19_Deed_lg1_2 g4 0 w)) w1) fun a172 h171 => ?_
      refine tv hq157 h171 8 rfl rfl rfl rfl (by kernel_rfl) (by kernel_rfl) (by kernel_rfl) (fun _ _ _ _ h => h) (wanted_none rfl) (v := .int .i64 d.c) (fun w1 hSw => (rld h171 rfl rfl (ldB Try.underlying3 rfl (hSw.get 0 rfl : Blk _ _ _ _) rfl))) fun a174 h173 => ?_
      refine tv hq157 h173 9 rfl rfl rfl rfl (by kernel_rfl) (by kernel_rfl) (by kernel_rfl) (fun _ _ _ _ h => h) (wanted_none rfl) (v := .pointer (some ⟨g4, 3, none⟩)) (fun w1 _ => (rfa h173 rfl rfl (fun w => fa_commonslaw19_Deed_lg1_3 g4 0 w)) w1) fun a176 h175 => ?_
      refine tv hq157 h175 10 rfl rfl rfl rfl (by kernel_rfl) (by kernel_rfl) (by kernel_rfl) (fun _ _ _ _ h => h) (wanted_none rfl) (v := .int .i64 d.i) (fun w1 hSw => (rld h175 rfl rfl (ldB Try.underlying3 rfl (hSw.get 0 rfl : Blk _ _ _ _) rfl))) fun a178 h177 => ?_
      refine to_ 5 rfl (wanted_none rfl) (by kernel_rfl) fun K186 hK186 => xcall h177 rfl rfl rfl (xs := [.tmp 53, .tmp 55, .tmp 57]) rfl cp_lease_Table_Give_lg1 rfl (vs := [.pointer (some ⟨tg, 0, none⟩), .int .i64 d.c, .int .i64 d.i]) rfl (args := #[.pointer (some ⟨tg, 0, none⟩), .int .i64 d.c, .int .i64 d.i]) rfl (giveT_s (tg := tg) (gm := gm) (wm := wm) (R := [blkC g4 29 [.int .i64 d.k, .int .i64 d.now, .int .i64 d.c, .int .i64 d.i, .bool d.own], blkC rg 43 [.slice (some ⟨gb, 0, none⟩) 297 297, .slice (some ⟨wb, 0, none⟩) 33 33, .slice (some ⟨lb, 0, none⟩) 33 33], blkC gb 58 (G.flatMap g3C), blkC wb 3 (W.map iV), blkC lb 3 (L.map iV), Ch.many R]) ((s158.pick [1, 2, 3, 0, 4, 5, 6, 7, 8] (by decide) rfl) : Sep _ [blkC tg 54 [.map (some gm), .map (some wm)], mapC KG gm n g, mapC KW wm m wt, blkC g4 29 [.int .i64 d.k, .int .i64 d.now, .int .i64 d.c, .int .i64 d.i, .bool d.own], blkC rg 43 [.slice (some ⟨gb, 0, none⟩) 297 297, .slice (some ⟨wb, 0, none⟩) 33 33, .slice (some ⟨lb, 0, none⟩) 33 33], blkC gb 58 (G.flatMap g3C), blkC wb 3 (W.map iV), blkC lb 3 (L.map iV), Ch.many R]) (c := d.c) (i := d.i) ⟨hd.2.2.1, hd.2.2.2⟩) fun a181 v182 w183 r184 h180 => ?_
      obtain ⟨rfl, s185⟩ := r184
      refine hK186 _ _ (s185.pick [3, 0, 2, 8] (by decide) rfl) fun hq179 => ?_
      clear hK186 K186
      refine to_ 11 rfl (wanted_none rfl) (by kernel_rfl) fun K197 hK197 => xcall h180 rfl rfl rfl (xs := [.tmp 59, .tmp 61, .tmp 63]) rfl cp_commonsref19_Table_Give_lg1 rfl (vs := [.pointer (some ⟨rg, 0, none⟩), .int .i64 d.c, .int .i64 d.i]) rfl (args := #[.pointer (some ⟨rg, 0, none⟩), .int .i64 d.c, .int .i64 d.i]) rfl (giveR_s (R := [blkC tg 54 [.map (some gm), .map (some wm)], mapC KG gm n (updG g (d.c, d.i) none), mapC KW wm m wt, blkC g4 29 [.int .i64 d.k, .int .i64 d.now, .int .i64 d.c, .int .i64 d.i, .bool d.own], Ch.many R]) ((s185.pick [4, 5, 6, 7, 0, 1, 2, 3, 8] (by decide) rfl) : Sep _ [blkC rg 43 [.slice (some ⟨gb, 0, none⟩) 297 297, .slice (some ⟨wb, 0, none⟩) 33 33, .slice (some ⟨lb, 0, none⟩) 33 33], blkC gb 58 (G.flatMap g3C), blkC wb 3 (W.map iV), blkC lb 3 (L.map iV), blkC tg 54 [.map (some gm), .map (some wm)], mapC KG gm n (updG g (d.c, d.i) none), mapC KW wm m wt, blkC g4 29 [.int .i64 d.k, .int .i64 d.now, .int .i64 d.c, .int .i64 d.i, .bool d.own], Ch.many R]) hR hok hcw hiw) fun a192 v193 w194 r195 h191 => ?_
      obtain ⟨Gx188, Wx189, Lx190, rfl, s196, hR195⟩ := r195
      refine hK197 _ _ (s196.pick [7, 4, 6, 8] (by decide) rfl) fun hq187 => ?_
      clear hK197 K197
      refine tv hq187 h191 12 rfl rfl rfl rfl (by kernel_rfl) (by kernel_rfl) (by kernel_rfl) (fun _ _ _ _ h => h) (wanted_none rfl) (v := .bool true) (fun w1 _ => (rbin h191 rfl rfl rfl (cEq _ _ _ _ (decide_eq_true rfl))) w1) fun a199 h198 => ?_
      have h200 := h198.subs (l' := [(65, _), (64, _), (58, _), (63, _), (62, _), (61, _), (60, _), (59, _), (57, _), (56, _), (55, _), (54, _), (53, _), (13, _), (5, _), (0, _), (1, _), (2, _)]) rfl
      clear h198 h155 h159 h161 h163 h165 h167 h169 h171 h173 h175 h177 h180 h191 a151 a160 a162 a164 a166 a168 a170 a172 a174 a176 a178 a181 a192
      refine tv hq187 h200 13 rfl rfl rfl rfl (by kernel_rfl) (by kernel_rfl) (by kernel_rfl) (fun _ _ _ _ h => h) (wanted_none rfl) (v := .bool true) (fun w1 _ => (rassign h200 rfl rfl) w1) fun a202 h201 => ?_
      have h203 := h201.subs (l' := [(6, _), (13, _), (5, _), (0, _), (1, _), (2, _)]) rfl
      clear h201 h200 a199
      refine wpAnyH_done (by kernel_rfl) ?_ _
      refine hK156 _ _ ?_
      refine wp_ret ?_
      try simp only [Exit.then, Exit.inBlock]
      refine retR (v := .bool true) (res1 h203 rfl rfl) h203.defs ?_
      refine ⟨rfl, ?_⟩
      rw [step_giveG (by omega), step_giveW (by omega)]
      exact both_close (K := K + 1) (by omega) (by omega) (Sep.tail_un (xs := both7 _ _ _ _ _ _ _ _ _ _ _ _ _ _) ((s196.pick [4, 5, 6, 0, 1, 2, 3, 8] (by decide) rfl) : Sep _ [blkC tg 54 [.map (some gm), .map (some wm)], mapC KG gm n (updG g (d.c, d.i) none), mapC KW wm m wt, blkC rg 43 [.slice (some ⟨gb, 0, none⟩) 297 297, .slice (some ⟨wb, 0, none⟩) 33 33, .slice (some ⟨lb, 0, none⟩) 33 33], blkC gb 58 (Gx188.flatMap g3C), blkC wb 3 (Wx189.map iV), blkC lb 3 (Lx190.map iV), Ch.many R])) hR195 (hok.give _) hwo
    · skip
      have hp204 : ¬ (d.k = 1) := (of_decide_eq_false hc153)
      refine wp_condS h152 rfl hc153 ?_
      simp only [Bool.false_eq_true, if_false]
      have h205 := h152.subs (l' := [(13, _), (6, _), (5, _), (0, _), (1, _), (2, _)]) rfl
      clear h152
      refine wp_seq_k fun K206 hK206 => ?_
      refine wp_region_lit ?_
      refine sv h205 (wanted_none rfl) rfl rfl rfl (v := .bool (decide (d.k = 2))) (rbin h205 rfl rfl rfl (cEq _ _ _ _ rfl)) fun a208 h207 => ?_
      refine sv h207 (wanted_none rfl) rfl rfl rfl (v := .bool (decide (d.k = 2))) (rassign h207 rfl rfl) fun a210 h209 => ?_
      have h211 := h209.subs (l' := [(66, _), (13, _), (6, _), (5, _), (0, _), (1, _), (2, _)]) rfl
      clear h209 h205 h207 a151 a208
      refine wpList_nil ?_
      refine hK206 _ _ ?_
      rcases Bool.eq_false_or_eq_true (decide (d.k = 2)) with hc212 | hc212
      · skip
        have hp213 : d.k = 2 := (of_decide_eq_true hc212)
        refine wp_condS h211 rfl hc212 ?_
        simp only [if_true]
        have h214 := h211.subs (l' := [(13, _), (6, _), (5, _), (0, _), (1, _), (2, _)]) rfl
        clear h211
        refine wp_seq_k fun K215 hK215 => ?_
        refine wp_region_lit ?_
        refine sv h214 (wanted_none rfl) rfl rfl rfl (v := .pointer (some ⟨tg, 0, none⟩)) (rmove h214 rfl rfl) fun a217 h216 => ?_
        refine sv h216 (wanted_none rfl) rfl rfl rfl (v := .pointer (some ⟨g4, 2, none⟩)) (rfa h216 rfl rfl (fun w => fa_commonslaw19_Deed_lg1_2 g4 0 w)) fun a219 h218 => ?_
        refine sw h218 (wanted_none rfl) rfl rfl rfl (v := .int .i64 d.c) (rld h218 rfl rfl (ldB Try.underlying3 rfl (s8.get 0 rfl : Blk _ _ _ _) rfl)) fun a221 h220 => ?_
        refine so (wanted_none rfl) fun K228 hK228 => xcall h220 rfl rfl rfl (xs := [.tmp 68, .tmp 70]) rfl cp_lease_Table_Drop_lg1 rfl (vs := [.pointer (some ⟨tg, 0, none⟩), .int .i64 d.c]) rfl (args := #[.pointer (some ⟨tg, 0, none⟩), .int .i64 d.c]) rfl (dropT_s (tg := tg) (gm := gm) (wm := wm) (R := [blkC g4 29 [.int .i64 d.k, .int .i64 d.now, .int .i64 d.c, .int .i64 d.i, .bool d.own], blkC rg 43 [.slice (some ⟨gb, 0, none⟩) 297 297, .slice (some ⟨wb, 0, none⟩) 33 33, .slice (some ⟨lb, 0, none⟩) 33 33], blkC gb 58 (G.flatMap g3C), blkC wb 3 (W.map iV), blkC lb 3 (L.map iV), Ch.many R]) ((s8.pick [1, 2, 3, 0, 4, 5, 6, 7, 8] (by decide) rfl) : Sep _ [blkC tg 54 [.map (some gm), .map (some wm)], mapC KG gm n g, mapC KW wm m wt, blkC g4 29 [.int .i64 d.k, .int .i64 d.now, .int .i64 d.c, .int .i64 d.i, .bool d.own], blkC rg 43 [.slice (some ⟨gb, 0, none⟩) 297 297, .slice (some ⟨wb, 0, none⟩) 33 33, .slice (some ⟨lb, 0, none⟩) 33 33], blkC gb 58 (G.flatMap g3C), blkC wb 3 (W.map iV), blkC lb 3 (L.map iV), Ch.many R]) d.c) fun a223 v224 w225 r226 h222 => hK228 _ _ ?_
        clear hK228 K228
        obtain ⟨rfl, s227⟩ := r226
        have h229 := h222.subs (l' := [(13, _), (6, _), (5, _), (0, _), (1, _), (2, _)]) rfl
        clear h222 h214 h216 h218 h220 a210 a217 a219 a221
        refine wpList_nil ?_
        refine hK215 _ _ ?_
        refine wp_region_lit ?_
        refine sv h229 (wanted_none rfl) rfl rfl rfl (v := .pointer (some ⟨rg, 0, none⟩)) (rmove h229 rfl rfl) fun a231 h230 => ?_
        refine sv h230 (wanted_none rfl) rfl rfl rfl (v := .pointer (some ⟨g4, 2, none⟩)) (rfa h230 rfl rfl (fun w => fa_commonslaw19_Deed_lg1_2 g4 0 w)) fun a233 h232 => ?_
        refine sw h232 (wanted_none rfl) rfl rfl rfl (v := .int .i64 d.c) (rld h232 rfl rfl (ldB Try.underlying3 rfl (s227.get 3 rfl : Blk _ _ _ _) rfl)) fun a235 h234 => ?_
        refine so (wanted_none rfl) fun K245 hK245 => xcall h234 rfl rfl rfl (xs := [.tmp 72, .tmp 74]) rfl cp_commonsref19_Table_Drop_lg1 rfl (vs := [.pointer (some ⟨rg, 0, none⟩), .int .i64 d.c]) rfl (args := #[.pointer (some ⟨rg, 0, none⟩), .int .i64 d.c]) rfl (dropR_s (R := [blkC tg 54 [.map (some gm), .map (some wm)], mapC KG gm n (dropG d.c g), mapC KW wm m (dropW d.c wt), blkC g4 29 [.int .i64 d.k, .int .i64 d.now, .int .i64 d.c, .int .i64 d.i, .bool d.own], Ch.many R]) ((s227.pick [4, 5, 6, 7, 0, 1, 2, 3, 8] (by decide) rfl) : Sep _ [blkC rg 43 [.slice (some ⟨gb, 0, none⟩) 297 297, .slice (some ⟨wb, 0, none⟩) 33 33, .slice (some ⟨lb, 0, none⟩) 33 33], blkC gb 58 (G.flatMap g3C), blkC wb 3 (W.map iV), blkC lb 3 (L.map iV), blkC tg 54 [.map (some gm), .map (some wm)], mapC KG gm n (dropG d.c g), mapC KW wm m (dropW d.c wt), blkC g4 29 [.int .i64 d.k, .int .i64 d.now, .int .i64 d.c, .int .i64 d.i, .bool d.own], Ch.many R]) hR hok hwo hcw) fun a240 v241 w242 r243 h239 => hK245 _ _ ?_
        clear hK245 K245
        obtain ⟨Gx236, Wx237, Lx238, rfl, s244, hR243⟩ := r243
        have h246 := h239.subs (l' := [(13, _), (6, _), (5, _), (0, _), (1, _), (2, _)]) rfl
        clear h239 h229 h230 h232 h234 a223 a231 a233 a235
        refine wpList_nil ?_
        refine hK14 _ _ ?_
        refine wp_seq_k fun K247 hK247 => ?_
        refine wp_region_lit ?_
        have h248 := h246.subs (l' := [(13, _), (5, _), (0, _), (1, _), (2, _)]) rfl
        clear h246
        refine sv h248 (wanted_none rfl) rfl rfl rfl (v := .bool true) (rassign h248 rfl rfl) fun a250 h249 => ?_
        refine wpList_nil ?_
        refine hK247 _ _ ?_
        refine wp_ret ?_
        try simp only [Exit.then, Exit.inBlock]
        refine retR (v := .bool true) (res1 h249 rfl rfl) h249.defs ?_
        refine ⟨rfl, ?_⟩
        rw [step_dropG (by omega), step_dropW (by omega)]
        exact both_close (K := K + 1) (by omega) (by omega) (Sep.tail_un (xs := both7 _ _ _ _ _ _ _ _ _ _ _ _ _ _) ((s244.pick [4, 5, 6, 0, 1, 2, 3, 8] (by decide) rfl) : Sep _ [blkC tg 54 [.map (some gm), .map (some wm)], mapC KG gm n (dropG d.c g), mapC KW wm m (dropW d.c wt), blkC rg 43 [.slice (some ⟨gb, 0, none⟩) 297 297, .slice (some ⟨wb, 0, none⟩) 33 33, .slice (some ⟨lb, 0, none⟩) 33 33], blkC gb 58 (Gx236.flatMap g3C), blkC wb 3 (Wx237.map iV), blkC lb 3 (Lx238.map iV), Ch.many R])) hR243 (hok.drop _) (hwo.drop _)
      · skip
        have hp251 : ¬ (d.k = 2) := (of_decide_eq_false hc212)
        refine wp_condS h211 rfl hc212 ?_
        simp only [Bool.false_eq_true, if_false]
        have h252 := h211.subs (l' := [(13, _), (6, _), (5, _), (0, _), (1, _), (2, _)]) rfl
        clear h211
        refine wp_skip ?_
        refine hK14 _ _ ?_
        refine wp_seq_k fun K253 hK253 => ?_
        refine wp_region_lit ?_
        have h254 := h252.subs (l' := [(13, _), (5, _), (0, _), (1, _), (2, _)]) rfl
        clear h252
        refine sv h254 (wanted_none rfl) rfl rfl rfl (v := .bool true) (rassign h254 rfl rfl) fun a256 h255 => ?_
        refine wpList_nil ?_
        refine hK253 _ _ ?_
        refine wp_ret ?_
        try simp only [Exit.then, Exit.inBlock]
        refine retR (v := .bool true) (res1 h255 rfl rfl) h255.defs ?_
        refine ⟨rfl, ?_⟩
        rw [step_elseG (by omega), step_elseW (by omega)]
        exact both_close (K := K + 1) (by omega) (by omega) (Sep.tail_un (xs := both7 _ _ _ _ _ _ _ _ _ _ _ _ _ _) ((s8.pick [1, 2, 3, 4, 5, 6, 7, 8] (by decide) rfl) : Sep _ [blkC tg 54 [.map (some gm), .map (some wm)], mapC KG gm n g, mapC KW wm m wt, blkC rg 43 [.slice (some ⟨gb, 0, none⟩) 297 297, .slice (some ⟨wb, 0, none⟩) 33 33, .slice (some ⟨lb, 0, none⟩) 33 33], blkC gb 58 (G.flatMap g3C), blkC wb 3 (W.map iV), blkC lb 3 (L.map iV), Ch.many R])) hR hok hwo

end Go.Proofs.Ytpalgffmdinfpaa
end
section
namespace Go.Proofs.Ytpalgffmdinfpaa
open Go.RowKit
set_option linter.unusedSimpArgs false
set_option linter.unusedVariables false
set_option maxRecDepth 100000

theorem allK_256 (g : GrF) : (allK g).length ≤ 256 := Nat.le_trans (List.length_filter_le ..) (by decide +kernel)
/-- how many grants are told ahead of a place -/
def posL (g : GrF) (i c : Int) : Nat := ((allK g).filter (fun p => decide (p.2 < i ∨ (p.2 = i ∧ p.1 < c)))).length
theorem GrOk.at_ {g : GrF} (h : GrOk g) {c i : Int} (hs : (g (c, i)).isSome = true) : 1 ≤ c ∧ c ≤ 8 ∧ 1 ≤ i ∧ i ≤ 32 := by
  obtain ⟨a, ha⟩ := Option.isSome_iff_exists.1 hs
  exact h _ _ ha
abbrev leK (p q : Int × Int) : Prop := p.2 < q.2 ∨ (p.2 = q.2 ∧ p.1 < q.1)
end Go.Proofs.Ytpalgffmdinfpaa
end
section
namespace Go.Proofs.Ytpalgffmdinfpaa
open Go.RowKit
open Go.WideShapes Go.ChangeShapes Go.Deep
set_option linter.unusedSimpArgs false
set_option linter.unusedVariables false
set_option maxRecDepth 100000
/-- n elements of sz cells at a place -/
def ExtC (w : World) (b off sz n : Nat) (f : Nat → List Value) : Prop := b < w.heap.size ∧ ∀ i, i < n → ∀ (j : Nat) v, (f i)[j]? = some v → w.cell? ⟨b, off + i * sz + j, none⟩ = some v
/-- a list that was handed in -/
def ExtA (w : World) (a : Option Addr) (n c sz : Nat) (f : Nat → List Value) : Prop :=
  n ≤ c ∧ c ≤ maxLen ∧ (0 < n → ∃ b off, a = some ⟨b, off, none⟩ ∧ ExtC w b off sz n f)
theorem ExtA.at {w : World} {a : Option Addr} {n c sz : Nat} {f : Nat → List Value} (h : ExtA w a n c sz f) : ∃ b off, 0 < n → a = some ⟨b, off, none⟩ ∧ ExtC w b off sz n f := by
  by_cases hn : 0 < n
  · obtain ⟨b, off, q⟩ := h.2.2 hn
    exact ⟨b, off, fun _ => q⟩
  · exact ⟨0, 0, fun q => absurd q hn⟩
theorem ExtA.lt {w : World} {a : Option Addr} {n c sz : Nat} {f : Nat → List Value} (h : ExtA w a n c sz f) : n ≤ maxLen := Nat.le_trans h.1 h.2.1
theorem ExtC.cell {w0 w : World} {B b off sz n : Nat} {f : Nat → List Value} (h : ExtC w0 b off sz n f) (hB : w0.heap.size ≤ B) (hw : Below B w0 w) {i j : Nat} {v : Value} (hi : i < n) (hv : (f i)[j]? = some v) : w.cell? ⟨b, off + i * sz + j, none⟩ = some v :=
  (hw.cell (p := ⟨b, off + i * sz + j, none⟩) (Nat.lt_of_lt_of_le h.1 hB)).trans (h.2 i hi j v hv)
theorem ldX {T : TypeId} {k : TypeDesc} (hu : Try.prog.underlying T = some k) (hk : k.isRow = true) {sz : Nat} (hn : (Try.prog.info? T).map (·.size) = some sz) {w0 w : World} {B b off n j o : Nat} {f : Nat → List Value} (hl : ∀ i, (f i).length = sz) (h : ExtC w0 b off sz n f) (hB : w0.heap.size ≤ B) (hw : Below B w0 w ∧ B ≤ w0.heap.size) (hj : j < n) (ho : off + j * sz = o) :
    (Instr.loadAt T (.pointer (some ⟨b, o, none⟩))).run Try.prog w = .ok (.agg (f j).toArray) w := by
  subst ho
  exact run_loadAt_mid w b (off + j * sz) T (f j) k (fun i v hi => h.cell hB hw.1 hj hi) hu hk (by rw [hl]; exact hn)
theorem cell_spot {w : World} {x : Addr} {v : Value} (h : w.cell? x = some v) : x.spot = none := by
  unfold World.cell? at h
  cases hs : x.spot with
  | none => rfl
  | some q => simp [hs] at h; split at h <;> simp_all
theorem open_ext {α H : Type} {enc : TypeId × Value → H} {W : World} {base : Nat} {held : Bool} {a : Option Addr} {n c : Nat} {d : DataW H} {p : List MemPlace} {t e : TypeId} {sz : Nat} (z : α) (cells : α → List Value) (good : α → Prop)
    (ht : Try.prog.underlying t = some (.slice e)) (hk : Try.prog.cellsOf e = sz) (hs : 0 < sz)
    (hE : ∀ (fuel : Nat) (cs : List Value) (x : DataW H × List MemPlace), cs.length = sz → DataW.trod enc Try.prog W base (fun _ => true) held fuel e cs = some x → ∃ v, cs = cells v ∧ good v)
    (h : DataW.Trod enc Try.prog W base (fun _ => true) held t (.slice a n c) d p) : ∃ f : Nat → α, ExtA W a n c sz (fun i => cells (f i)) ∧ ∀ i, i < n → good (f i) := by
  obtain ⟨fuel, hf⟩ := h
  rcases open_slice ht hf with ⟨hcs, _⟩ | ⟨x, len, cap, m, q, D, Pl, hcs, _, hl, hm, hmm, _, hi⟩
  · simp [Value.cells] at hcs
    obtain ⟨rfl, rfl, rfl⟩ := hcs
    exact ⟨fun _ => z, ⟨Nat.le_refl _, Nat.zero_le _, fun h => absurd h (by omega)⟩, fun i h => absurd h (by omega)⟩
  · simp [Value.cells] at hcs
    obtain ⟨rfl, rfl, rfl⟩ := hcs
    have hnm : n ≤ m := by rw [hmm]; split <;> omega
    have one : ∀ i, ∃ v : α, i < n → (cells v).length = sz ∧ (∀ (j : Nat) u, (cells v)[j]? = some u → W.cell? ((x.add (i * sz)).add j) = some u) ∧ good v := by
      intro i
      by_cases hlt : i < n
      · obtain ⟨cs', hc, htr⟩ := hi i (by omega)
        rw [hk] at hc
        obtain ⟨_, hlen, hat⟩ := World.cells?_some hc
        obtain ⟨v, e1, hg⟩ := hE q cs' _ hlen htr
        subst e1
        refine ⟨v, fun _ => ⟨hlen, fun j u hj => ?_, hg⟩⟩
        obtain ⟨h1, h2⟩ := List.getElem?_eq_some_iff.1 hj
        have := hat j (by omega)
        rw [this, ← h2]
        exact List.getElem?_eq_getElem h1
      · exact ⟨z, fun h => absurd h hlt⟩
    obtain ⟨f, hf⟩ := Classical.skolem.1 one
    refine ⟨f, ⟨hl, hm, fun hn => ?_⟩, fun i hi => (hf i hi).2.2⟩
    have hl0 := (hf 0 hn).1
    obtain ⟨u, hu⟩ : ∃ u, (cells (f 0))[0]? = some u := ⟨_, List.getElem?_eq_getElem (by omega)⟩
    have hq := (hf 0 hn).2.1 0 u hu
    rw [Nat.zero_mul, show (x.add 0).add 0 = x from by unfold Addr.add; simp] at hq
    have hsp := cell_spot hq
    obtain ⟨b, off, sp⟩ := x
    simp at hsp
    subst hsp
    refine ⟨b, off, rfl, ?_, fun i hi j v hj => ?_⟩
    · exact World.block_lt_of_cell? W _ hq
    · have h0 := (hf i hi).2.1 j v hj
      rw [Addr.add_mid, Addr.add_mid] at h0
      exact h0
end Go.Proofs.Ytpalgffmdinfpaa
end
section
namespace Go.Proofs.Ytpalgffmdinfpaa
open Go.RowKit
open Go.WideShapes Go.ChangeShapes Go.Deep
set_option linter.unusedSimpArgs false
set_option linter.unusedVariables false
set_option maxRecDepth 100000
def deedC (d : DeedV) : List Value := [.int .i64 d.k, .int .i64 d.now, .int .i64 d.c, .int .i64 d.i, .bool d.own]
def DeedsIn (W : World) (a : Option Addr) (n c : Nat) (f : Nat → DeedV) : Prop := ExtA W a n c 5 (fun i => deedC (f i)) ∧ ∀ i, i < n → (f i).wf
theorem open_deeds {H : Type} {enc : TypeId × Value → H} {W : World} {base : Nat} {held : Bool} {a : Option Addr} {n c : Nat} {d : DataW H} {p : List MemPlace}
    (h : DataW.Trod enc Try.prog W base (fun _ => true) held 22 (.slice a n c) d p) : ∃ f, DeedsIn W a n c f := by
  have k1 : Try.prog.cellsOf 3 = 1 := by kernel_rfl
  have k2 : Try.prog.cellsOf 4 = 1 := by kernel_rfl
  refine open_ext ⟨0, 0, 0, 0, false⟩ deedC DeedV.wf Try.underlying22 (by kernel_rfl) (by decide) (fun fuel cs x hlen ht => ?_) h
  obtain ⟨ys, r, _, _, _, hyl, hg⟩ := DataW.trod_struct Try.underlying29 ht
  have hyl' : ys.length = 5 := hyl
  match cs, hlen with
  | [u0, u1, u2, u3, u4], _ =>
    have g0 := hg 0 _ rfl
    have g1 := hg 1 _ rfl
    have g2 := hg 2 _ rfl
    have g3 := hg 3 _ rfl
    have g4 := hg 4 _ rfl
    simp [k1, k2] at g0 g1 g2 g3 g4
    rw [List.getElem?_eq_getElem (by omega)] at g0 g1 g2 g3 g4
    obtain ⟨t0, e0, _, w0⟩ := DataW.trod_int Try.underlying3 g0
    obtain ⟨t1, e1, _, w1⟩ := DataW.trod_int Try.underlying3 g1
    obtain ⟨t2, e2, _, w2⟩ := DataW.trod_int Try.underlying3 g2
    obtain ⟨t3, e3, _, w3⟩ := DataW.trod_int Try.underlying3 g3
    obtain ⟨t4, e4, _⟩ := DataW.trod_bool Try.underlying4 g4
    simp only [List.cons.injEq, and_true] at e0 e1 e2 e3 e4
    subst e0 e1 e2 e3 e4
    exact ⟨⟨t0, t1, t2, t3, t4⟩, rfl, w0, w1, w2, w3⟩
theorem lives_s {w : World} {R : List Ch} (hS : Sep w R) : CallsR Try.prog 12 #[] w fun v w' => v = .bool true ∧ Sep w' R :=
  (lives19_any w).mono fun e w' ⟨e1, hb⟩ => ⟨_, e1, rfl, hS.mono hb⟩
theorem newR_b {w : World} {tg gm wm : Nat} {R : List Ch} (hS : Sep w (tab3 tg gm wm 0 0 (fun _ => none) (fun _ => none) ++ R)) :
    CallsR Try.prog 9 #[] w fun v w' => ∃ rg gb wb lb, v = .pointer (some ⟨rg, 0, none⟩) ∧ Sep w' (bothC tg gm wm rg gb wb lb 0 (fun _ => none) (fun _ => none) :: R) :=
  (newR_s hS).mono fun v w' ⟨rg, gb, wb, lb, G, W, L, e1, h, hR⟩ => ⟨rg, gb, wb, lb, e1, by
    have h0 := Sep.tail_many (xs := [_, _, _, _, _, _, _]) h
    have h' : Sep w' (both7 tg gm wm 0 0 (fun _ => none) (fun _ => none) rg gb wb lb G W L ++ [Ch.many R]) := h0.pick [4, 5, 6, 0, 1, 2, 3, 7] (by decide) rfl
    have h' := Sep.tail_un (xs := both7 tg gm wm 0 0 (fun _ => none) (fun _ => none) rg gb wb lb G W L) h'
    exact both_close (Nat.le_refl _) (Nat.le_refl _) h' hR GrOk.empty WtOk.empty⟩
/-- the tables behind k deeds -/
def runT (f : Nat → DeedV) : Nat → GrF × WtF
  | 0 => (fun _ => none, fun _ => none)
  | k + 1 => (stepG (f k) (runT f k).1 (runT f k).2, stepW (f k) (runT f k).1 (runT f k).2)
end Go.Proofs.Ytpalgffmdinfpaa
end
section
namespace Go.Proofs.Ytpalgffmdinfpaa
open Go.RowKit
set_option linter.unusedSimpArgs false
set_option linter.unusedVariables false
set_option maxRecDepth 100000

end Go.Proofs.Ytpalgffmdinfpaa
end
section
namespace Go.Proofs.Ytpalgffmdinfpaa
open Go.RowKit
set_option linter.unusedSimpArgs false
set_option linter.unusedVariables false
set_option maxRecDepth 100000

/-- grants of an inode go together -/
def Tog (g : GrF) : Prop := ∀ c c' i a b, g (c, i) = some a → g (c', i) = some b → c ≠ c' → a.1 = false ∧ b.1 = false
theorem Tog.empty : Tog (fun _ => none) := fun c c' i a b h => by cases h
theorem Tog.ask {g : GrF} (h : Tog g) (hok : GrOk g) (wt : WtF) (now c i : Int) (own : Bool) : Tog (askG g wt now c i own) := by
  unfold askG
  split
  · split
    · split
      · exact h
      · rename_i h0 _
        have hn : ∀ k, confB g c i own k = false := fun k => by
          cases hq : confB g c i own k with
          | false => rfl
          | true =>
            have := (agL_mem hok).2 hq
            rw [List.eq_nil_of_length_eq_zero h0] at this
            cases this
        have one : ∀ k b, k ≠ c → g (k, i) = some b → own = false ∧ b.1 = false := fun k b hk hb => by
          have z := hn k
          unfold confB at z
          rw [hb] at z
          have z' : (decide (k ≠ c) && (own || b.1)) = false := z
          rw [decide_eq_true hk] at z'
          simpa using z'
        intro x y j a b ha hb hne
        by_cases e1 : (x, j) = (c, i)
        · have e1' := Prod.mk.inj e1
          have e2 : ¬ (y, j) = (c, i) := fun q => hne (e1'.1.trans (Prod.mk.inj q).1.symm)
          rw [e1, updG_same] at ha
          rw [updG_ne _ _ e2] at hb
          cases ha
          rw [e1'.2] at hb
          exact one y b (fun q => hne (e1'.1.trans q.symm)) hb
        · by_cases e2 : (y, j) = (c, i)
          · have e2' := Prod.mk.inj e2
            rw [e2, updG_same] at hb
            rw [updG_ne _ _ e1] at ha
            cases hb
            rw [e2'.2] at ha
            exact (one x a (fun q => hne (q.trans e2'.1.symm)) ha).symm
          · rw [updG_ne _ _ e1] at ha
            rw [updG_ne _ _ e2] at hb
            exact h x y j a b ha hb hne
    · exact h
  · exact h
theorem Tog.give {g : GrF} (h : Tog g) (p : Int × Int) : Tog (updG g p none) := fun x y j a b ha hb hne => by
  by_cases e1 : (x, j) = p
  · rw [e1, updG_same] at ha; cases ha
  · by_cases e2 : (y, j) = p
    · rw [e2, updG_same] at hb; cases hb
    · rw [updG_ne _ _ e1] at ha
      rw [updG_ne _ _ e2] at hb
      exact h x y j a b ha hb hne
theorem Tog.drop {g : GrF} (h : Tog g) (c : Int) : Tog (dropG c g) := fun x y j a b ha hb hne => by
  unfold dropG at ha hb
  split at ha
  · cases ha
  · split at hb
    · cases hb
    · exact h x y j a b ha hb hne
theorem runT_ok (f : Nat → DeedV) : ∀ k, GrOk (runT f k).1
  | 0 => GrOk.empty
  | k + 1 => by
    have h := runT_ok f k
    show GrOk (stepG (f k) (runT f k).1 (runT f k).2)
    unfold stepG
    split
    · exact h.ask _ _ _ _ _
    · split
      · exact h.give _
      · split
        · exact h.drop _
        · exact h
theorem runT_tog (f : Nat → DeedV) : ∀ k, Tog (runT f k).1
  | 0 => Tog.empty
  | k + 1 => by
    have h := runT_tog f k
    show Tog (stepG (f k) (runT f k).1 (runT f k).2)
    unfold stepG
    split
    · exact h.ask (runT_ok f k) _ _ _ _ _
    · split
      · exact h.give _
      · split
        · exact h.drop _
        · exact h
theorem tog_pair {g : GrF} (hok : GrOk g) (ht : Tog g) {j k : Nat} (hk : k < j) (hj : j < (allK g).length) :
    ¬ ((((allK g).getD j (0, 0)).2 = ((allK g).getD k (0, 0)).2) ∧ (((((g ((allK g).getD j (0, 0))).getD (false, 0)).1 = true) ∨ (((g ((allK g).getD k (0, 0))).getD (false, 0)).1 = true)) ∨ (((allK g).getD j (0, 0)).1 = ((allK g).getD k (0, 0)).1))) := by
  have e1 : (allK g).getD j (0, 0) = (allK g)[j] := by rw [List.getD_eq_getElem?_getD, List.getElem?_eq_getElem hj]; rfl
  have e2 : (allK g).getD k (0, 0) = (allK g)[k]'(by omega) := by rw [List.getD_eq_getElem?_getD, List.getElem?_eq_getElem (by omega)]; rfl
  rw [e1, e2]
  have m1 : (allK g)[j] ∈ allK g := List.getElem_mem _
  have m2 : (allK g)[k]'(by omega) ∈ allK g := List.getElem_mem _
  have hlt := List.pairwise_iff_getElem.1 (allK_up g) k j (by omega) hj hk
  generalize hp : (allK g)[j] = p at *
  generalize hq : (allK g)[k]'(by omega) = q at *
  rw [allK_mem hok] at m1 m2
  obtain ⟨a, ha⟩ := Option.isSome_iff_exists.1 m1
  obtain ⟨b, hb⟩ := Option.isSome_iff_exists.1 m2
  rw [ha, hb]
  rintro ⟨h1, h2⟩
  have hne : p.1 ≠ q.1 := fun e => by omega
  have hb' : g (q.1, p.2) = some b := by rw [h1]; exact hb
  have z := ht p.1 q.1 p.2 a b ha hb' hne
  rcases h2 with (h2 | h2) | h2
  · have h2' : a.1 = true := h2
    rw [z.1] at h2'; cases h2'
  · have h2' : b.1 = true := h2
    rw [z.2] at h2'; cases h2'
  · exact hne h2

theorem cp_lease_New_lk1 (args : Array Value) (w : World) : (callFunc 8 args).run Try.prog w = .ok (.enter 8 args) w := by
  have h := Try.func8
  go_simp
theorem cp_commonsref19_New_lk1 (args : Array Value) (w : World) : (callFunc 9 args).run Try.prog w = .ok (.enter 9 args) w := by
  have h := Try.func9
  go_simp
theorem cp_commonslaw19_does_lk1 (args : Array Value) (w : World) : (callFunc 10 args).run Try.prog w = .ok (.enter 10 args) w := by
  have h := Try.func10
  go_simp
theorem cp_lease_Table_All_lk1 (args : Array Value) (w : World) : (callFunc 13 args).run Try.prog w = .ok (.enter 13 args) w := by
  have h := Try.func13
  go_simp
theorem fa_lease_Held_lk1_1 (g off : Nat) (w : World) : (Instr.fieldAt 36 (.pointer (some ⟨g, off, none⟩)) 1).run Try.prog w = .ok (.pointer (some ⟨g, off + 1, none⟩)) w := rfl
theorem fa_lease_Held_lk1_2 (g off : Nat) (w : World) : (Instr.fieldAt 36 (.pointer (some ⟨g, off, none⟩)) 2).run Try.prog w = .ok (.pointer (some ⟨g, off + 2, none⟩)) w := rfl
theorem fa_lease_Held_lk1_0 (g off : Nat) (w : World) : (Instr.fieldAt 36 (.pointer (some ⟨g, off, none⟩)) 0).run Try.prog w = .ok (.pointer (some ⟨g, off + 0, none⟩)) w := rfl
theorem cp_commonslaw19_lives_lk1 (args : Array Value) (w : World) : (callFunc 12 args).run Try.prog w = .ok (.enter 12 args) w := by
  have h := Try.func12
  go_simp

set_option maxHeartbeats 4000000 in
theorem LeaseTogether_walk (W : World) (a0 : Option Addr) (n0 c0 : Nat) (f : Nat → DeedV) (rb : DeedsIn W a0 n0 c0 f) :
    Calls Try.prog 4 #[.slice a0 n0 c0] W fun e W' => e = .returned (.bool true) ∧ Below W.heap.size W W' := by
  obtain ⟨hX0, hw⟩ := rb; obtain ⟨bX, oX, hX⟩ := hX0.at; have hS : Sep W [oldC W W.heap.size] := Sep.start W
  suffices hZ : CallsR Try.prog 4 #[.slice a0 n0 c0] W (fun v W' => v = .bool true ∧ Below W.heap.size W W') from Calls.mono hZ fun e W' ⟨v, e1, e2, h⟩ => ⟨by rw [e1, e2], h⟩
  refine enterR Try.func4 rfl (N := 82) Try.ntmps4 (by show 1 ≤ 82; decide) [(0, .slice a0 n0 c0)] rfl fun a2 h1 => ?_
  refine wp_seq_k fun K3 hK3 => ?_
  refine wp_region_lit ?_
  refine sv h1 (wanted_none rfl) rfl rfl rfl (v := .bool false) (rassign h1 rfl rfl) fun a5 h4 => ?_
  refine wpList_nil ?_
  refine hK3 _ _ ?_
  refine wp_seq_k fun K6 hK6 => ?_
  refine wp_region_lit ?_
  refine so (wanted_none rfl) fun K13 hK13 => xcall h4 rfl rfl rfl (xs := []) rfl cp_lease_New_lk1 rfl (vs := []) rfl (args := #[]) rfl (newT_s (R := [oldC W W.heap.size]) (hS : Sep _ [oldC W W.heap.size])) fun a8 v9 w10 r11 h7 => hK13 _ _ ?_
  clear hK13 K13
  obtain ⟨tg, gm, wm, rfl, s12⟩ := r11
  refine sv h7 (wanted_none rfl) rfl rfl rfl (v := .pointer (some ⟨tg, 0, none⟩)) (rassign h7 rfl rfl) fun a15 h14 => ?_
  have h16 := h14.subs (l' := [(3, _), (2, _), (0, _)]) rfl
  clear h14 h1 h4 h7 a2 a5 a8
  refine wpList_nil ?_
  refine hK6 _ _ ?_
  refine wp_seq_k fun K17 hK17 => ?_
  refine wp_region_lit ?_
  refine so (wanted_none rfl) fun K24 hK24 => xcall h16 rfl rfl rfl (xs := []) rfl cp_commonsref19_New_lk1 rfl (vs := []) rfl (args := #[]) rfl (newR_b (R := [oldC W W.heap.size]) (s12 : Sep _ [blkC tg 54 [.map (some gm), .map (some wm)], mapC KG gm 0 (fun _ => none), mapC KW wm 0 (fun _ => none), oldC W W.heap.size])) fun a19 v20 w21 r22 h18 => hK24 _ _ ?_
  clear hK24 K24
  obtain ⟨rg, gb, wb, lb, rfl, s23⟩ := r22
  refine sv h18 (wanted_none rfl) rfl rfl rfl (v := .pointer (some ⟨rg, 0, none⟩)) (rassign h18 rfl rfl) fun a26 h25 => ?_
  have h27 := h25.subs (l' := [(4, _), (3, _), (2, _), (0, _)]) rfl
  clear h25 h16 h18 a15 a19
  refine wpList_nil ?_
  refine hK17 _ _ ?_
  refine wp_seq_k fun K28 hK28 => ?_
  refine wp_seq_k fun K29 hK29 => ?_
  refine wp_region_lit ?_
  refine sv h27 (wanted_none rfl) rfl rfl rfl (v := .pointer (some ⟨tg, 0, none⟩)) (rmove h27 rfl rfl) fun a31 h30 => ?_
  refine sv h30 (wanted_none rfl) rfl rfl rfl (v := .bool false) (rbin h30 rfl rfl rfl (bNil _ Try.underlying23 _ _ _)) fun a33 h32 => ?_
  have h34 := h32.subs (l' := [(12, _), (4, _), (3, _), (2, _), (0, _)]) rfl
  clear h32 h27 h30 a26 a31
  refine wpList_nil ?_
  refine hK29 _ _ ?_
  refine wp_condS h34 rfl rfl ?_
  simp only [Bool.false_eq_true, if_false]
  have h35 := h34.subs (l' := [(4, _), (3, _), (2, _), (0, _)]) rfl
  clear h34
  refine wp_skip ?_
  refine hK28 _ _ ?_
  refine wp_seq_k fun K36 hK36 => ?_
  refine wp_seq_k fun K37 hK37 => ?_
  refine wp_region_lit ?_
  refine sv h35 (wanted_none rfl) rfl rfl rfl (v := .int .i64 0) (rassign h35 rfl rfl) fun a39 h38 => ?_
  refine wpList_nil ?_
  refine hK37 _ _ ?_
  refine wp_block ?_
  refine wp_loop1 (fun (k : Nat) a' w' => Kn 82 [(5, .int .i64 (k : Int)), (4, .pointer (some ⟨rg, 0, none⟩)), (3, .pointer (some ⟨tg, 0, none⟩)), (2, .bool false), (0, .slice a0 n0 c0)] a' ∧ Sep w' [bothC tg gm wm rg gb wb lb k ((runT f k).1) ((runT f k).2), oldC W W.heap.size] ∧ (k ≤ 60)) (fun (k : Nat) => 60 - k) 0 ⟨h38.subs rfl, s23, by omega⟩ ?_
  clear h38 s23
  rintro k46 a40 w41 ⟨h42, s43, hk45⟩ K44 hK44
  refine wp_seq_k fun K47 hK47 => ?_
  refine wp_seq_k fun K48 hK48 => ?_
  refine wp_region_lit ?_
  refine sv h42 (wanted_none rfl) rfl rfl rfl (v := .int .i64 (k46 : Int)) (rmove h42 rfl rfl) fun a50 h49 => ?_
  refine sv h49 (wanted_none rfl) rfl rfl rfl (v := .slice a0 n0 c0) (rmove h49 rfl rfl) fun a52 h51 => ?_
  refine sv h51 (wanted_none rfl) rfl rfl rfl (v := .int .i64 (n0 : Int)) (rlenS h51 rfl rfl Try.underlying22) fun a54 h53 => ?_
  refine sv h53 (wanted_none rfl) rfl rfl rfl (v := .bool (decide ((k46 : Int) < (n0 : Int)))) (rbin h53 rfl rfl rfl (cLt _ _ _ _ rfl)) fun a56 h55 => ?_
  refine sv h55 (wanted_none rfl) rfl rfl rfl (v := .bool (decide ((k46 : Int) < (n0 : Int)))) (rmove h55 rfl rfl) fun a58 h57 => ?_
  refine sg h57 (wT h57 rfl rfl rfl) rfl rfl rfl (v := .int .i64 (k46 : Int)) (fun hC59 => by have hq := (of_decide_eq_true hC59); exact (rmove h57 rfl rfl) _) fun a61 h60 => ?_
  refine sg h60 (wT h60 rfl rfl rfl) rfl rfl rfl (v := .bool (decide ((k46 : Int) < 60))) (fun hC62 => by have hq := (of_decide_eq_true hC62); exact (rbin h60 rfl (opg rfl hC62) rfl (cLt _ _ _ _ rfl)) _) fun a64 h63 => ?_
  refine sv h63 (wanted_none rfl) rfl rfl rfl (v := .bool ((decide ((k46 : Int) < (n0 : Int))) && (decide ((k46 : Int) < 60)))) (rpickA h63 rfl (E := (decide ((k46 : Int) < (n0 : Int)))) (F := (decide ((k46 : Int) < 60))) rfl rfl rfl (fun e => if_pos (by rw [e]; try rfl))) fun a66 h65 => ?_
  have h67 := h65.subs (l' := [(20, _), (5, _), (4, _), (3, _), (2, _), (0, _)]) rfl
  clear h65 h42 h49 h51 h53 h55 h57 h60 h63 a40 a50 a52 a54 a56 a58 a61 a64
  refine wpList_nil ?_
  refine hK48 _ _ ?_
  rcases Bool.eq_false_or_eq_true ((decide ((k46 : Int) < (n0 : Int))) && (decide ((k46 : Int) < 60))) with hc68 | hc68
  · skip
    have hp69 : ((k46 : Int) < (n0 : Int)) ∧ ((k46 : Int) < 60) := (And.intro (of_decide_eq_true (andT hc68).1) (of_decide_eq_true (andT hc68).2))
    refine wp_condS h67 rfl hc68 ?_
    simp only [if_true]
    have h70 := h67.subs (l' := [(5, _), (4, _), (3, _), (2, _), (0, _)]) rfl
    clear h67
    refine wp_skip ?_
    refine hK47 _ _ ?_
    refine wp_seq_k fun K71 hK71 => ?_
    refine wp_block ?_
    refine wp_seq_k fun K72 hK72 => ?_
    refine wp_region_lit ?_
    refine sv h70 (wanted_none rfl) rfl rfl rfl (v := .pointer (some ⟨tg, 0, none⟩)) (rmove h70 rfl rfl) fun a74 h73 => ?_
    refine sv h73 (wanted_none rfl) rfl rfl rfl (v := .pointer (some ⟨rg, 0, none⟩)) (rmove h73 rfl rfl) fun a76 h75 => ?_
    refine sv h75 (wanted_none rfl) rfl rfl rfl (v := .slice a0 n0 c0) (rmove h75 rfl rfl) fun a78 h77 => ?_
    refine sv h77 (wanted_none rfl) rfl rfl rfl (v := .int .i64 (k46 : Int)) (rmove h77 rfl rfl) fun a80 h79 => ?_
    refine sv h79 (wanted_none rfl) rfl rfl rfl (v := .pointer (some ⟨bX, oX + k46 * 5, none⟩)) (rindexA h79 rfl rfl rfl (fun w => ixO Try.underlying22 (by kernel_rfl) (sz := 5) (hX (by omega)).1 (j := k46) rfl (by omega) rfl w)) fun a82 h81 => ?_
    refine sw h81 (wanted_none rfl) rfl rfl rfl (v := .agg #[.int .i64 ((f k46).k), .int .i64 ((f k46).now), .int .i64 ((f k46).c), .int .i64 ((f k46).i), .bool ((f k46).own)]) (rld h81 rfl rfl (ldX (sz := 5) (n := n0) (f := (fun i => deedC (f i))) Try.underlying29 rfl (by kernel_rfl) (fun _ => rfl) (hX (by omega)).2 (Nat.le_refl _) (s43.get 1 rfl : Below _ _ _ ∧ _) (j := k46) (by omega) rfl)) fun a84 h83 => ?_
    refine so (wanted_none rfl) fun K91 hK91 => xcall h83 rfl rfl rfl (xs := [.tmp 23, .tmp 24, .tmp 28]) rfl cp_commonslaw19_does_lk1 rfl (vs := [.pointer (some ⟨tg, 0, none⟩), .pointer (some ⟨rg, 0, none⟩), .agg #[.int .i64 ((f k46).k), .int .i64 ((f k46).now), .int .i64 ((f k46).c), .int .i64 ((f k46).i), .bool ((f k46).own)]]) rfl (args := #[.pointer (some ⟨tg, 0, none⟩), .pointer (some ⟨rg, 0, none⟩), .agg #[.int .i64 ((f k46).k), .int .i64 ((f k46).now), .int .i64 ((f k46).c), .int .i64 ((f k46).i), .bool ((f k46).own)]]) rfl (does_s (R := [oldC W W.heap.size]) (s43 : Sep _ [bothC tg gm wm rg gb wb lb k46 ((runT f k46).1) ((runT f k46).2), oldC W W.heap.size]) (by omega) (f k46) (hw _ (by omega))) fun a86 v87 w88 r89 h85 => hK91 _ _ ?_
    clear hK91 K91
    obtain ⟨rfl, s90⟩ := r89
    have h92 := h85.subs (l' := [(5, _), (4, _), (3, _), (2, _), (0, _)]) rfl
    clear h85 h70 h73 h75 h77 h79 h81 h83 a66 a74 a76 a78 a80 a82 a84
    refine wpList_nil ?_
    refine hK72 _ _ ?_
    refine wp_seq_k fun K93 hK93 => ?_
    refine wp_region_lit ?_
    refine sv h92 (wanted_none rfl) rfl rfl rfl (v := .pointer (some ⟨tg, 0, none⟩)) (rmove h92 rfl rfl) fun a95 h94 => ?_
    obtain ⟨n96, m97, G98, W99, L100, hn101, hm102, s103x, hR104, hok105, hwo106⟩ := both_open (s90 : Sep _ [bothC tg gm wm rg gb wb lb (k46 + 1) (stepG (f k46) ((runT f k46).1) ((runT f k46).2)) (stepW (f k46) ((runT f k46).1) ((runT f k46).2)), oldC W W.heap.size])
    have s103 : Sep w88 [blkC tg 54 [.map (some gm), .map (some wm)], mapC KG gm n96 (stepG (f k46) ((runT f k46).1) ((runT f k46).2)), mapC KW wm m97 (stepW (f k46) ((runT f k46).1) ((runT f k46).2)), blkC rg 43 [.slice (some ⟨gb, 0, none⟩) 297 297, .slice (some ⟨wb, 0, none⟩) 33 33, .slice (some ⟨lb, 0, none⟩) 33 33], blkC gb 58 (G98.flatMap g3C), blkC wb 3 (W99.map iV), blkC lb 3 (L100.map iV), oldC W W.heap.size] := s103x; clear s103x; obtain ⟨hG107, hW108, hL109⟩ := hR104.n
    refine so (wanted_none rfl) fun K118 hK118 => xcall h94 rfl rfl rfl (xs := [.tmp 30]) rfl cp_lease_Table_All_lk1 rfl (vs := [.pointer (some ⟨tg, 0, none⟩)]) rfl (args := #[.pointer (some ⟨tg, 0, none⟩)]) rfl (allT_s (tg := tg) (gm := gm) (wm := wm) (R := [blkC rg 43 [.slice (some ⟨gb, 0, none⟩) 297 297, .slice (some ⟨wb, 0, none⟩) 33 33, .slice (some ⟨lb, 0, none⟩) 33 33], blkC gb 58 (G98.flatMap g3C), blkC wb 3 (W99.map iV), blkC lb 3 (L100.map iV), oldC W W.heap.size]) (s103 : Sep _ [blkC tg 54 [.map (some gm), .map (some wm)], mapC KG gm n96 (stepG (f k46) ((runT f k46).1) ((runT f k46).2)), mapC KW wm m97 (stepW (f k46) ((runT f k46).1) ((runT f k46).2)), blkC rg 43 [.slice (some ⟨gb, 0, none⟩) 297 297, .slice (some ⟨wb, 0, none⟩) 33 33, .slice (some ⟨lb, 0, none⟩) 33 33], blkC gb 58 (G98.flatMap g3C), blkC wb 3 (W99.map iV), blkC lb 3 (L100.map iV), oldC W W.heap.size]) hok105) fun a113 v114 w115 r116 h112 => hK118 _ _ ?_
    clear hK118 K118
    obtain ⟨lax110, lcx111, rfl, s117⟩ := r116
    have hA119 := allK_256 (stepG (f k46) ((runT f k46).1) ((runT f k46).2))
    refine sv h112 (wanted_none rfl) rfl rfl rfl (v := .slice lax110 ((allK (stepG (f k46) ((runT f k46).1) ((runT f k46).2))).length) lcx111) (rassign h112 rfl rfl) fun a121 h120 => ?_
    have h122 := h120.subs (l' := [(6, _), (5, _), (4, _), (3, _), (2, _), (0, _)]) rfl
    clear h120 h92 h94 h112 a86 a95 a113
    refine wpList_nil ?_
    refine hK93 _ _ ?_
    refine wp_seq_k fun K123 hK123 => ?_
    refine wp_region_lit ?_
    refine sv h122 (wanted_none rfl) rfl rfl rfl (v := .int .i64 0) (rassign h122 rfl rfl) fun a125 h124 => ?_
    refine wpList_nil ?_
    refine hK123 _ _ ?_
    refine wp_block ?_
    refine wp_loop1 (fun (j : Nat) a' w' => Kn 82 [(7, .int .i64 (j : Int)), (6, .slice lax110 ((allK (stepG (f k46) ((runT f k46).1) ((runT f k46).2))).length) lcx111), (5, .int .i64 (k46 : Int)), (4, .pointer (some ⟨rg, 0, none⟩)), (3, .pointer (some ⟨tg, 0, none⟩)), (2, .bool false), (0, .slice a0 n0 c0)] a' ∧ Sep w' [ownC 0 36 4 lax110 (allK (stepG (f k46) ((runT f k46).1) ((runT f k46).2))).length lcx111 ((allK (stepG (f k46) ((runT f k46).1) ((runT f k46).2))).flatMap (encH (stepG (f k46) ((runT f k46).1) ((runT f k46).2)))), blkC tg 54 [.map (some gm), .map (some wm)], mapC KG gm n96 (stepG (f k46) ((runT f k46).1) ((runT f k46).2)), mapC KW wm m97 (stepW (f k46) ((runT f k46).1) ((runT f k46).2)), blkC rg 43 [.slice (some ⟨gb, 0, none⟩) 297 297, .slice (some ⟨wb, 0, none⟩) 33 33, .slice (some ⟨lb, 0, none⟩) 33 33], blkC gb 58 (G98.flatMap g3C), blkC wb 3 (W99.map iV), blkC lb 3 (L100.map iV), oldC W W.heap.size]) (fun (j : Nat) => (allK (stepG (f k46) ((runT f k46).1) ((runT f k46).2))).length - j) 0 ⟨h124.subs rfl, s117⟩ ?_
    clear h124 s117
    rintro j131 a126 w127 ⟨h128, s129⟩ K130 hK130
    refine wp_seq_k fun K132 hK132 => ?_
    refine wp_seq_k fun K133 hK133 => ?_
    refine wp_region_lit ?_
    refine sv h128 (wanted_none rfl) rfl rfl rfl (v := .int .i64 (j131 : Int)) (rmove h128 rfl rfl) fun a135 h134 => ?_
    refine sv h134 (wanted_none rfl) rfl rfl rfl (v := .slice lax110 ((allK (stepG (f k46) ((runT f k46).1) ((runT f k46).2))).length) lcx111) (rmove h134 rfl rfl) fun a137 h136 => ?_
    refine sv h136 (wanted_none rfl) rfl rfl rfl (v := .int .i64 (((allK (stepG (f k46) ((runT f k46).1) ((runT f k46).2))).length : Nat) : Int)) (rlenS h136 rfl rfl Try.underlying33) fun a139 h138 => ?_
    refine sv h138 (wanted_none rfl) rfl rfl rfl (v := .bool (decide ((j131 : Int) < (((allK (stepG (f k46) ((runT f k46).1) ((runT f k46).2))).length : Nat) : Int)))) (rbin h138 rfl rfl rfl (cLt _ _ _ _ rfl)) fun a141 h140 => ?_
    have h142 := h140.subs (l' := [(35, _), (7, _), (6, _), (5, _), (4, _), (3, _), (2, _), (0, _)]) rfl
    clear h140 h128 h134 h136 h138 a126 a135 a137 a139
    refine wpList_nil ?_
    refine hK133 _ _ ?_
    rcases Bool.eq_false_or_eq_true (decide ((j131 : Int) < (((allK (stepG (f k46) ((runT f k46).1) ((runT f k46).2))).length : Nat) : Int))) with hc143 | hc143
    · skip
      have hp144 : (j131 : Int) < (((allK (stepG (f k46) ((runT f k46).1) ((runT f k46).2))).length : Nat) : Int) := (of_decide_eq_true hc143)
      refine wp_condS h142 rfl hc143 ?_
      simp only [if_true]
      have h145 := h142.subs (l' := [(7, _), (6, _), (5, _), (4, _), (3, _), (2, _), (0, _)]) rfl
      clear h142
      refine wp_skip ?_
      refine hK132 _ _ ?_
      refine wp_seq_k fun K146 hK146 => ?_
      refine wp_block ?_
      refine wp_seq_k fun K147 hK147 => ?_
      refine wp_region_lit ?_
      refine sv h145 (wanted_none rfl) rfl rfl rfl (v := .int .i64 0) (rassign h145 rfl rfl) fun a149 h148 => ?_
      refine wpList_nil ?_
      refine hK147 _ _ ?_
      refine wp_block ?_
      refine wp_loop1 (fun (i : Nat) a' w' => Kn 82 [(8, .int .i64 (i : Int)), (7, .int .i64 (j131 : Int)), (6, .slice lax110 ((allK (stepG (f k46) ((runT f k46).1) ((runT f k46).2))).length) lcx111), (5, .int .i64 (k46 : Int)), (4, .pointer (some ⟨rg, 0, none⟩)), (3, .pointer (some ⟨tg, 0, none⟩)), (2, .bool false), (0, .slice a0 n0 c0)] a' ∧ Sep w' [ownC 0 36 4 lax110 (allK (stepG (f k46) ((runT f k46).1) ((runT f k46).2))).length lcx111 ((allK (stepG (f k46) ((runT f k46).1) ((runT f k46).2))).flatMap (encH (stepG (f k46) ((runT f k46).1) ((runT f k46).2)))), blkC tg 54 [.map (some gm), .map (some wm)], mapC KG gm n96 (stepG (f k46) ((runT f k46).1) ((runT f k46).2)), mapC KW wm m97 (stepW (f k46) ((runT f k46).1) ((runT f k46).2)), blkC rg 43 [.slice (some ⟨gb, 0, none⟩) 297 297, .slice (some ⟨wb, 0, none⟩) 33 33, .slice (some ⟨lb, 0, none⟩) 33 33], blkC gb 58 (G98.flatMap g3C), blkC wb 3 (W99.map iV), blkC lb 3 (L100.map iV), oldC W W.heap.size]) (fun (i : Nat) => j131 - i) 0 ⟨h148.subs rfl, s129⟩ ?_
      clear h148 s129
      rintro i155 a150 w151 ⟨h152, s153⟩ K154 hK154
      refine wp_seq_k fun K156 hK156 => ?_
      refine wp_seq_k fun K157 hK157 => ?_
      refine wp_region_lit ?_
      refine sv h152 (wanted_none rfl) rfl rfl rfl (v := .int .i64 (i155 : Int)) (rmove h152 rfl rfl) fun a159 h158 => ?_
      refine sv h158 (wanted_none rfl) rfl rfl rfl (v := .int .i64 (j131 : Int)) (rmove h158 rfl rfl) fun a161 h160 => ?_
      refine sv h160 (wanted_none rfl) rfl rfl rfl (v := .bool (decide ((i155 : Int) < (j131 : Int)))) (rbin h160 rfl rfl rfl (cLt _ _ _ _ rfl)) fun a163 h162 => ?_
      have h164 := h162.subs (l' := [(40, _), (8, _), (7, _), (6, _), (5, _), (4, _), (3, _), (2, _), (0, _)]) rfl
      clear h162 h152 h158 h160 a150 a159 a161
      refine wpList_nil ?_
      refine hK157 _ _ ?_
      rcases Bool.eq_false_or_eq_true (decide ((i155 : Int) < (j131 : Int))) with hc165 | hc165
      · skip
        have hp166 : (i155 : Int) < (j131 : Int) := (of_decide_eq_true hc165)
        refine wp_condS h164 rfl hc165 ?_
        simp only [if_true]
        have h167 := h164.subs (l' := [(8, _), (7, _), (6, _), (5, _), (4, _), (3, _), (2, _), (0, _)]) rfl
        clear h164
        refine wp_skip ?_
        refine hK156 _ _ ?_
        refine wp_seq_k fun K168 hK168 => ?_
        refine wp_block ?_
        refine wp_seq_k fun K169 hK169 => ?_
        have s171 := s153.drew
        refine wp_region_held_drew (S := fun w' => Sep w' [ownC 0 36 4 lax110 (allK (stepG (f k46) ((runT f k46).1) ((runT f k46).2))).length lcx111 ((allK (stepG (f k46) ((runT f k46).1) ((runT f k46).2))).flatMap (encH (stepG (f k46) ((runT f k46).1) ((runT f k46).2)))), blkC tg 54 [.map (some gm), .map (some wm)], mapC KG gm n96 (stepG (f k46) ((runT f k46).1) ((runT f k46).2)), mapC KW wm m97 (stepW (f k46) ((runT f k46).1) ((runT f k46).2)), blkC rg 43 [.slice (some ⟨gb, 0, none⟩) 297 297, .slice (some ⟨wb, 0, none⟩) 33 33, .slice (some ⟨lb, 0, none⟩) 33 33], blkC gb 58 (G98.flatMap g3C), blkC wb 3 (W99.map iV), blkC lb 3 (L100.map iV), oldC W W.heap.size]) (by kernel_rfl) s171 (fun hq170 => ?_)
        refine tv hq170 h167 0 rfl rfl rfl rfl (by kernel_rfl) (by kernel_rfl) (by kernel_rfl) (fun _ _ _ _ h => h) (wanted_none rfl) (v := .slice lax110 ((allK (stepG (f k46) ((runT f k46).1) ((runT f k46).2))).length) lcx111) (fun w1 _ => (rmove h167 rfl rfl) w1) fun a173 h172 => ?_
        refine tv hq170 h172 1 rfl rfl rfl rfl (by kernel_rfl) (by kernel_rfl) (by kernel_rfl) (fun _ _ _ _ h => h) (wanted_none rfl) (v := .int .i64 (j131 : Int)) (fun w1 _ => (rmove h172 rfl rfl) w1) fun a175 h174 => ?_
        obtain ⟨q176, hq177⟩ := own_addr (s171.get 0 rfl : Own _ _ _ _ _ _ _ _)
        refine tv hq170 h174 2 rfl rfl rfl rfl (by kernel_rfl) (by kernel_rfl) (by kernel_rfl) (fun _ _ _ _ h => h) (wanted_none rfl) (v := .pointer (some ⟨q176, j131 * 4, none⟩)) (fun w1 _ => (rindexA h174 rfl rfl rfl (fun w => ixO Try.underlying33 (by kernel_rfl) (sz := 4) (hq177 (by omega)) (j := j131) rfl (by omega) (by omega) w)) w1) fun a179 h178 => ?_
        refine tv hq170 h178 3 rfl rfl rfl rfl (by kernel_rfl) (by kernel_rfl) (by kernel_rfl) (fun _ _ _ _ h => h) (wanted_none rfl) (v := .pointer (some ⟨q176, j131 * 4 + 1, none⟩)) (fun w1 _ => (rfa h178 rfl rfl (fun w => fa_lease_Held_lk1_1 q176 (j131 * 4) w)) w1) fun a181 h180 => ?_
        refine tv hq170 h180 4 rfl rfl rfl rfl (by kernel_rfl) (by kernel_rfl) (by kernel_rfl) (fun _ _ _ _ h => h) (wanted_none rfl) (v := .int .i64 (((allK (stepG (f k46) ((runT f k46).1) ((runT f k46).2))).getD j131 (0, 0)).2)) (fun w1 hSw => (rld h180 rfl rfl (ldOSc (encH_len (stepG (f k46) ((runT f k46).1) ((runT f k46).2))) Try.underlying3 rfl (hSw.get 0 rfl : Own _ _ _ _ _ _ _ _) (hq177 (by omega)) (0, 0) (j := j131) (f := 1) (by omega) (by decide) rfl rfl))) fun a183 h182 => ?_
        refine tv hq170 h182 5 rfl rfl rfl rfl (by kernel_rfl) (by kernel_rfl) (by kernel_rfl) (fun _ _ _ _ h => h) (wanted_none rfl) (v := .slice lax110 ((allK (stepG (f k46) ((runT f k46).1) ((runT f k46).2))).length) lcx111) (fun w1 _ => (rmove h182 rfl rfl) w1) fun a185 h184 => ?_
        refine tv hq170 h184 6 rfl rfl rfl rfl (by kernel_rfl) (by kernel_rfl) (by kernel_rfl) (fun _ _ _ _ h => h) (wanted_none rfl) (v := .int .i64 (i155 : Int)) (fun w1 _ => (rmove h184 rfl rfl) w1) fun a187 h186 => ?_
        refine tv hq170 h186 7 rfl rfl rfl rfl (by kernel_rfl) (by kernel_rfl) (by kernel_rfl) (fun _ _ _ _ h => h) (wanted_none rfl) (v := .pointer (some ⟨q176, i155 * 4, none⟩)) (fun w1 _ => (rindexA h186 rfl rfl rfl (fun w => ixO Try.underlying33 (by kernel_rfl) (sz := 4) (hq177 (by omega)) (j := i155) rfl (by omega) (by omega) w)) w1) fun a189 h188 => ?_
        refine tv hq170 h188 8 rfl rfl rfl rfl (by kernel_rfl) (by kernel_rfl) (by kernel_rfl) (fun _ _ _ _ h => h) (wanted_none rfl) (v := .pointer (some ⟨q176, i155 * 4 + 1, none⟩)) (fun w1 _ => (rfa h188 rfl rfl (fun w => fa_lease_Held_lk1_1 q176 (i155 * 4) w)) w1) fun a191 h190 => ?_
        refine tv hq170 h190 9 rfl rfl rfl rfl (by kernel_rfl) (by kernel_rfl) (by kernel_rfl) (fun _ _ _ _ h => h) (wanted_none rfl) (v := .int .i64 (((allK (stepG (f k46) ((runT f k46).1) ((runT f k46).2))).getD i155 (0, 0)).2)) (fun w1 hSw => (rld h190 rfl rfl (ldOSc (encH_len (stepG (f k46) ((runT f k46).1) ((runT f k46).2))) Try.underlying3 rfl (hSw.get 0 rfl : Own _ _ _ _ _ _ _ _) (hq177 (by omega)) (0, 0) (j := i155) (f := 1) (by omega) (by decide) rfl rfl))) fun a193 h192 => ?_
        refine tv hq170 h192 10 rfl rfl rfl rfl (by kernel_rfl) (by kernel_rfl) (by kernel_rfl) (fun _ _ _ _ h => h) (wanted_none rfl) (v := .bool (decide (((allK (stepG (f k46) ((runT f k46).1) ((runT f k46).2))).getD j131 (0, 0)).2 = ((allK (stepG (f k46) ((runT f k46).1) ((runT f k46).2))).getD i155 (0, 0)).2))) (fun w1 _ => (rbin h192 rfl rfl rfl (cEq _ _ _ _ rfl)) w1) fun a195 h194 => ?_
        refine tv hq170 h194 11 rfl rfl rfl rfl (by kernel_rfl) (by kernel_rfl) (by kernel_rfl) (fun _ _ _ _ h => h) (wanted_none rfl) (v := .bool (decide (((allK (stepG (f k46) ((runT f k46).1) ((runT f k46).2))).getD j131 (0, 0)).2 = ((allK (stepG (f k46) ((runT f k46).1) ((runT f k46).2))).getD i155 (0, 0)).2))) (fun w1 _ => (rmove h194 rfl rfl) w1) fun a197 h196 => ?_
        refine tgv hq170 h196 12 rfl rfl rfl rfl (by kernel_rfl) (by kernel_rfl) (by kernel_rfl) (fun _ _ _ _ h => h) (wT h196 rfl rfl rfl) (v := .slice lax110 ((allK (stepG (f k46) ((runT f k46).1) ((runT f k46).2))).length) lcx111) (fun w1 hSw hC198 => by have hq := (of_decide_eq_true hC198); exact (rmove h196 rfl rfl) w1) fun a200 h199 => ?_
        refine tgv hq170 h199 13 rfl rfl rfl rfl (by kernel_rfl) (by kernel_rfl) (by kernel_rfl) (fun _ _ _ _ h => h) (wT h199 rfl rfl rfl) (v := .int .i64 (j131 : Int)) (fun w1 hSw hC201 => by have hq := (of_decide_eq_true hC201); exact (rmove h199 rfl rfl) w1) fun a203 h202 => ?_
        refine tgv hq170 h202 14 rfl rfl rfl rfl (by kernel_rfl) (by kernel_rfl) (by kernel_rfl) (fun _ _ _ _ h => h) (wT h202 rfl rfl rfl) (v := .pointer (some ⟨q176, j131 * 4, none⟩)) (fun w1 hSw hC204 => by have hq := (of_decide_eq_true hC204); exact (rindexA h202 rfl (opg rfl hC204) (opg rfl hC204) (fun w => ixO Try.underlying33 (by kernel_rfl) (sz := 4) (hq177 (by omega)) (j := j131) rfl (by omega) (by omega) w)) w1) fun a206 h205 => ?_
        refine tgv hq170 h205 15 rfl rfl rfl rfl (by kernel_rfl) (by kernel_rfl) (by kernel_rfl) (fun _ _ _ _ h => h) (wT h205 rfl rfl rfl) (v := .pointer (some ⟨q176, j131 * 4 + 2, none⟩)) (fun w1 hSw hC207 => by have hq := (of_decide_eq_true hC207); exact (rfa h205 rfl (opg rfl hC207) (fun w => fa_lease_Held_lk1_2 q176 (j131 * 4) w)) w1) fun a209 h208 => ?_
        refine tgv hq170 h208 16 rfl rfl rfl rfl (by kernel_rfl) (by kernel_rfl) (by kernel_rfl) (fun _ _ _ _ h => h) (wT h208 rfl rfl rfl) (v := .bool ((((stepG (f k46) ((runT f k46).1) ((runT f k46).2)) ((allK (stepG (f k46) ((runT f k46).1) ((runT f k46).2))).getD j131 (0, 0))).getD (false, 0)).1)) (fun w1 hSw hC210 => by have hq := (of_decide_eq_true hC210); exact (rld h208 rfl (opg rfl hC210) (ldOSc (encH_len (stepG (f k46) ((runT f k46).1) ((runT f k46).2))) Try.underlying4 rfl (hSw.get 0 rfl : Own _ _ _ _ _ _ _ _) (hq177 (by omega)) (0, 0) (j := j131) (f := 2) (by omega) (by decide) rfl rfl))) fun a212 h211 => ?_
        refine tgv hq170 h211 17 rfl rfl rfl rfl (by kernel_rfl) (by kernel_rfl) (by kernel_rfl) (fun _ _ _ _ h => h) (wT h211 rfl rfl rfl) (v := .bool ((((stepG (f k46) ((runT f k46).1) ((runT f k46).2)) ((allK (stepG (f k46) ((runT f k46).1) ((runT f k46).2))).getD j131 (0, 0))).getD (false, 0)).1)) (fun w1 hSw hC213 => by have hq := (of_decide_eq_true hC213); exact (rmove h211 rfl (opg rfl hC213)) w1) fun a215 h214 => ?_
        refine tgv hq170 h214 18 rfl rfl rfl rfl (by kernel_rfl) (by kernel_rfl) (by kernel_rfl) (fun _ _ _ _ h => h) (wnF h214 rfl rfl rfl) (v := .slice lax110 ((allK (stepG (f k46) ((runT f k46).1) ((runT f k46).2))).length) lcx111) (fun w1 hSw hC216 => by have hq := (And.intro (of_decide_eq_true (andT hC216).1) (notT (andT hC216).2)); exact (rmove h214 rfl rfl) w1) fun a218 h217 => ?_
        refine tgv hq170 h217 19 rfl rfl rfl rfl (by kernel_rfl) (by kernel_rfl) (by kernel_rfl) (fun _ _ _ _ h => h) (wnF h217 rfl rfl rfl) (v := .int .i64 (i155 : Int)) (fun w1 hSw hC219 => by have hq := (And.intro (of_decide_eq_true (andT hC219).1) (notT (andT hC219).2)); exact (rmove h217 rfl rfl) w1) fun a221 h220 => ?_
        refine tgv hq170 h220 20 rfl rfl rfl rfl (by kernel_rfl) (by kernel_rfl) (by kernel_rfl) (fun _ _ _ _ h => h) (wnF h220 rfl rfl rfl) (v := .pointer (some ⟨q176, i155 * 4, none⟩)) (fun w1 hSw hC222 => by have hq := (And.intro (of_decide_eq_true (andT hC222).1) (notT (andT hC222).2)); exact (rindexA h220 rfl (opg rfl hC222) (opg rfl hC222) (fun w => ixO Try.underlying33 (by kernel_rfl) (sz := 4) (hq177 (by omega)) (j := i155) rfl (by omega) (by omega) w)) w1) fun a224 h223 => ?_
        refine tgv hq170 h223 21 rfl rfl rfl rfl (by kernel_rfl) (by kernel_rfl) (by kernel_rfl) (fun _ _ _ _ h => h) (wnF h223 rfl rfl rfl) (v := .pointer (some ⟨q176, i155 * 4 + 2, none⟩)) (fun w1 hSw hC225 => by have hq := (And.intro (of_decide_eq_true (andT hC225).1) (notT (andT hC225).2)); exact (rfa h223 rfl (opg rfl hC225) (fun w => fa_lease_Held_lk1_2 q176 (i155 * 4) w)) w1) fun a227 h226 => ?_
        refine tgv hq170 h226 22 rfl rfl rfl rfl (by kernel_rfl) (by kernel_rfl) (by kernel_rfl) (fun _ _ _ _ h => h) (wnF h226 rfl rfl rfl) (v := .bool ((((stepG (f k46) ((runT f k46).1) ((runT f k46).2)) ((allK (stepG (f k46) ((runT f k46).1) ((runT f k46).2))).getD i155 (0, 0))).getD (false, 0)).1)) (fun w1 hSw hC228 => by have hq := (And.intro (of_decide_eq_true (andT hC228).1) (notT (andT hC228).2)); exact (rld h226 rfl (opg rfl hC228) (ldOSc (encH_len (stepG (f k46) ((runT f k46).1) ((runT f k46).2))) Try.underlying4 rfl (hSw.get 0 rfl : Own _ _ _ _ _ _ _ _) (hq177 (by omega)) (0, 0) (j := i155) (f := 2) (by omega) (by decide) rfl rfl))) fun a230 h229 => ?_
        refine tgv hq170 h229 23 rfl rfl rfl rfl (by kernel_rfl) (by kernel_rfl) (by kernel_rfl) (fun _ _ _ _ h => h) (wT h229 rfl rfl rfl) (v := .bool (((((stepG (f k46) ((runT f k46).1) ((runT f k46).2)) ((allK (stepG (f k46) ((runT f k46).1) ((runT f k46).2))).getD j131 (0, 0))).getD (false, 0)).1) || ((((stepG (f k46) ((runT f k46).1) ((runT f k46).2)) ((allK (stepG (f k46) ((runT f k46).1) ((runT f k46).2))).getD i155 (0, 0))).getD (false, 0)).1))) (fun w1 hSw hC231 => by have hq := (of_decide_eq_true hC231); exact (rpickO h229 rfl (E := ((((stepG (f k46) ((runT f k46).1) ((runT f k46).2)) ((allK (stepG (f k46) ((runT f k46).1) ((runT f k46).2))).getD j131 (0, 0))).getD (false, 0)).1)) (F := ((((stepG (f k46) ((runT f k46).1) ((runT f k46).2)) ((allK (stepG (f k46) ((runT f k46).1) ((runT f k46).2))).getD i155 (0, 0))).getD (false, 0)).1)) (opg rfl hC231) rfl rfl (fun e => if_pos (by rw [hC231, e]; try rfl))) w1) fun a233 h232 => ?_
        refine tgv hq170 h232 24 rfl rfl rfl rfl (by kernel_rfl) (by kernel_rfl) (by kernel_rfl) (fun _ _ _ _ h => h) (wT h232 rfl rfl rfl) (v := .bool (((((stepG (f k46) ((runT f k46).1) ((runT f k46).2)) ((allK (stepG (f k46) ((runT f k46).1) ((runT f k46).2))).getD j131 (0, 0))).getD (false, 0)).1) || ((((stepG (f k46) ((runT f k46).1) ((runT f k46).2)) ((allK (stepG (f k46) ((runT f k46).1) ((runT f k46).2))).getD i155 (0, 0))).getD (false, 0)).1))) (fun w1 hSw hC234 => by have hq := (of_decide_eq_true hC234); exact (rmove h232 rfl (opg rfl hC234)) w1) fun a236 h235 => ?_
        refine tgv hq170 h235 25 rfl rfl rfl rfl (by kernel_rfl) (by kernel_rfl) (by kernel_rfl) (fun _ _ _ _ h => h) (wnF h235 rfl rfl rfl) (v := .slice lax110 ((allK (stepG (f k46) ((runT f k46).1) ((runT f k46).2))).length) lcx111) (fun w1 hSw hC237 => by have hq := (And.intro (of_decide_eq_true (andT hC237).1) (And.intro (orF (notT (andT hC237).2)).1 (orF (notT (andT hC237).2)).2)); exact (rmove h235 rfl rfl) w1) fun a239 h238 => ?_
        refine tgv hq170 h238 26 rfl rfl rfl rfl (by kernel_rfl) (by kernel_rfl) (by kernel_rfl) (fun _ _ _ _ h => h) (wnF h238 rfl rfl rfl) (v := .int .i64 (j131 : Int)) (fun w1 hSw hC240 => by have hq := (And.intro (of_decide_eq_true (andT hC240).1) (And.intro (orF (notT (andT hC240).2)).1 (orF (notT (andT hC240).2)).2)); exact (rmove h238 rfl rfl) w1) fun a242 h241 => ?_
        refine tgv hq170 h241 27 rfl rfl rfl rfl (by kernel_rfl) (by kernel_rfl) (by kernel_rfl) (fun _ _ _ _ h => h) (wnF h241 rfl rfl rfl) (v := .pointer (some ⟨q176, j131 * 4, none⟩)) (fun w1 hSw hC243 => by have hq := (And.intro (of_decide_eq_true (andT hC243).1) (And.intro (orF (notT (andT hC243).2)).1 (orF (notT (andT hC243).2)).2)); exact (rindexA h241 rfl (opg rfl hC243) (opg rfl hC243) (fun w => ixO Try.underlying33 (by kernel_rfl) (sz := 4) (hq177 (by omega)) (j := j131) rfl (by omega) (by omega) w)) w1) fun a245 h244 => ?_
        refine tgv hq170 h244 28 rfl rfl rfl rfl (by kernel_rfl) (by kernel_rfl) (by kernel_rfl) (fun _ _ _ _ h => h) (wnF h244 rfl rfl rfl) (v := .pointer (some ⟨q176, j131 * 4 + 0, none⟩)) (fun w1 hSw hC246 => by have hq := (And.intro (of_decide_eq_true (andT hC246).1) (And.intro (orF (notT (andT hC246).2)).1 (orF (notT (andT hC246).2)).2)); exact (rfa h244 rfl (opg rfl hC246) (fun w => fa_lease_Held_lk1_0 q176 (j131 * 4) w)) w1) fun a248 h247 => ?_
        refine tgv hq170 h247 29 rfl rfl rfl rfl (by kernel_rfl) (by kernel_rfl) (by kernel_rfl) (fun _ _ _ _ h => h) (wnF h247 rfl rfl rfl) (v := .int .i64 (((allK (stepG (f k46) ((runT f k46).1) ((runT f k46).2))).getD j131 (0, 0)).1)) (fun w1 hSw hC249 => by have hq := (And.intro (of_decide_eq_true (andT hC249).1) (And.intro (orF (notT (andT hC249).2)).1 (orF (notT (andT hC249).2)).2)); exact (rld h247 rfl (opg rfl hC249) (ldOSc (encH_len (stepG (f k46) ((runT f k46).1) ((runT f k46).2))) Try.underlying3 rfl (hSw.get 0 rfl : Own _ _ _ _ _ _ _ _) (hq177 (by omega)) (0, 0) (j := j131) (f := 0) (by omega) (by decide) rfl rfl))) fun a251 h250 => ?_
        refine tgv hq170 h250 30 rfl rfl rfl rfl (by kernel_rfl) (by kernel_rfl) (by kernel_rfl) (fun _ _ _ _ h => h) (wnF h250 rfl rfl rfl) (v := .slice lax110 ((allK (stepG (f k46) ((runT f k46).1) ((runT f k46).2))).length) lcx111) (fun w1 hSw hC252 => by have hq := (And.intro (of_decide_eq_true (andT hC252).1) (And.intro (orF (notT (andT hC252).2)).1 (orF (notT (andT hC252).2)).2)); exact (rmove h250 rfl rfl) w1) fun a254 h253 => ?_
        refine tgv hq170 h253 31 rfl rfl rfl rfl (by kernel_rfl) (by kernel_rfl) (by kernel_rfl) (fun _ _ _ _ h => h) (wnF h253 rfl rfl rfl) (v := .int .i64 (i155 : Int)) (fun w1 hSw hC255 => by have hq := (And.intro (of_decide_eq_true (andT hC255).1) (And.intro (orF (notT (andT hC255).2)).1 (orF (notT (andT hC255).2)).2)); exact (rmove h253 rfl rfl) w1) fun a257 h256 => ?_
        refine tgv hq170 h256 32 rfl rfl rfl rfl (by kernel_rfl) (by kernel_rfl) (by kernel_rfl) (fun _ _ _ _ h => h) (wnF h256 rfl rfl rfl) (v := .pointer (some ⟨q176, i155 * 4, none⟩)) (fun w1 hSw hC258 => by have hq := (And.intro (of_decide_eq_true (andT hC258).1) (And.intro (orF (notT (andT hC258).2)).1 (orF (notT (andT hC258).2)).2)); exact (rindexA h256 rfl (opg rfl hC258) (opg rfl hC258) (fun w => ixO Try.underlying33 (by kernel_rfl) (sz := 4) (hq177 (by omega)) (j := i155) rfl (by omega) (by omega) w)) w1) fun a260 h259 => ?_
        refine tgv hq170 h259 33 rfl rfl rfl rfl (by kernel_rfl) (by kernel_rfl) (by kernel_rfl) (fun _ _ _ _ h => h) (wnF h259 rfl rfl rfl) (v := .pointer (some ⟨q176, i155 * 4 + 0, none⟩)) (fun w1 hSw hC261 => by have hq := (And.intro (of_decide_eq_true (andT hC261).1) (And.intro (orF (notT (andT hC261).2)).1 (orF (notT (andT hC261).2)).2)); exact (rfa h259 rfl (opg rfl hC261) (fun w => fa_lease_Held_lk1_0 q176 (i155 * 4) w)) w1) fun a263 h262 => ?_
        refine tgv hq170 h262 34 rfl rfl rfl rfl (by kernel_rfl) (by kernel_rfl) (by kernel_rfl) (fun _ _ _ _ h => h) (wnF h262 rfl rfl rfl) (v := .int .i64 (((allK (stepG (f k46) ((runT f k46).1) ((runT f k46).2))).getD i155 (0, 0)).1)) (fun w1 hSw hC264 => by have hq := (And.intro (of_decide_eq_true (andT hC264).1) (And.intro (orF (notT (andT hC264).2)).1 (orF (notT (andT hC264).2)).2)); exact (rld h262 rfl (opg rfl hC264) (ldOSc (encH_len (stepG (f k46) ((runT f k46).1) ((runT f k46).2))) Try.underlying3 rfl (hSw.get 0 rfl : Own _ _ _ _ _ _ _ _) (hq177 (by omega)) (0, 0) (j := i155) (f := 0) (by omega) (by decide) rfl rfl))) fun a266 h265 => ?_
        refine tgv hq170 h265 35 rfl rfl rfl rfl (by kernel_rfl) (by kernel_rfl) (by kernel_rfl) (fun _ _ _ _ h => h) (wnF h265 rfl rfl rfl) (v := .bool (decide (((allK (stepG (f k46) ((runT f k46).1) ((runT f k46).2))).getD j131 (0, 0)).1 = ((allK (stepG (f k46) ((runT f k46).1) ((runT f k46).2))).getD i155 (0, 0)).1))) (fun w1 hSw hC267 => by have hq := (And.intro (of_decide_eq_true (andT hC267).1) (And.intro (orF (notT (andT hC267).2)).1 (orF (notT (andT hC267).2)).2)); exact (rbin h265 rfl (opg rfl hC267) (opg rfl hC267) (cEq _ _ _ _ rfl)) w1) fun a269 h268 => ?_
        refine tgv hq170 h268 36 rfl rfl rfl rfl (by kernel_rfl) (by kernel_rfl) (by kernel_rfl) (fun _ _ _ _ h => h) (wT h268 rfl rfl rfl) (v := .bool ((((((stepG (f k46) ((runT f k46).1) ((runT f k46).2)) ((allK (stepG (f k46) ((runT f k46).1) ((runT f k46).2))).getD j131 (0, 0))).getD (false, 0)).1) || ((((stepG (f k46) ((runT f k46).1) ((runT f k46).2)) ((allK (stepG (f k46) ((runT f k46).1) ((runT f k46).2))).getD i155 (0, 0))).getD (false, 0)).1)) || (decide (((allK (stepG (f k46) ((runT f k46).1) ((runT f k46).2))).getD j131 (0, 0)).1 = ((allK (stepG (f k46) ((runT f k46).1) ((runT f k46).2))).getD i155 (0, 0)).1)))) (fun w1 hSw hC270 => by have hq := (of_decide_eq_true hC270); exact (rpickO h268 rfl (E := (((((stepG (f k46) ((runT f k46).1) ((runT f k46).2)) ((allK (stepG (f k46) ((runT f k46).1) ((runT f k46).2))).getD j131 (0, 0))).getD (false, 0)).1) || ((((stepG (f k46) ((runT f k46).1) ((runT f k46).2)) ((allK (stepG (f k46) ((runT f k46).1) ((runT f k46).2))).getD i155 (0, 0))).getD (false, 0)).1))) (F := (decide (((allK (stepG (f k46) ((runT f k46).1) ((runT f k46).2))).getD j131 (0, 0)).1 = ((allK (stepG (f k46) ((runT f k46).1) ((runT f k46).2))).getD i155 (0, 0)).1))) (opg rfl hC270) rfl rfl (fun e => if_pos (by rw [hC270, e]; try rfl))) w1) fun a272 h271 => ?_
        refine tv hq170 h271 37 rfl rfl rfl rfl (by kernel_rfl) (by kernel_rfl) (by kernel_rfl) (fun _ _ _ _ h => h) (wanted_none rfl) (v := .bool ((decide (((allK (stepG (f k46) ((runT f k46).1) ((runT f k46).2))).getD j131 (0, 0)).2 = ((allK (stepG (f k46) ((runT f k46).1) ((runT f k46).2))).getD i155 (0, 0)).2)) && ((((((stepG (f k46) ((runT f k46).1) ((runT f k46).2)) ((allK (stepG (f k46) ((runT f k46).1) ((runT f k46).2))).getD j131 (0, 0))).getD (false, 0)).1) || ((((stepG (f k46) ((runT f k46).1) ((runT f k46).2)) ((allK (stepG (f k46) ((runT f k46).1) ((runT f k46).2))).getD i155 (0, 0))).getD (false, 0)).1)) || (decide (((allK (stepG (f k46) ((runT f k46).1) ((runT f k46).2))).getD j131 (0, 0)).1 = ((allK (stepG (f k46) ((runT f k46).1) ((runT f k46).2))).getD i155 (0, 0)).1))))) (fun w1 _ => (rpickA h271 rfl (E := (decide (((allK (stepG (f k46) ((runT f k46).1) ((runT f k46).2))).getD j131 (0, 0)).2 = ((allK (stepG (f k46) ((runT f k46).1) ((runT f k46).2))).getD i155 (0, 0)).2))) (F := ((((((stepG (f k46) ((runT f k46).1) ((runT f k46).2)) ((allK (stepG (f k46) ((runT f k46).1) ((runT f k46).2))).getD j131 (0, 0))).getD (false, 0)).1) || ((((stepG (f k46) ((runT f k46).1) ((runT f k46).2)) ((allK (stepG (f k46) ((runT f k46).1) ((runT f k46).2))).getD i155 (0, 0))).getD (false, 0)).1)) || (decide (((allK (stepG (f k46) ((runT f k46).1) ((runT f k46).2))).getD j131 (0, 0)).1 = ((allK (stepG (f k46) ((runT f k46).1) ((runT f k46).2))).getD i155 (0, 0)).1)))) rfl rfl rfl (fun e => if_pos (by rw [e]; try rfl))) w1) fun a274 h273 => ?_
        have h275 := h273.subs (l' := [(80, _), (8, _), (7, _), (6, _), (5, _), (4, _), (3, _), (2, _), (0, _)]) rfl
        clear h273 h167 h172 h174 h178 h180 h182 h184 h186 h188 h190 h192 h194 h196 h199 h202 h205 h208 h211 h214 h217 h220 h223 h226 h229 h232 h235 h238 h241 h244 h247 h250 h253 h256 h259 h262 h265 h268 h271 a163 a173 a175 a179 a181 a183 a185 a187 a189 a191 a193 a195 a197 a200 a203 a206 a209 a212 a215 a218 a221 a224 a227 a230 a233 a236 a239 a242 a245 a248 a251 a254 a257 a260 a263 a266 a269 a272
        refine wpAnyH_done (by kernel_rfl) ?_ _
        refine hK169 _ _ ?_
        rcases Bool.eq_false_or_eq_true ((decide (((allK (stepG (f k46) ((runT f k46).1) ((runT f k46).2))).getD j131 (0, 0)).2 = ((allK (stepG (f k46) ((runT f k46).1) ((runT f k46).2))).getD i155 (0, 0)).2)) && ((((((stepG (f k46) ((runT f k46).1) ((runT f k46).2)) ((allK (stepG (f k46) ((runT f k46).1) ((runT f k46).2))).getD j131 (0, 0))).getD (false, 0)).1) || ((((stepG (f k46) ((runT f k46).1) ((runT f k46).2)) ((allK (stepG (f k46) ((runT f k46).1) ((runT f k46).2))).getD i155 (0, 0))).getD (false, 0)).1)) || (decide (((allK (stepG (f k46) ((runT f k46).1) ((runT f k46).2))).getD j131 (0, 0)).1 = ((allK (stepG (f k46) ((runT f k46).1) ((runT f k46).2))).getD i155 (0, 0)).1)))) with hc276 | hc276
        · skip
          have hp277 : (((allK (stepG (f k46) ((runT f k46).1) ((runT f k46).2))).getD j131 (0, 0)).2 = ((allK (stepG (f k46) ((runT f k46).1) ((runT f k46).2))).getD i155 (0, 0)).2) ∧ (((((((stepG (f k46) ((runT f k46).1) ((runT f k46).2)) ((allK (stepG (f k46) ((runT f k46).1) ((runT f k46).2))).getD j131 (0, 0))).getD (false, 0)).1) = true) ∨ (((((stepG (f k46) ((runT f k46).1) ((runT f k46).2)) ((allK (stepG (f k46) ((runT f k46).1) ((runT f k46).2))).getD i155 (0, 0))).getD (false, 0)).1) = true)) ∨ (((allK (stepG (f k46) ((runT f k46).1) ((runT f k46).2))).getD j131 (0, 0)).1 = ((allK (stepG (f k46) ((runT f k46).1) ((runT f k46).2))).getD i155 (0, 0)).1)) := (And.intro (of_decide_eq_true (andT hc276).1) ((orT (andT hc276).2).imp (fun q => ((orT q).imp (fun q => q) (fun q => q))) (fun q => (of_decide_eq_true q))))
          exact absurd hp277 (tog_pair hok105 (runT_tog f (k46 + 1)) (by omega) (by omega))
        · skip
          have hp278 : (¬ (((allK (stepG (f k46) ((runT f k46).1) ((runT f k46).2))).getD j131 (0, 0)).2 = ((allK (stepG (f k46) ((runT f k46).1) ((runT f k46).2))).getD i155 (0, 0)).2)) ∨ (((((((stepG (f k46) ((runT f k46).1) ((runT f k46).2)) ((allK (stepG (f k46) ((runT f k46).1) ((runT f k46).2))).getD j131 (0, 0))).getD (false, 0)).1) = false) ∧ (((((stepG (f k46) ((runT f k46).1) ((runT f k46).2)) ((allK (stepG (f k46) ((runT f k46).1) ((runT f k46).2))).getD i155 (0, 0))).getD (false, 0)).1) = false)) ∧ (¬ (((allK (stepG (f k46) ((runT f k46).1) ((runT f k46).2))).getD j131 (0, 0)).1 = ((allK (stepG (f k46) ((runT f k46).1) ((runT f k46).2))).getD i155 (0, 0)).1))) := ((andF hc276).imp (fun q => (of_decide_eq_false q)) (fun q => (And.intro (And.intro (orF (orF q).1).1 (orF (orF q).1).2) (of_decide_eq_false (orF q).2))))
          refine wp_condS h275 rfl hc276 ?_
          simp only [Bool.false_eq_true, if_false]
          have h279 := h275.subs (l' := [(8, _), (7, _), (6, _), (5, _), (4, _), (3, _), (2, _), (0, _)]) rfl
          clear h275
          refine wp_skip ?_
          refine hK168 _ _ ?_
          refine wp_region_lit ?_
          refine sv h279 (wanted_none rfl) rfl rfl rfl (v := .int .i64 (i155 : Int)) (rmove h279 rfl rfl) fun a281 h280 => ?_
          refine sv h280 (wanted_none rfl) rfl rfl rfl (v := .int .i64 ((i155 + 1 : Nat) : Int)) (rbin h280 rfl rfl rfl (bAdd _ _ _ (by omega) (by omega) (by omega))) fun a283 h282 => ?_
          have h284 := h282.subs (l' := [(42, _), (41, _), (7, _), (6, _), (5, _), (4, _), (3, _), (2, _), (0, _)]) rfl
          clear h282 h279 h280 a274 a281
          refine sv h284 (wanted_none rfl) rfl rfl rfl (v := .int .i64 ((i155 + 1 : Nat) : Int)) (rassign h284 rfl rfl) fun a286 h285 => ?_
          have h287 := h285.subs (l' := [(8, _), (7, _), (6, _), (5, _), (4, _), (3, _), (2, _), (0, _)]) rfl
          clear h285 h284 a283
          refine wpList_nil ?_
          exact hK154 (i155 + 1) _ _ ⟨h287.subs rfl, s171⟩ (by omega)
      · skip
        have hp288 : ¬ ((i155 : Int) < (j131 : Int)) := (of_decide_eq_false hc165)
        refine wp_condS h164 rfl hc165 ?_
        simp only [Bool.false_eq_true, if_false]
        have h289 := h164.subs (l' := [(8, _), (7, _), (6, _), (5, _), (4, _), (3, _), (2, _), (0, _)]) rfl
        clear h164
        refine wp_exit ?_
        refine hK146 _ _ ?_
        refine wp_region_lit ?_
        refine sv h289 (wanted_none rfl) rfl rfl rfl (v := .int .i64 (j131 : Int)) (rmove h289 rfl rfl) fun a291 h290 => ?_
        refine sv h290 (wanted_none rfl) rfl rfl rfl (v := .int .i64 ((j131 + 1 : Nat) : Int)) (rbin h290 rfl rfl rfl (bAdd _ _ _ (by omega) (by omega) (by omega))) fun a293 h292 => ?_
        have h294 := h292.subs (l' := [(37, _), (36, _), (8, _), (6, _), (5, _), (4, _), (3, _), (2, _), (0, _)]) rfl
        clear h292 h289 h290 a163 a291
        refine sv h294 (wanted_none rfl) rfl rfl rfl (v := .int .i64 ((j131 + 1 : Nat) : Int)) (rassign h294 rfl rfl) fun a296 h295 => ?_
        have h297 := h295.subs (l' := [(7, _), (8, _), (6, _), (5, _), (4, _), (3, _), (2, _), (0, _)]) rfl
        clear h295 h294 a293
        refine wpList_nil ?_
        exact hK130 (j131 + 1) _ _ ⟨h297.subs rfl, s153⟩ (by omega)
    · skip
      have hp298 : ¬ ((j131 : Int) < (((allK (stepG (f k46) ((runT f k46).1) ((runT f k46).2))).length : Nat) : Int)) := (of_decide_eq_false hc143)
      refine wp_condS h142 rfl hc143 ?_
      simp only [Bool.false_eq_true, if_false]
      have h299 := h142.subs (l' := [(7, _), (6, _), (5, _), (4, _), (3, _), (2, _), (0, _)]) rfl
      clear h142
      refine wp_exit ?_
      refine hK71 _ _ ?_
      refine wp_region_lit ?_
      refine sv h299 (wanted_none rfl) rfl rfl rfl (v := .int .i64 (k46 : Int)) (rmove h299 rfl rfl) fun a301 h300 => ?_
      refine sv h300 (wanted_none rfl) rfl rfl rfl (v := .int .i64 ((k46 + 1 : Nat) : Int)) (rbin h300 rfl rfl rfl (bAdd _ _ _ (by omega) (by omega) (by omega))) fun a303 h302 => ?_
      have h304 := h302.subs (l' := [(22, _), (21, _), (7, _), (6, _), (4, _), (3, _), (2, _), (0, _)]) rfl
      clear h302 h299 h300 a141 a301
      refine sv h304 (wanted_none rfl) rfl rfl rfl (v := .int .i64 ((k46 + 1 : Nat) : Int)) (rassign h304 rfl rfl) fun a306 h305 => ?_
      have h307 := h305.subs (l' := [(5, _), (7, _), (6, _), (4, _), (3, _), (2, _), (0, _)]) rfl
      clear h305 h304 a303
      refine wpList_nil ?_
      exact hK44 (k46 + 1) _ _ ⟨h307.subs rfl, (both_close (K := k46 + 1) (by omega) (by omega) ((s129.pick [1, 2, 3, 4, 5, 6, 7, 8] (by decide) rfl) : Sep _ [blkC tg 54 [.map (some gm), .map (some wm)], mapC KG gm n96 (stepG (f k46) ((runT f k46).1) ((runT f k46).2)), mapC KW wm m97 (stepW (f k46) ((runT f k46).1) ((runT f k46).2)), blkC rg 43 [.slice (some ⟨gb, 0, none⟩) 297 297, .slice (some ⟨wb, 0, none⟩) 33 33, .slice (some ⟨lb, 0, none⟩) 33 33], blkC gb 58 (G98.flatMap g3C), blkC wb 3 (W99.map iV), blkC lb 3 (L100.map iV), oldC W W.heap.size]) hR104 hok105 hwo106), by omega⟩ (by omega)
  · skip
    have hp308 : (¬ ((k46 : Int) < (n0 : Int))) ∨ (¬ ((k46 : Int) < 60)) := ((andF hc68).imp (fun q => (of_decide_eq_false q)) (fun q => (of_decide_eq_false q)))
    refine wp_condS h67 rfl hc68 ?_
    simp only [Bool.false_eq_true, if_false]
    have h309 := h67.subs (l' := [(5, _), (4, _), (3, _), (2, _), (0, _)]) rfl
    clear h67
    refine wp_exit ?_
    refine hK36 _ _ ?_
    refine wp_seq_k fun K310 hK310 => ?_
    refine wp_region_lit ?_
    refine so (wanted_none rfl) fun K317 hK317 => xcall h309 rfl rfl rfl (xs := []) rfl cp_commonslaw19_lives_lk1 rfl (vs := []) rfl (args := #[]) rfl (lives_s (R := [bothC tg gm wm rg gb wb lb k46 ((runT f k46).1) ((runT f k46).2), oldC W W.heap.size]) (s43 : Sep _ [bothC tg gm wm rg gb wb lb k46 ((runT f k46).1) ((runT f k46).2), oldC W W.heap.size])) fun a312 v313 w314 r315 h311 => hK317 _ _ ?_
    clear hK317 K317
    obtain ⟨rfl, s316⟩ := r315
    have h318 := h311.subs (l' := [(81, _), (5, _), (4, _), (3, _), (0, _)]) rfl
    clear h311 h309 a66
    refine sv h318 (wanted_none rfl) rfl rfl rfl (v := .bool true) (rassign h318 rfl rfl) fun a320 h319 => ?_
    have h321 := h319.subs (l' := [(2, _), (5, _), (4, _), (3, _), (0, _)]) rfl
    clear h319 h318 a312
    refine wpList_nil ?_
    refine hK310 _ _ ?_
    refine wp_ret ?_
    try simp only [Exit.then, Exit.inBlock]
    refine retR (v := .bool true) (res1 h321 rfl rfl) h321.defs ?_
    exact ⟨rfl, (s316.get 1 rfl : Below _ _ _ ∧ _).1⟩

end Go.Proofs.Ytpalgffmdinfpaa
end
