import Derived.Test.YtpalgffmdinfpaaPk3
import Derived.Deep.Slices
import Derived.Deep.Fields
import Derived.ChangeSame
section
namespace Go.Proofs.Ytpalgffmdinfpaa
open Go.RowKit
set_option linter.unusedSimpArgs false
set_option linter.unusedVariables false
set_option maxRecDepth 100000

structure DeedV where
  k : Int
  now : Int
  c : Int
  i : Int
  own : Bool
def DeedV.wf (d : DeedV) : Prop := (Lit.int .i64 d.k).wf = true ∧ (Lit.int .i64 d.now).wf = true ∧ (Lit.int .i64 d.c).wf = true ∧ (Lit.int .i64 d.i).wf = true
def stepG (d : DeedV) (g : GrF) (wt : WtF) : GrF := if d.k = 0 then askG g wt d.now d.c d.i d.own else if d.k = 1 then updG g (d.c, d.i) none else if d.k = 2 then dropG d.c g else g
def stepW (d : DeedV) (g : GrF) (wt : WtF) : WtF := if d.k = 0 then askW g wt d.now d.c d.i d.own else if d.k = 1 then wt else if d.k = 2 then dropW d.c wt else wt
theorem step_askG {d : DeedV} {g : GrF} {wt : WtF} (h : d.k = 0) : stepG d g wt = askG g wt d.now d.c d.i d.own := if_pos h
theorem step_askW {d : DeedV} {g : GrF} {wt : WtF} (h : d.k = 0) : stepW d g wt = askW g wt d.now d.c d.i d.own := if_pos h
theorem step_giveG {d : DeedV} {g : GrF} {wt : WtF} (h : d.k = 1) : stepG d g wt = updG g (d.c, d.i) none := by unfold stepG; rw [if_neg (by omega), if_pos h]
theorem step_giveW {d : DeedV} {g : GrF} {wt : WtF} (h : d.k = 1) : stepW d g wt = wt := by unfold stepW; rw [if_neg (by omega), if_pos h]
theorem step_dropG {d : DeedV} {g : GrF} {wt : WtF} (h : d.k = 2) : stepG d g wt = dropG d.c g := by unfold stepG; rw [if_neg (by omega), if_neg (by omega), if_pos h]
theorem step_dropW {d : DeedV} {g : GrF} {wt : WtF} (h : d.k = 2) : stepW d g wt = dropW d.c wt := by unfold stepW; rw [if_neg (by omega), if_neg (by omega), if_pos h]
theorem step_elseG {d : DeedV} {g : GrF} {wt : WtF} (h : ¬ d.k = 0 ∧ ¬ d.k = 1 ∧ ¬ d.k = 2) : stepG d g wt = g := by unfold stepG; rw [if_neg h.1, if_neg h.2.1, if_neg h.2.2]
theorem step_elseW {d : DeedV} {g : GrF} {wt : WtF} (h : ¬ d.k = 0 ∧ ¬ d.k = 1 ∧ ¬ d.k = 2) : stepW d g wt = wt := by unfold stepW; rw [if_neg h.1, if_neg h.2.1, if_neg h.2.2]
theorem ownW_or (wt : WtF) (c i : Int) : ownW wt c i = wt ∨ ownW wt c i = updG wt i none := by
  unfold ownW
  cases wt i with
  | none => exact .inl rfl
  | some a =>
    show (if a.1 = c then updG wt i none else wt) = wt ∨ (if a.1 = c then updG wt i none else wt) = _
    split
    · exact .inr rfl
    · exact .inl rfl
theorem WtOk.ask {wt : WtF} (h : WtOk wt) (g : GrF) (now c i : Int) (own : Bool) : WtOk (askW g wt now c i own) := fun j a ha => by
  unfold askW at ha
  split at ha
  · rename_i hb
    have hok := askOkB_iff.1 hb
    unfold askOk at hok
    split at ha
    · split at ha
      · exact h j a ha
      · rcases ownW_or wt c i with q | q
        · rw [q] at ha; exact h j a ha
        · rw [q] at ha
          by_cases e : j = i
          · subst e; rw [updG_same] at ha; cases ha
          · rw [updG_ne _ _ e] at ha; exact h j a ha
    · split at ha
      · exact h j a ha
      · by_cases e : j = i
        · subst e; rw [updG_same] at ha; cases ha; exact ⟨hok.2.1.1, hok.2.1.2, hok.2.2.1, hok.2.2.2⟩
        · rw [updG_ne _ _ e] at ha; exact h j a ha
  · exact h j a ha
theorem WtOk.drop {wt : WtF} (h : WtOk wt) (c : Int) : WtOk (dropW c wt) := fun j a ha => by
  unfold dropW at ha
  cases hb : wt j with
  | none => rw [hb] at ha; cases ha
  | some b =>
    rw [hb] at ha
    have ha' : (if b.1 = c then none else some b) = some a := ha
    split at ha'
    · cases ha'
    · cases ha'; exact h j _ hb
theorem WtOk.empty : WtOk (fun _ => none) := fun i a h => by cases h
def both7 (tg gm wm n m : Nat) (g : GrF) (wt : WtF) (rg gb wb lb : Nat) (G : List Gr3) (W L : List Int) : List Ch := [blkC tg 54 [.map (some gm), .map (some wm)], mapC KG gm n g, mapC KW wm m wt, blkC rg 43 [.slice (some ⟨gb, 0, none⟩) 297 297, .slice (some ⟨wb, 0, none⟩) 33 33, .slice (some ⟨lb, 0, none⟩) 33 33], blkC gb 58 (G.flatMap g3C), blkC wb 3 (W.map iV), blkC lb 3 (L.map iV)]
def In7 (tg gm wm rg gb wb lb b : Nat) : Prop := b = tg ∨ b = gm ∨ b = wm ∨ b = rg ∨ b = gb ∨ b = wb ∨ b = lb
theorem foot7 {tg gm wm n m : Nat} {g : GrF} {wt : WtF} {rg gb wb lb : Nat} {G : List Gr3} {W L : List Int} : ∀ (i : Nat) (c : Ch), (both7 tg gm wm n m g wt rg gb wb lb G W L)[i]? = some c → ∀ k, c.F k → In7 tg gm wm rg gb wb lb k
  | 0, c, h, k, hk => by cases h; exact .inl hk
  | 1, c, h, k, hk => by cases h; exact .inr (.inl hk)
  | 2, c, h, k, hk => by cases h; exact .inr (.inr (.inl hk))
  | 3, c, h, k, hk => by cases h; exact .inr (.inr (.inr (.inl hk)))
  | 4, c, h, k, hk => by cases h; exact .inr (.inr (.inr (.inr (.inl hk))))
  | 5, c, h, k, hk => by cases h; exact .inr (.inr (.inr (.inr (.inr (.inl hk)))))
  | 6, c, h, k, hk => by cases h; exact .inr (.inr (.inr (.inr (.inr (.inr hk)))))
theorem foot7' {tg gm wm n m : Nat} {g : GrF} {wt : WtF} {rg gb wb lb : Nat} {G : List Gr3} {W L : List Int} {k : Nat} (h : In7 tg gm wm rg gb wb lb k) : ∃ (j : Nat) (d : Ch), (both7 tg gm wm n m g wt rg gb wb lb G W L)[j]? = some d ∧ d.F k := by
  rcases h with h | h | h | h | h | h | h
  · exact ⟨0, _, rfl, h⟩
  · exact ⟨1, _, rfl, h⟩
  · exact ⟨2, _, rfl, h⟩
  · exact ⟨3, _, rfl, h⟩
  · exact ⟨4, _, rfl, h⟩
  · exact ⟨5, _, rfl, h⟩
  · exact ⟨6, _, rfl, h⟩
/-- both tables, of the same grants and waits -/
def bothC (tg gm wm rg gb wb lb K : Nat) (g : GrF) (wt : WtF) : Ch where
  F b := In7 tg gm wm rg gb wb lb b
  P w := ∃ n m G W L, n ≤ K ∧ m ≤ K ∧ Sep w (both7 tg gm wm n m g wt rg gb wb lb G W L) ∧ RelL g wt G W L ∧ GrOk g ∧ WtOk wt
  keep h t := by
    obtain ⟨n, m, G, W, L, h1, h2, h3, h4⟩ := h
    exact ⟨n, m, G, W, L, h1, h2, h3.turns t (fun k _ hk i c hi hF => hk (foot7 i c hi k hF)), h4⟩
  lt h b hb := by
    obtain ⟨n, m, G, W, L, h1, h2, h3, h4⟩ := h
    obtain ⟨j, d, hj, hd⟩ := foot7' (n := n) (m := m) (g := g) (wt := wt) (G := G) (W := W) (L := L) hb
    exact d.lt (h3.all j d hj) b hd
theorem both_open {w : World} {tg gm wm rg gb wb lb K : Nat} {g : GrF} {wt : WtF} {R : List Ch} (h : Sep w (bothC tg gm wm rg gb wb lb K g wt :: R)) :
    ∃ n m G W L, n ≤ K ∧ m ≤ K ∧ Sep w (both7 tg gm wm n m g wt rg gb wb lb G W L ++ R) ∧ RelL g wt G W L ∧ GrOk g ∧ WtOk wt := by
  obtain ⟨n, m, G, W, L, h1, h2, h3, h4⟩ : (bothC tg gm wm rg gb wb lb K g wt).P w := h.get 0 rfl
  exact ⟨n, m, G, W, L, h1, h2, Sep.swap (A := [bothC tg gm wm rg gb wb lb K g wt]) h h3 (fun i c hi k hk => ⟨0, _, rfl, foot7 i c hi k hk⟩), h4⟩
theorem both_close {w : World} {tg gm wm rg gb wb lb K n m : Nat} {g : GrF} {wt : WtF} {G : List Gr3} {W L : List Int} {R : List Ch} (hn : n ≤ K) (hm : m ≤ K) (h : Sep w (both7 tg gm wm n m g wt rg gb wb lb G W L ++ R)) (hR : RelL g wt G W L) (hok : GrOk g) (hwo : WtOk wt) : Sep w (bothC tg gm wm rg gb wb lb K g wt :: R) := by
  refine Sep.swap (A := both7 tg gm wm n m g wt rg gb wb lb G W L) (B := [bothC tg gm wm rg gb wb lb K g wt]) h ?_ (fun i c hi k hk => ?_)
  · refine Sep.cons ⟨n, m, G, W, L, hn, hm, h.left, hR, hok, hwo⟩ (Sep.nil _) (fun i d hi => by simp at hi)
  · cases i with
    | zero => cases hi; exact foot7' hk
    | succ i => simp at hi
theorem sameI_t {w : World} {B B' : Nat} {a b : Option Addr} {c d : Nat} {xs ys : List Int} {R : List Ch} (hS : Sep w (ownC B 3 1 a xs.length c (xs.map iV) :: ownC B' 3 1 b ys.length d (ys.map iV) :: R)) :
    CallsR Try.prog 14 #[.slice a xs.length c, .slice b ys.length d] w fun v w' => v = .bool (decide (xs = ys)) ∧ Sep w' (ownC B 3 1 a xs.length c (xs.map iV) :: ownC B' 3 1 b ys.length d (ys.map iV) :: R) :=
  (sameInts_any a b c d xs ys w (Own.row (hS.get 0 rfl : Own _ _ _ _ _ _ _ _)) (Own.row (hS.get 1 rfl : Own _ _ _ _ _ _ _ _))).mono fun e w' ⟨e1, hb⟩ => ⟨_, e1, rfl, hS.mono hb⟩
theorem sameI_s {w : World} {B B' : Nat} {a b : Option Addr} {c d : Nat} {xs : List Int} {R : List Ch} (hS : Sep w (ownC B 3 1 a xs.length c (xs.map iV) :: ownC B' 3 1 b xs.length d (xs.map iV) :: R)) :
    CallsR Try.prog 14 #[.slice a xs.length c, .slice b xs.length d] w fun v w' => v = .bool true ∧ Sep w' (ownC B 3 1 a xs.length c (xs.map iV) :: ownC B' 3 1 b xs.length d (xs.map iV) :: R) :=
  (sameI_t hS).mono fun v w' ⟨e1, h⟩ => ⟨by rw [e1]; simp, h⟩

theorem fa_commonslaw19_Deed_lg1_0 (g off : Nat) (w : World) : (Instr.fieldAt 29 (.pointer (some ⟨g, off, none⟩)) 0).run Try.prog w = .ok (.pointer (some ⟨g, off + 0, none⟩)) w := rfl
theorem fa_commonslaw19_Deed_lg1_1 (g off : Nat) (w : World) : (Instr.fieldAt 29 (.pointer (some ⟨g, off, none⟩)) 1).run Try.prog w = .ok (.pointer (some ⟨g, off + 1, none⟩)) w := rfl
theorem fa_commonslaw19_Deed_lg1_2 (g off : Nat) (w : World) : (Instr.fieldAt 29 (.pointer (some ⟨g, off, none⟩)) 2).run Try.prog w = .ok (.pointer (some ⟨g, off + 2, none⟩)) w := rfl
theorem fa_commonslaw19_Deed_lg1_3 (g off : Nat) (w : World) : (Instr.fieldAt 29 (.pointer (some ⟨g, off, none⟩)) 3).run Try.prog w = .ok (.pointer (some ⟨g, off + 3, none⟩)) w := rfl
theorem fa_commonslaw19_Deed_lg1_4 (g off : Nat) (w : World) : (Instr.fieldAt 29 (.pointer (some ⟨g, off, none⟩)) 4).run Try.prog w = .ok (.pointer (some ⟨g, off + 4, none⟩)) w := rfl
theorem cp_lease_Table_Ask_lg1 (args : Array Value) (w : World) : (callFunc 17 args).run Try.prog w = .ok (.enter 17 args) w := by
  have h := Try.func17
  go_simp
theorem cp_commonsref19_Table_Ask_lg1 (args : Array Value) (w : World) : (callFunc 20 args).run Try.prog w = .ok (.enter 20 args) w := by
  have h := Try.func20
  go_simp
theorem cp_commonsref03_SameInts_lg1 (args : Array Value) (w : World) : (callFunc 14 args).run Try.prog w = .ok (.enter 14 args) w := by
  have h := Try.func14
  go_simp
theorem cp_lease_Table_Give_lg1 (args : Array Value) (w : World) : (callFunc 21 args).run Try.prog w = .ok (.enter 21 args) w := by
  have h := Try.func21
  go_simp
theorem cp_commonsref19_Table_Give_lg1 (args : Array Value) (w : World) : (callFunc 22 args).run Try.prog w = .ok (.enter 22 args) w := by
  have h := Try.func22
  go_simp
theorem cp_lease_Table_Drop_lg1 (args : Array Value) (w : World) : (callFunc 18 args).run Try.prog w = .ok (.enter 18 args) w := by
  have h := Try.func18
  go_simp
theorem cp_commonsref19_Table_Drop_lg1 (args : Array Value) (w : World) : (callFunc 23 args).run Try.prog w = .ok (.enter 23 args) w := by
  have h := Try.func23
  go_simp

set_option maxHeartbeats 4000000 in
theorem does_s {w : World} {tg gm wm rg gb wb lb K : Nat} {g : GrF} {wt : WtF} {R : List Ch} (hSb : Sep w (bothC tg gm wm rg gb wb lb K g wt :: R)) (hK : K < 1000) (d : DeedV) (hd : d.wf) :
    CallsR Try.prog 10 #[.pointer (some ⟨tg, 0, none⟩), .pointer (some ⟨rg, 0, none⟩), .agg #[.int .i64 d.k, .int .i64 d.now, .int .i64 d.c, .int .i64 d.i, .bool d.own]] w (fun v w' => v = .bool true ∧ Sep w' (bothC tg gm wm rg gb wb lb (K + 1) (stepG d g wt) (stepW d g wt) :: R)) := by
  obtain ⟨n, m, G, W, L, hnK, hmK, hS0, hR, hok, hwo⟩ := both_open hSb; clear hSb
  have hS : Sep w [blkC tg 54 [.map (some gm), .map (some wm)], mapC KG gm n g, mapC KW wm m wt, blkC rg 43 [.slice (some ⟨gb, 0, none⟩) 297 297, .slice (some ⟨wb, 0, none⟩) 33 33, .slice (some ⟨lb, 0, none⟩) 33 33], blkC gb 58 (G.flatMap g3C), blkC wb 3 (W.map iV), blkC lb 3 (L.map iV), Ch.many R] := Sep.tail_many (xs := [_, _, _, _, _, _, _]) hS0; clear hS0; obtain ⟨hG, hW, hL⟩ := hR.n
  have hkw := i64_bd hd.1; have hnw := i64_bd hd.2.1; have hcw := i64_bd hd.2.2.1; have hiw := i64_bd hd.2.2.2
  refine enterR Try.func10 rfl (N := 76) Try.ntmps10 (by show 3 ≤ 76; decide) [(0, .pointer (some ⟨tg, 0, none⟩)), (1, .pointer (some ⟨rg, 0, none⟩)), (2, .agg #[.int .i64 d.k, .int .i64 d.now, .int .i64 d.c, .int .i64 d.i, .bool d.own])] rfl fun a2 h1 => ?_
  refine wp_seq_k fun K3 hK3 => ?_
  refine wp_region_lit ?_
  refine so (wanted_none rfl) fun K11 hK11 => xbox h1 rfl rfl rfl rfl rfl (z := [.int .i64 d.k, .int .i64 d.now, .int .i64 d.c, .int .i64 d.i, .bool d.own]) rfl hS fun a6 g4 w7 h5 s8 b9 e10 => hK11 _ _ ?_
  clear hK11 K11
  clear b9 e10
  refine sv h5 (wanted_none rfl) rfl rfl rfl (v := .bool false) (rassign h5 rfl rfl) fun a13 h12 => ?_
  refine wpList_nil ?_
  refine hK3 _ _ ?_
  refine wp_seq_k fun K14 hK14 => ?_
  refine wp_seq_k fun K15 hK15 => ?_
  refine wp_region_lit ?_
  refine sv h12 (wanted_none rfl) rfl rfl rfl (v := .pointer (some ⟨g4, 0, none⟩)) (rfa h12 rfl rfl (fun w => fa_commonslaw19_Deed_lg1_0 g4 0 w)) fun a17 h16 => ?_
  refine sw h16 (wanted_none rfl) rfl rfl rfl (v := .int .i64 d.k) (rld h16 rfl rfl (ldB Try.underlying3 rfl (s8.get 0 rfl : Blk _ _ _ _) rfl)) fun a19 h18 => ?_
  have h20 := h18.subs (l' := [(13, _), (6, _), (5, _), (0, _), (1, _), (2, _)]) rfl
  clear h18 h1 h5 h12 h16 a2 a6 a13 a17
  refine wpList_nil ?_
  refine hK15 _ _ ?_
  refine wp_block ?_
  refine wp_seq_k fun K21 hK21 => ?_
  refine wp_region_lit ?_
  refine sv h20 (wanted_none rfl) rfl rfl rfl (v := .bool (decide (d.k = 0))) (rbin h20 rfl rfl rfl (cEq _ _ _ _ rfl)) fun a23 h22 => ?_
  refine sv h22 (wanted_none rfl) rfl rfl rfl (v := .bool (decide (d.k = 0))) (rassign h22 rfl rfl) fun a25 h24 => ?_
  have h26 := h24.subs (l' := [(14, _), (13, _), (6, _), (5, _), (0, _), (1, _), (2, _)]) rfl
  clear h24 h20 h22 a19 a23
  refine wpList_nil ?_
  refine hK21 _ _ ?_
  rcases Bool.eq_false_or_eq_true (decide (d.k = 0)) with hc27 | hc27
  · skip
    have hp28 : d.k = 0 := (of_decide_eq_true hc27)
    refine wp_condS h26 rfl hc27 ?_
    simp only [if_true]
    have h29 := h26.subs (l' := [(13, _), (6, _), (5, _), (0, _), (1, _), (2, _)]) rfl
    clear h26
    refine wp_seq_k fun K30 hK30 => ?_
    refine wp_region_lit ?_
    refine sv h29 (wanted_none rfl) rfl rfl rfl (v := .pointer (some ⟨tg, 0, none⟩)) (rmove h29 rfl rfl) fun a32 h31 => ?_
    refine sv h31 (wanted_none rfl) rfl rfl rfl (v := .pointer (some ⟨g4, 1, none⟩)) (rfa h31 rfl rfl (fun w => fa_commonslaw19_Deed_lg1_1 g4 0 w)) fun a34 h33 => ?_
    refine sw h33 (wanted_none rfl) rfl rfl rfl (v := .int .i64 d.now) (rld h33 rfl rfl (ldB Try.underlying3 rfl (s8.get 0 rfl : Blk _ _ _ _) rfl)) fun a36 h35 => ?_
    refine sv h35 (wanted_none rfl) rfl rfl rfl (v := .pointer (some ⟨g4, 2, none⟩)) (rfa h35 rfl rfl (fun w => fa_commonslaw19_Deed_lg1_2 g4 0 w)) fun a38 h37 => ?_
    refine sw h37 (wanted_none rfl) rfl rfl rfl (v := .int .i64 d.c) (rld h37 rfl rfl (ldB Try.underlying3 rfl (s8.get 0 rfl : Blk _ _ _ _) rfl)) fun a40 h39 => ?_
    refine sv h39 (wanted_none rfl) rfl rfl rfl (v := .pointer (some ⟨g4, 3, none⟩)) (rfa h39 rfl rfl (fun w => fa_commonslaw19_Deed_lg1_3 g4 0 w)) fun a42 h41 => ?_
    refine sw h41 (wanted_none rfl) rfl rfl rfl (v := .int .i64 d.i) (rld h41 rfl rfl (ldB Try.underlying3 rfl (s8.get 0 rfl : Blk _ _ _ _) rfl)) fun a44 h43 => ?_
    refine sv h43 (wanted_none rfl) rfl rfl rfl (v := .pointer (some ⟨g4, 4, none⟩)) (rfa h43 rfl rfl (fun w => fa_commonslaw19_Deed_lg1_4 g4 0 w)) fun a46 h45 => ?_
    refine sw h45 (wanted_none rfl) rfl rfl rfl (v := .bool d.own) (rld h45 rfl rfl (ldB Try.underlying4 rfl (s8.get 0 rfl : Blk _ _ _ _) rfl)) fun a48 h47 => ?_
    refine so (wanted_none rfl) fun K59 hK59 => xcall h47 rfl rfl rfl (xs := [.tmp 17, .tmp 19, .tmp 21, .tmp 23, .tmp 25]) rfl cp_lease_Table_Ask_lg1 rfl (vs := [.pointer (some ⟨tg, 0, none⟩), .int .i64 d.now, .int .i64 d.c, .int .i64 d.i, .bool d.own]) rfl (args := #[.pointer (some ⟨tg, 0, none⟩), .int .i64 d.now, .int .i64 d.c, .int .i64 d.i, .bool d.own]) rfl (askT_s (tg := tg) (gm := gm) (wm := wm) (R := [blkC g4 29 [.int .i64 d.k, .int .i64 d.now, .int .i64 d.c, .int .i64 d.i, .bool d.own], blkC rg 43 [.slice (some ⟨gb, 0, none⟩) 297 297, .slice (some ⟨wb, 0, none⟩) 33 33, .slice (some ⟨lb, 0, none⟩) 33 33], blkC gb 58 (G.flatMap g3C), blkC wb 3 (W.map iV), blkC lb 3 (L.map iV), Ch.many R]) ((s8.pick [1, 2, 3, 0, 4, 5, 6, 7, 8] (by decide) rfl) : Sep _ [blkC tg 54 [.map (some gm), .map (some wm)], mapC KG gm n g, mapC KW wm m wt, blkC g4 29 [.int .i64 d.k, .int .i64 d.now, .int .i64 d.c, .int .i64 d.i, .bool d.own], blkC rg 43 [.slice (some ⟨gb, 0, none⟩) 297 297, .slice (some ⟨wb, 0, none⟩) 33 33, .slice (some ⟨lb, 0, none⟩) 33 33], blkC gb 58 (G.flatMap g3C), blkC wb 3 (W.map iV), blkC lb 3 (L.map iV), Ch.many R]) hok (by omega) (by omega) d.now d.c d.i d.own) fun a54 v55 w56 r57 h53 => hK59 _ _ ?_
    clear hK59 K59
    obtain ⟨lax49, lcx50, nx51, mx52, rfl, s58, hn57, hm57⟩ := r57
    refine sv h53 (wanted_none rfl) rfl rfl rfl (v := .tuple #[.slice lax49 ((askLst g d.now d.c d.i d.own).length) lcx50, .int .i64 (askE g wt d.now d.c d.i d.own)]) (rmove h53 rfl rfl) fun a61 h60 => ?_
    refine sv h60 (wanted_none rfl) rfl rfl rfl (v := .slice lax49 ((askLst g d.now d.c d.i d.own).length) lcx50) (rext h60 rfl rfl rfl) fun a63 h62 => ?_
    refine sv h62 (wanted_none rfl) rfl rfl rfl (v := .int .i64 (askE g wt d.now d.c d.i d.own)) (rext h62 rfl rfl rfl) fun a65 h64 => ?_
    refine sv h64 (wanted_none rfl) rfl rfl rfl (v := .slice lax49 ((askLst g d.now d.c d.i d.own).length) lcx50) (rassign h64 rfl rfl) fun a67 h66 => ?_
    refine sv h66 (wanted_none rfl) rfl rfl rfl (v := .int .i64 (askE g wt d.now d.c d.i d.own)) (rassign h66 rfl rfl) fun a69 h68 => ?_
    have h70 := h68.subs (l' := [(8, _), (7, _), (13, _), (6, _), (5, _), (0, _), (1, _), (2, _)]) rfl
    clear h68 h29 h31 h33 h35 h37 h39 h41 h43 h45 h47 h53 h60 h62 h64 h66 a25 a32 a34 a36 a38 a40 a42 a44 a46 a48 a54 a61 a63 a65 a67
    refine wpList_nil ?_
    refine hK30 _ _ ?_
    refine wp_seq_k fun K71 hK71 => ?_
    refine wp_region_lit ?_
    refine sv h70 (wanted_none rfl) rfl rfl rfl (v := .pointer (some ⟨rg, 0, none⟩)) (rmove h70 rfl rfl) fun a73 h72 => ?_
    refine sv h72 (wanted_none rfl) rfl rfl rfl (v := .pointer (some ⟨g4, 1, none⟩)) (rfa h72 rfl rfl (fun w => fa_commonslaw19_Deed_lg1_1 g4 0 w)) fun a75 h74 => ?_
    refine sw h74 (wanted_none rfl) rfl rfl rfl (v := .int .i64 d.now) (rld h74 rfl rfl (ldB Try.underlying3 rfl (s58.get 4 rfl : Blk _ _ _ _) rfl)) fun a77 h76 => ?_
    refine sv h76 (wanted_none rfl) rfl rfl rfl (v := .pointer (some ⟨g4, 2, none⟩)) (rfa h76 rfl rfl (fun w => fa_commonslaw19_Deed_lg1_2 g4 0 w)) fun a79 h78 => ?_
    refine sw h78 (wanted_none rfl) rfl rfl rfl (v := .int .i64 d.c) (rld h78 rfl rfl (ldB Try.underlying3 rfl (s58.get 4 rfl : Blk _ _ _ _) rfl)) fun a81 h80 => ?_
    refine sv h80 (wanted_none rfl) rfl rfl rfl (v := .pointer (some ⟨g4, 3, none⟩)) (rfa h80 rfl rfl (fun w => fa_commonslaw19_Deed_lg1_3 g4 0 w)) fun a83 h82 => ?_
    refine sw h82 (wanted_none rfl) rfl rfl rfl (v := .int .i64 d.i) (rld h82 rfl rfl (ldB Try.underlying3 rfl (s58.get 4 rfl : Blk _ _ _ _) rfl)) fun a85 h84 => ?_
    refine sv h84 (wanted_none rfl) rfl rfl rfl (v := .pointer (some ⟨g4, 4, none⟩)) (rfa h84 rfl rfl (fun w => fa_commonslaw19_Deed_lg1_4 g4 0 w)) fun a87 h86 => ?_
    refine sw h86 (wanted_none rfl) rfl rfl rfl (v := .bool d.own) (rld h86 rfl rfl (ldB Try.underlying4 rfl (s58.get 4 rfl : Blk _ _ _ _) rfl)) fun a89 h88 => ?_
    refine so (wanted_none rfl) fun K101 hK101 => xcall h88 rfl rfl rfl (xs := [.tmp 30, .tmp 32, .tmp 34, .tmp 36, .tmp 38]) rfl cp_commonsref19_Table_Ask_lg1 rfl (vs := [.pointer (some ⟨rg, 0, none⟩), .int .i64 d.now, .int .i64 d.c, .int .i64 d.i, .bool d.own]) rfl (args := #[.pointer (some ⟨rg, 0, none⟩), .int .i64 d.now, .int .i64 d.c, .int .i64 d.i, .bool d.own]) rfl (askR_any (R := [ownC 0 3 1 lax49 (askLst g d.now d.c d.i d.own).length lcx50 ((askLst g d.now d.c d.i d.own).map iV), blkC tg 54 [.map (some gm), .map (some wm)], mapC KG gm nx51 (askG g wt d.now d.c d.i d.own), mapC KW wm mx52 (askW g wt d.now d.c d.i d.own), blkC g4 29 [.int .i64 d.k, .int .i64 d.now, .int .i64 d.c, .int .i64 d.i, .bool d.own], Ch.many R]) ((s58.pick [5, 6, 7, 8, 0, 1, 2, 3, 4, 9] (by decide) rfl) : Sep _ [blkC rg 43 [.slice (some ⟨gb, 0, none⟩) 297 297, .slice (some ⟨wb, 0, none⟩) 33 33, .slice (some ⟨lb, 0, none⟩) 33 33], blkC gb 58 (G.flatMap g3C), blkC wb 3 (W.map iV), blkC lb 3 (L.map iV), ownC 0 3 1 lax49 (askLst g d.now d.c d.i d.own).length lcx50 ((askLst g d.now d.c d.i d.own).map iV), blkC tg 54 [.map (some gm), .map (some wm)], mapC KG gm nx51 (askG g wt d.now d.c d.i d.own), mapC KW wm mx52 (askW g wt d.now d.c d.i d.own), blkC g4 29 [.int .i64 d.k, .int .i64 d.now, .int .i64 d.c, .int .i64 d.i, .bool d.own], Ch.many R]) hR hd.2.1 hd.2.2.1 hd.2.2.2) fun a96 v97 w98 r99 h95 => hK101 _ _ ?_
    clear hK101 K101
    obtain ⟨lax90, lcx91, Gx92, Wx93, Lx94, rfl, s100, hR99⟩ := r99
    refine sv h95 (wanted_none rfl) rfl rfl rfl (v := .tuple #[.slice lax90 ((askLst g d.now d.c d.i d.own).length) lcx91, .int .i64 (askE g wt d.now d.c d.i d.own)]) (rmove h95 rfl rfl) fun a103 h102 => ?_
    refine sv h102 (wanted_none rfl) rfl rfl rfl (v := .slice lax90 ((askLst g d.now d.c d.i d.own).length) lcx91) (rext h102 rfl rfl rfl) fun a105 h104 => ?_
    refine sv h104 (wanted_none rfl) rfl rfl rfl (v := .int .i64 (askE g wt d.now d.c d.i d.own)) (rext h104 rfl rfl rfl) fun a107 h106 => ?_
    refine sv h106 (wanted_none rfl) rfl rfl rfl (v := .slice lax90 ((askLst g d.now d.c d.i d.own).length) lcx91) (rassign h106 rfl rfl) fun a109 h108 => ?_
    refine sv h108 (wanted_none rfl) rfl rfl rfl (v := .int .i64 (askE g wt d.now d.c d.i d.own)) (rassign h108 rfl rfl) fun a111 h110 => ?_
    have h112 := h110.subs (l' := [(10, _), (9, _), (8, _), (7, _), (13, _), (6, _), (5, _), (0, _), (1, _), (2, _)]) rfl
    clear h110 h70 h72 h74 h76 h78 h80 h82 h84 h86 h88 h95 h102 h104 h106 h108 a69 a73 a75 a77 a79 a81 a83 a85 a87 a89 a96 a103 a105 a107 a109
    refine wpList_nil ?_
    refine hK71 _ _ ?_
    refine wp_seq_k fun K113 hK113 => ?_
    refine wp_region_lit ?_
    refine sv h112 (wanted_none rfl) rfl rfl rfl (v := .slice lax49 ((askLst g d.now d.c d.i d.own).length) lcx50) (rmove h112 rfl rfl) fun a115 h114 => ?_
    refine sv h114 (wanted_none rfl) rfl rfl rfl (v := .slice lax90 ((askLst g d.now d.c d.i d.own).length) lcx91) (rmove h114 rfl rfl) fun a117 h116 => ?_
    refine so (wanted_none rfl) fun K124 hK124 => xcall h116 rfl rfl rfl (xs := [.tmp 42, .tmp 43]) rfl cp_commonsref03_SameInts_lg1 rfl (vs := [.slice lax49 ((askLst g d.now d.c d.i d.own).length) lcx50, .slice lax90 ((askLst g d.now d.c d.i d.own).length) lcx91]) rfl (args := #[.slice lax49 ((askLst g d.now d.c d.i d.own).length) lcx50, .slice lax90 ((askLst g d.now d.c d.i d.own).length) lcx91]) rfl (sameI_s (R := [blkC rg 43 [.slice (some ⟨gb, 0, none⟩) 297 297, .slice (some ⟨wb, 0, none⟩) 33 33, .slice (some ⟨lb, 0, none⟩) 33 33], blkC gb 58 (Gx92.flatMap g3C), blkC wb 3 (Wx93.map iV), blkC lb 3 (Lx94.map iV), blkC tg 54 [.map (some gm), .map (some wm)], mapC KG gm nx51 (askG g wt d.now d.c d.i d.own), mapC KW wm mx52 (askW g wt d.now d.c d.i d.own), blkC g4 29 [.int .i64 d.k, .int .i64 d.now, .int .i64 d.c, .int .i64 d.i, .bool d.own], Ch.many R]) ((s100.pick [5, 0, 1, 2, 3, 4, 6, 7, 8, 9, 10] (by decide) rfl) : Sep _ [ownC 0 3 1 lax49 (askLst g d.now d.c d.i d.own).length lcx50 ((askLst g d.now d.c d.i d.own).map iV), ownC 0 3 1 lax90 (askLst g d.now d.c d.i d.own).length lcx91 ((askLst g d.now d.c d.i d.own).map iV), blkC rg 43 [.slice (some ⟨gb, 0, none⟩) 297 297, .slice (some ⟨wb, 0, none⟩) 33 33, .slice (some ⟨lb, 0, none⟩) 33 33], blkC gb 58 (Gx92.flatMap g3C), blkC wb 3 (Wx93.map iV), blkC lb 3 (Lx94.map iV), blkC tg 54 [.map (some gm), .map (some wm)], mapC KG gm nx51 (askG g wt d.now d.c d.i d.own), mapC KW wm mx52 (askW g wt d.now d.c d.i d.own), blkC g4 29 [.int .i64 d.k, .int .i64 d.now, .int .i64 d.c, .int .i64 d.i, .bool d.own], Ch.many R])) fun a119 v120 w121 r122 h118 => hK124 _ _ ?_
    clear hK124 K124
    obtain ⟨rfl, s123⟩ := r122
    refine sv h118 (wanted_none rfl) rfl rfl rfl (v := .bool true) (rassign h118 rfl rfl) fun a126 h125 => ?_
    have h127 := h125.subs (l' := [(11, _), (10, _), (9, _), (8, _), (7, _), (13, _), (6, _), (5, _), (0, _), (1, _), (2, _)]) rfl
    clear h125 h112 h114 h116 h118 a111 a115 a117 a119
    refine wpList_nil ?_
    refine hK113 _ _ ?_
    refine wp_seq_k fun K128 hK128 => ?_
    refine wp_region_lit ?_
    refine sv h127 (wanted_none rfl) rfl rfl rfl (v := .bool true) (rmove h127 rfl rfl) fun a130 h129 => ?_
    refine sv h129 (wanted_none rfl) rfl rfl rfl (v := .bool true) (rmove h129 rfl rfl) fun a132 h131 => ?_
    refine sv h131 (wT h131 (E := true) rfl rfl rfl) rfl rfl rfl (v := .int .i64 (askE g wt d.now d.c d.i d.own)) (rmove h131 rfl rfl) fun a134 h133 => ?_
    refine sv h133 (wT h133 (E := true) rfl rfl rfl) rfl rfl rfl (v := .int .i64 (askE g wt d.now d.c d.i d.own)) (rmove h133 rfl rfl) fun a136 h135 => ?_
    refine sv h135 (wT h135 (E := true) rfl rfl rfl) rfl rfl rfl (v := .bool true) (rbin h135 rfl rfl rfl (cEq _ _ _ _ (decide_eq_true rfl))) fun a138 h137 => ?_
    refine sv h137 (wanted_none rfl) rfl rfl rfl (v := .bool true) (rpick h137 rfl rfl rfl) fun a140 h139 => ?_
    have h141 := h139.subs (l' := [(50, _), (49, _), (48, _), (47, _), (46, _), (45, _), (11, _), (10, _), (9, _), (8, _), (7, _), (13, _), (5, _), (0, _), (1, _), (2, _)]) rfl
    clear h139 h127 h129 h131 h133 h135 h137 a126 a130 a132 a134 a136 a138
    refine sv h141 (wanted_none rfl) rfl rfl rfl (v := .bool true) (rassign h141 rfl rfl) fun a143 h142 => ?_
    have h144 := h142.subs (l' := [(6, _), (11, _), (10, _), (9, _), (8, _), (7, _), (13, _), (5, _), (0, _), (1, _), (2, _)]) rfl
    clear h142 h141 a140
    refine wpList_nil ?_
    refine hK128 _ _ ?_
    refine wp_ret ?_
    try simp only [Exit.then, Exit.inBlock]
    refine retR (v := .bool true) (res1 h144 rfl rfl) h144.defs ?_
    refine ⟨rfl, ?_⟩
    rw [step_askG (by omega), step_askW (by omega)]
    exact both_close (K := K + 1) (by omega) (by omega) (Sep.tail_un (xs := both7 _ _ _ _ _ _ _ _ _ _ _ _ _ _) ((s123.pick [6, 7, 8, 2, 3, 4, 5, 10] (by decide) rfl) : Sep _ [blkC tg 54 [.map (some gm), .map (some wm)], mapC KG gm nx51 (askG g wt d.now d.c d.i d.own), mapC KW wm mx52 (askW g wt d.now d.c d.i d.own), blkC rg 43 [.slice (some ⟨gb, 0, none⟩) 297 297, .slice (some ⟨wb, 0, none⟩) 33 33, .slice (some ⟨lb, 0, none⟩) 33 33], blkC gb 58 (Gx92.flatMap g3C), blkC wb 3 (Wx93.map iV), blkC lb 3 (Lx94.map iV), Ch.many R])) hR99 (hok.ask wt d.now d.c d.i d.own) (hwo.ask g d.now d.c d.i d.own)
  · skip
    have hp145 : ¬ (d.k = 0) := (of_decide_eq_false hc27)
    refine wp_condS h26 rfl hc27 ?_
    simp only [Bool.false_eq_true, if_false]
    have h146 := h26.subs (l' := [(13, _), (6, _), (5, _), (0, _), (1, _), (2, _)]) rfl
    clear h26
    refine wp_seq_k fun K147 hK147 => ?_
    refine wp_region_lit ?_
    refine sv h146 (wanted_none rfl) rfl rfl rfl (v := .bool (decide (d.k = 1))) (rbin h146 rfl rfl rfl (cEq _ _ _ _ rfl)) fun a149 h148 => ?_
    refine sv h148 (wanted_none rfl) rfl rfl rfl (v := .bool (decide (d.k = 1))) (rassign h148 rfl rfl) fun a151 h150 => ?_
    have h152 := h150.subs (l' := [(51, _), (13, _), (6, _), (5, _), (0, _), (1, _), (2, _)]) rfl
    clear h150 h146 h148 a25 a149
    refine wpList_nil ?_
    refine hK147 _ _ ?_
    rcases Bool.eq_false_or_eq_true (decide (d.k = 1)) with hc153 | hc153
    · skip
      have hp154 : d.k = 1 := (of_decide_eq_true hc153)
      refine wp_condS h152 rfl hc153 ?_
      simp only [if_true]
      have h155 := h152.subs (l' := [(13, _), (6, _), (5, _), (0, _), (1, _), (2, _)]) rfl
      clear h152
      refine wp_seq_k fun K156 hK156 => ?_
      have s158 := s8.drew
      refine wp_region_held_drew (S := fun w' => Sep w' [blkC g4 29 [.int .i64 d.k, .int .i64 d.now, .int .i64 d.c, .int .i64 d.i, .bool d.own], blkC tg 54 [.map (some gm), .map (some wm)], mapC KW wm m wt, Ch.many R]) (by kernel_rfl) (s158.pick [0, 1, 3, 8] (by decide) rfl) (fun hq157 => ?_)
      refine tv hq157 h155 0 rfl rfl rfl rfl (by kernel_rfl) (by kernel_rfl) (by kernel_rfl) (fun _ _ _ _ h => h) (wanted_none rfl) (v := .pointer (some ⟨tg, 0, none⟩)) (fun w1 _ => (rmove h155 rfl rfl) w1) fun a160 h159 => ?_
      refine tv hq157 h159 1 rfl rfl rfl rfl (by kernel_rfl) (by kernel_rfl) (by kernel_rfl) (fun _ _ _ _ h => h) (wanted_none rfl) (v := .pointer (some ⟨g4, 2, none⟩)) (fun w1 _ => (rfa h159 rfl rfl (fun w => fa_commonslaw19_Deed_lg1_2 g4 0 w)) w1) fun a162 h161 => ?_
      refine tv hq157 h161 2 rfl rfl rfl rfl (by kernel_rfl) (by kernel_rfl) (by kernel_rfl) (fun _ _ _ _ h => h) (wanted_none rfl) (v := .int .i64 d.c) (fun w1 hSw => (rld h161 rfl rfl (ldB Try.underlying3 rfl (hSw.get 0 rfl : Blk _ _ _ _) rfl))) fun a164 h163 => ?_
      refine tv hq157 h163 3 rfl rfl rfl rfl (by kernel_rfl) (by kernel_rfl) (by kernel_rfl) (fun _ _ _ _ h => h) (wanted_none rfl) (v := .pointer (some ⟨g4, 3, none⟩)) (fun w1 _ => (rfa h163 rfl rfl (fun w => fa_commonslaw19_Deed_lg1_3 g4 0 w)) w1) fun a166 h165 => ?_
      refine tv hq157 h165 4 rfl rfl rfl rfl (by kernel_rfl) (by kernel_rfl) (by kernel_rfl) (fun _ _ _ _ h => h) (wanted_none rfl) (v := .int .i64 d.i) (fun w1 hSw => (rld h165 rfl rfl (ldB Try.underlying3 rfl (hSw.get 0 rfl : Blk _ _ _ _) rfl))) fun a168 h167 => ?_
      refine tv hq157 h167 6 rfl rfl rfl rfl (by kernel_rfl) (by kernel_rfl) (by kernel_rfl) (fun _ _ _ _ h => h) (wanted_none rfl) (v := .pointer (some ⟨rg, 0, none⟩)) (fun w1 _ => (rmove h167 rfl rfl) w1) fun a170 h169 => ?_
      refine tv hq157 h169 7 rfl rfl rfl rfl (by kernel_rfl) (by kernel_rfl) (by kernel_rfl) (fun _ _ _ _ h => h) (wanted_none rfl) (v := .pointer (some ⟨g4, 2, none⟩)) (fun w1 _ => (rfa h169 rfl rfl (fun w => fa_commonslaw19_Deed_lg1_2 g4 0 w)) w1) fun a172 h171 => ?_
      refine tv hq157 h171 8 rfl rfl rfl rfl (by kernel_rfl) (by kernel_rfl) (by kernel_rfl) (fun _ _ _ _ h => h) (wanted_none rfl) (v := .int .i64 d.c) (fun w1 hSw => (rld h171 rfl rfl (ldB Try.underlying3 rfl (hSw.get 0 rfl : Blk _ _ _ _) rfl))) fun a174 h173 => ?_
      refine tv hq157 h173 9 rfl rfl rfl rfl (by kernel_rfl) (by kernel_rfl) (by kernel_rfl) (fun _ _ _ _ h => h) (wanted_none rfl) (v := .pointer (some ⟨g4, 3, none⟩)) (fun w1 _ => (rfa h173 rfl rfl (fun w => fa_commonslaw19_Deed_lg1_3 g4 0 w)) w1) fun a176 h175 => ?_
      refine tv hq157 h175 10 rfl rfl rfl rfl (by kernel_rfl) (by kernel_rfl) (by kernel_rfl) (fun _ _ _ _ h => h) (wanted_none rfl) (v := .int .i64 d.i) (fun w1 hSw => (rld h175 rfl rfl (ldB Try.underlying3 rfl (hSw.get 0 rfl : Blk _ _ _ _) rfl))) fun a178 h177 => ?_
      refine to_ 5 rfl (wanted_none rfl) (by kernel_rfl) fun K186 hK186 => xcall h177 rfl rfl rfl (xs := [.tmp 53, .tmp 55, .tmp 57]) rfl cp_lease_Table_Give_lg1 rfl (vs := [.pointer (some ⟨tg, 0, none⟩), .int .i64 d.c, .int .i64 d.i]) rfl (args := #[.pointer (some ⟨tg, 0, none⟩), .int .i64 d.c, .int .i64 d.i]) rfl (giveT_s (tg := tg) (gm := gm) (wm := wm) (R := [blkC g4 29 [.int .i64 d.k, .int .i64 d.now, .int .i64 d.c, .int .i64 d.i, .bool d.own], blkC rg 43 [.slice (some ⟨gb, 0, none⟩) 297 297, .slice (some ⟨wb, 0, none⟩) 33 33, .slice (some ⟨lb, 0, none⟩) 33 33], blkC gb 58 (G.flatMap g3C), blkC wb 3 (W.map iV), blkC lb 3 (L.map iV), Ch.many R]) ((s158.pick [1, 2, 3, 0, 4, 5, 6, 7, 8] (by decide) rfl) : Sep _ [blkC tg 54 [.map (some gm), .map (some wm)], mapC KG gm n g, mapC KW wm m wt, blkC g4 29 [.int .i64 d.k, .int .i64 d.now, .int .i64 d.c, .int .i64 d.i, .bool d.own], blkC rg 43 [.slice (some ⟨gb, 0, none⟩) 297 297, .slice (some ⟨wb, 0, none⟩) 33 33, .slice (some ⟨lb, 0, none⟩) 33 33], blkC gb 58 (G.flatMap g3C), blkC wb 3 (W.map iV), blkC lb 3 (L.map iV), Ch.many R]) (c := d.c) (i := d.i) ⟨hd.2.2.1, hd.2.2.2⟩) fun a181 v182 w183 r184 h180 => ?_
      obtain ⟨rfl, s185⟩ := r184
      refine hK186 _ _ (s185.pick [3, 0, 2, 8] (by decide) rfl) fun hq179 => ?_
      clear hK186 K186
      refine to_ 11 rfl (wanted_none rfl) (by kernel_rfl) fun K197 hK197 => xcall h180 rfl rfl rfl (xs := [.tmp 59, .tmp 61, .tmp 63]) rfl cp_commonsref19_Table_Give_lg1 rfl (vs := [.pointer (some ⟨rg, 0, none⟩), .int .i64 d.c, .int .i64 d.i]) rfl (args := #[.pointer (some ⟨rg, 0, none⟩), .int .i64 d.c, .int .i64 d.i]) rfl (giveR_s (R := [blkC tg 54 [.map (some gm), .map (some wm)], mapC KG gm n (updG g (d.c, d.i) none), mapC KW wm m wt, blkC g4 29 [.int .i64 d.k, .int .i64 d.now, .int .i64 d.c, .int .i64 d.i, .bool d.own], Ch.many R]) ((s185.pick [4, 5, 6, 7, 0, 1, 2, 3, 8] (by decide) rfl) : Sep _ [blkC rg 43 [.slice (some ⟨gb, 0, none⟩) 297 297, .slice (some ⟨wb, 0, none⟩) 33 33, .slice (some ⟨lb, 0, none⟩) 33 33], blkC gb 58 (G.flatMap g3C), blkC wb 3 (W.map iV), blkC lb 3 (L.map iV), blkC tg 54 [.map (some gm), .map (some wm)], mapC KG gm n (updG g (d.c, d.i) none), mapC KW wm m wt, blkC g4 29 [.int .i64 d.k, .int .i64 d.now, .int .i64 d.c, .int .i64 d.i, .bool d.own], Ch.many R]) hR hok hcw hiw) fun a192 v193 w194 r195 h191 => ?_
      obtain ⟨Gx188, Wx189, Lx190, rfl, s196, hR195⟩ := r195
      refine hK197 _ _ (s196.pick [7, 4, 6, 8] (by decide) rfl) fun hq187 => ?_
      clear hK197 K197
      refine tv hq187 h191 12 rfl rfl rfl rfl (by kernel_rfl) (by kernel_rfl) (by kernel_rfl) (fun _ _ _ _ h => h) (wanted_none rfl) (v := .bool true) (fun w1 _ => (rbin h191 rfl rfl rfl (cEq _ _ _ _ (decide_eq_true rfl))) w1) fun a199 h198 => ?_
      have h200 := h198.subs (l' := [(65, _), (64, _), (58, _), (63, _), (62, _), (61, _), (60, _), (59, _), (57, _), (56, _), (55, _), (54, _), (53, _), (13, _), (5, _), (0, _), (1, _), (2, _)]) rfl
      clear h198 h155 h159 h161 h163 h165 h167 h169 h171 h173 h175 h177 h180 h191 a151 a160 a162 a164 a166 a168 a170 a172 a174 a176 a178 a181 a192
      refine tv hq187 h200 13 rfl rfl rfl rfl (by kernel_rfl) (by kernel_rfl) (by kernel_rfl) (fun _ _ _ _ h => h) (wanted_none rfl) (v := .bool true) (fun w1 _ => (rassign h200 rfl rfl) w1) fun a202 h201 => ?_
      have h203 := h201.subs (l' := [(6, _), (13, _), (5, _), (0, _), (1, _), (2, _)]) rfl
      clear h201 h200 a199
      refine wpAnyH_done (by kernel_rfl) ?_ _
      refine hK156 _ _ ?_
      refine wp_ret ?_
      try simp only [Exit.then, Exit.inBlock]
      refine retR (v := .bool true) (res1 h203 rfl rfl) h203.defs ?_
      refine ⟨rfl, ?_⟩
      rw [step_giveG (by omega), step_giveW (by omega)]
      exact both_close (K := K + 1) (by omega) (by omega) (Sep.tail_un (xs := both7 _ _ _ _ _ _ _ _ _ _ _ _ _ _) ((s196.pick [4, 5, 6, 0, 1, 2, 3, 8] (by decide) rfl) : Sep _ [blkC tg 54 [.map (some gm), .map (some wm)], mapC KG gm n (updG g (d.c, d.i) none), mapC KW wm m wt, blkC rg 43 [.slice (some ⟨gb, 0, none⟩) 297 297, .slice (some ⟨wb, 0, none⟩) 33 33, .slice (some ⟨lb, 0, none⟩) 33 33], blkC gb 58 (Gx188.flatMap g3C), blkC wb 3 (Wx189.map iV), blkC lb 3 (Lx190.map iV), Ch.many R])) hR195 (hok.give _) hwo
    · skip
      have hp204 : ¬ (d.k = 1) := (of_decide_eq_false hc153)
      refine wp_condS h152 rfl hc153 ?_
      simp only [Bool.false_eq_true, if_false]
      have h205 := h152.subs (l' := [(13, _), (6, _), (5, _), (0, _), (1, _), (2, _)]) rfl
      clear h152
      refine wp_seq_k fun K206 hK206 => ?_
      refine wp_region_lit ?_
      refine sv h205 (wanted_none rfl) rfl rfl rfl (v := .bool (decide (d.k = 2))) (rbin h205 rfl rfl rfl (cEq _ _ _ _ rfl)) fun a208 h207 => ?_
      refine sv h207 (wanted_none rfl) rfl rfl rfl (v := .bool (decide (d.k = 2))) (rassign h207 rfl rfl) fun a210 h209 => ?_
      have h211 := h209.subs (l' := [(66, _), (13, _), (6, _), (5, _), (0, _), (1, _), (2, _)]) rfl
      clear h209 h205 h207 a151 a208
      refine wpList_nil ?_
      refine hK206 _ _ ?_
      rcases Bool.eq_false_or_eq_true (decide (d.k = 2)) with hc212 | hc212
      · skip
        have hp213 : d.k = 2 := (of_decide_eq_true hc212)
        refine wp_condS h211 rfl hc212 ?_
        simp only [if_true]
        have h214 := h211.subs (l' := [(13, _), (6, _), (5, _), (0, _), (1, _), (2, _)]) rfl
        clear h211
        refine wp_seq_k fun K215 hK215 => ?_
        refine wp_region_lit ?_
        refine sv h214 (wanted_none rfl) rfl rfl rfl (v := .pointer (some ⟨tg, 0, none⟩)) (rmove h214 rfl rfl) fun a217 h216 => ?_
        refine sv h216 (wanted_none rfl) rfl rfl rfl (v := .pointer (some ⟨g4, 2, none⟩)) (rfa h216 rfl rfl (fun w => fa_commonslaw19_Deed_lg1_2 g4 0 w)) fun a219 h218 => ?_
        refine sw h218 (wanted_none rfl) rfl rfl rfl (v := .int .i64 d.c) (rld h218 rfl rfl (ldB Try.underlying3 rfl (s8.get 0 rfl : Blk _ _ _ _) rfl)) fun a221 h220 => ?_
        refine so (wanted_none rfl) fun K228 hK228 => xcall h220 rfl rfl rfl (xs := [.tmp 68, .tmp 70]) rfl cp_lease_Table_Drop_lg1 rfl (vs := [.pointer (some ⟨tg, 0, none⟩), .int .i64 d.c]) rfl (args := #[.pointer (some ⟨tg, 0, none⟩), .int .i64 d.c]) rfl (dropT_s (tg := tg) (gm := gm) (wm := wm) (R := [blkC g4 29 [.int .i64 d.k, .int .i64 d.now, .int .i64 d.c, .int .i64 d.i, .bool d.own], blkC rg 43 [.slice (some ⟨gb, 0, none⟩) 297 297, .slice (some ⟨wb, 0, none⟩) 33 33, .slice (some ⟨lb, 0, none⟩) 33 33], blkC gb 58 (G.flatMap g3C), blkC wb 3 (W.map iV), blkC lb 3 (L.map iV), Ch.many R]) ((s8.pick [1, 2, 3, 0, 4, 5, 6, 7, 8] (by decide) rfl) : Sep _ [blkC tg 54 [.map (some gm), .map (some wm)], mapC KG gm n g, mapC KW wm m wt, blkC g4 29 [.int .i64 d.k, .int .i64 d.now, .int .i64 d.c, .int .i64 d.i, .bool d.own], blkC rg 43 [.slice (some ⟨gb, 0, none⟩) 297 297, .slice (some ⟨wb, 0, none⟩) 33 33, .slice (some ⟨lb, 0, none⟩) 33 33], blkC gb 58 (G.flatMap g3C), blkC wb 3 (W.map iV), blkC lb 3 (L.map iV), Ch.many R]) d.c) fun a223 v224 w225 r226 h222 => hK228 _ _ ?_
        clear hK228 K228
        obtain ⟨rfl, s227⟩ := r226
        have h229 := h222.subs (l' := [(13, _), (6, _), (5, _), (0, _), (1, _), (2, _)]) rfl
        clear h222 h214 h216 h218 h220 a210 a217 a219 a221
        refine wpList_nil ?_
        refine hK215 _ _ ?_
        refine wp_region_lit ?_
        refine sv h229 (wanted_none rfl) rfl rfl rfl (v := .pointer (some ⟨rg, 0, none⟩)) (rmove h229 rfl rfl) fun a231 h230 => ?_
        refine sv h230 (wanted_none rfl) rfl rfl rfl (v := .pointer (some ⟨g4, 2, none⟩)) (rfa h230 rfl rfl (fun w => fa_commonslaw19_Deed_lg1_2 g4 0 w)) fun a233 h232 => ?_
        refine sw h232 (wanted_none rfl) rfl rfl rfl (v := .int .i64 d.c) (rld h232 rfl rfl (ldB Try.underlying3 rfl (s227.get 3 rfl : Blk _ _ _ _) rfl)) fun a235 h234 => ?_
        refine so (wanted_none rfl) fun K245 hK245 => xcall h234 rfl rfl rfl (xs := [.tmp 72, .tmp 74]) rfl cp_commonsref19_Table_Drop_lg1 rfl (vs := [.pointer (some ⟨rg, 0, none⟩), .int .i64 d.c]) rfl (args := #[.pointer (some ⟨rg, 0, none⟩), .int .i64 d.c]) rfl (dropR_s (R := [blkC tg 54 [.map (some gm), .map (some wm)], mapC KG gm n (dropG d.c g), mapC KW wm m (dropW d.c wt), blkC g4 29 [.int .i64 d.k, .int .i64 d.now, .int .i64 d.c, .int .i64 d.i, .bool d.own], Ch.many R]) ((s227.pick [4, 5, 6, 7, 0, 1, 2, 3, 8] (by decide) rfl) : Sep _ [blkC rg 43 [.slice (some ⟨gb, 0, none⟩) 297 297, .slice (some ⟨wb, 0, none⟩) 33 33, .slice (some ⟨lb, 0, none⟩) 33 33], blkC gb 58 (G.flatMap g3C), blkC wb 3 (W.map iV), blkC lb 3 (L.map iV), blkC tg 54 [.map (some gm), .map (some wm)], mapC KG gm n (dropG d.c g), mapC KW wm m (dropW d.c wt), blkC g4 29 [.int .i64 d.k, .int .i64 d.now, .int .i64 d.c, .int .i64 d.i, .bool d.own], Ch.many R]) hR hok hwo hcw) fun a240 v241 w242 r243 h239 => hK245 _ _ ?_
        clear hK245 K245
        obtain ⟨Gx236, Wx237, Lx238, rfl, s244, hR243⟩ := r243
        have h246 := h239.subs (l' := [(13, _), (6, _), (5, _), (0, _), (1, _), (2, _)]) rfl
        clear h239 h229 h230 h232 h234 a223 a231 a233 a235
        refine wpList_nil ?_
        refine hK14 _ _ ?_
        refine wp_seq_k fun K247 hK247 => ?_
        refine wp_region_lit ?_
        have h248 := h246.subs (l' := [(13, _), (5, _), (0, _), (1, _), (2, _)]) rfl
        clear h246
        refine sv h248 (wanted_none rfl) rfl rfl rfl (v := .bool true) (rassign h248 rfl rfl) fun a250 h249 => ?_
        refine wpList_nil ?_
        refine hK247 _ _ ?_
        refine wp_ret ?_
        try simp only [Exit.then, Exit.inBlock]
        refine retR (v := .bool true) (res1 h249 rfl rfl) h249.defs ?_
        refine ⟨rfl, ?_⟩
        rw [step_dropG (by omega), step_dropW (by omega)]
        exact both_close (K := K + 1) (by omega) (by omega) (Sep.tail_un (xs := both7 _ _ _ _ _ _ _ _ _ _ _ _ _ _) ((s244.pick [4, 5, 6, 0, 1, 2, 3, 8] (by decide) rfl) : Sep _ [blkC tg 54 [.map (some gm), .map (some wm)], mapC KG gm n (dropG d.c g), mapC KW wm m (dropW d.c wt), blkC rg 43 [.slice (some ⟨gb, 0, none⟩) 297 297, .slice (some ⟨wb, 0, none⟩) 33 33, .slice (some ⟨lb, 0, none⟩) 33 33], blkC gb 58 (Gx236.flatMap g3C), blkC wb 3 (Wx237.map iV), blkC lb 3 (Lx238.map iV), Ch.many R])) hR243 (hok.drop _) (hwo.drop _)
      · skip
        have hp251 : ¬ (d.k = 2) := (of_decide_eq_false hc212)
        refine wp_condS h211 rfl hc212 ?_
        simp only [Bool.false_eq_true, if_false]
        have h252 := h211.subs (l' := [(13, _), (6, _), (5, _), (0, _), (1, _), (2, _)]) rfl
        clear h211
        refine wp_skip ?_
        refine hK14 _ _ ?_
        refine wp_seq_k fun K253 hK253 => ?_
        refine wp_region_lit ?_
        have h254 := h252.subs (l' := [(13, _), (5, _), (0, _), (1, _), (2, _)]) rfl
        clear h252
        refine sv h254 (wanted_none rfl) rfl rfl rfl (v := .bool true) (rassign h254 rfl rfl) fun a256 h255 => ?_
        refine wpList_nil ?_
        refine hK253 _ _ ?_
        refine wp_ret ?_
        try simp only [Exit.then, Exit.inBlock]
        refine retR (v := .bool true) (res1 h255 rfl rfl) h255.defs ?_
        refine ⟨rfl, ?_⟩
        rw [step_elseG (by omega), step_elseW (by omega)]
        exact both_close (K := K + 1) (by omega) (by omega) (Sep.tail_un (xs := both7 _ _ _ _ _ _ _ _ _ _ _ _ _ _) ((s8.pick [1, 2, 3, 4, 5, 6, 7, 8] (by decide) rfl) : Sep _ [blkC tg 54 [.map (some gm), .map (some wm)], mapC KG gm n g, mapC KW wm m wt, blkC rg 43 [.slice (some ⟨gb, 0, none⟩) 297 297, .slice (some ⟨wb, 0, none⟩) 33 33, .slice (some ⟨lb, 0, none⟩) 33 33], blkC gb 58 (G.flatMap g3C), blkC wb 3 (W.map iV), blkC lb 3 (L.map iV), Ch.many R])) hR hok hwo

end Go.Proofs.Ytpalgffmdinfpaa
end
section
namespace Go.Proofs.Ytpalgffmdinfpaa
open Go.RowKit
set_option linter.unusedSimpArgs false
set_option linter.unusedVariables false
set_option maxRecDepth 100000

/-- how many grants are told ahead of a place -/
def posL (g : GrF) (i c : Int) : Nat := ((allK g).filter (fun p => decide (p.2 < i ∨ (p.2 = i ∧ p.1 < c)))).length
theorem GrOk.at_ {g : GrF} (h : GrOk g) {c i : Int} (hs : (g (c, i)).isSome = true) : 1 ≤ c ∧ c ≤ 8 ∧ 1 ≤ i ∧ i ≤ 32 := by
  obtain ⟨a, ha⟩ := Option.isSome_iff_exists.1 hs
  exact h _ _ ha
theorem findT_yes {w : World} {tg gm wm n m : Nat} {g : GrF} {wt : WtF} {R : List Ch} (hS : Sep w (tab3 tg gm wm n m g wt ++ R)) {c i : Int} (hk : wfK (c, i)) (hs : (g (c, i)).isSome = true) :
    CallsR Try.prog 19 #[.pointer (some ⟨tg, 0, none⟩), .int .i64 c, .int .i64 i] w fun v w' => v = .tuple #[.agg #[.int .i64 c, .int .i64 i, .bool ((g (c, i)).getD (false, 0)).1, .int .i64 ((g (c, i)).getD (false, 0)).2], .bool true] ∧ Sep w' (tab3 tg gm wm n m g wt ++ R) :=
  (findT_s hS hk).mono fun v w' ⟨e1, h⟩ => ⟨by rw [e1, findV, if_pos hs], h⟩
abbrev leK (p q : Int × Int) : Prop := p.2 < q.2 ∨ (p.2 = q.2 ∧ p.1 < q.1)
end Go.Proofs.Ytpalgffmdinfpaa
end
section
namespace Go.Proofs.Ytpalgffmdinfpaa
open Go.RowKit
open Go.WideShapes Go.ChangeShapes Go.Deep
set_option linter.unusedSimpArgs false
set_option linter.unusedVariables false
set_option maxRecDepth 100000
/-- n elements of sz cells at a place -/
def ExtC (w : World) (b off sz n : Nat) (f : Nat → List Value) : Prop := b < w.heap.size ∧ ∀ i, i < n → ∀ (j : Nat) v, (f i)[j]? = some v → w.cell? ⟨b, off + i * sz + j, none⟩ = some v
/-- a list that was handed in -/
def ExtA (w : World) (a : Option Addr) (n c sz : Nat) (f : Nat → List Value) : Prop :=
  n ≤ c ∧ c ≤ maxLen ∧ (0 < n → ∃ b off, a = some ⟨b, off, none⟩ ∧ ExtC w b off sz n f)
theorem ExtA.at {w : World} {a : Option Addr} {n c sz : Nat} {f : Nat → List Value} (h : ExtA w a n c sz f) : ∃ b off, 0 < n → a = some ⟨b, off, none⟩ ∧ ExtC w b off sz n f := by
  by_cases hn : 0 < n
  · obtain ⟨b, off, q⟩ := h.2.2 hn
    exact ⟨b, off, fun _ => q⟩
  · exact ⟨0, 0, fun q => absurd q hn⟩
theorem ExtA.lt {w : World} {a : Option Addr} {n c sz : Nat} {f : Nat → List Value} (h : ExtA w a n c sz f) : n ≤ maxLen := Nat.le_trans h.1 h.2.1
theorem ExtC.cell {w0 w : World} {B b off sz n : Nat} {f : Nat → List Value} (h : ExtC w0 b off sz n f) (hB : w0.heap.size ≤ B) (hw : Below B w0 w) {i j : Nat} {v : Value} (hi : i < n) (hv : (f i)[j]? = some v) : w.cell? ⟨b, off + i * sz + j, none⟩ = some v :=
  (hw.cell (p := ⟨b, off + i * sz + j, none⟩) (Nat.lt_of_lt_of_le h.1 hB)).trans (h.2 i hi j v hv)
theorem ldX {T : TypeId} {k : TypeDesc} (hu : Try.prog.underlying T = some k) (hk : k.isRow = true) {sz : Nat} (hn : (Try.prog.info? T).map (·.size) = some sz) {w0 w : World} {B b off n j o : Nat} {f : Nat → List Value} (hl : ∀ i, (f i).length = sz) (h : ExtC w0 b off sz n f) (hB : w0.heap.size ≤ B) (hw : Below B w0 w ∧ B ≤ w0.heap.size) (hj : j < n) (ho : off + j * sz = o) :
    (Instr.loadAt T (.pointer (some ⟨b, o, none⟩))).run Try.prog w = .ok (.agg (f j).toArray) w := by
  subst ho
  exact run_loadAt_mid w b (off + j * sz) T (f j) k (fun i v hi => h.cell hB hw.1 hj hi) hu hk (by rw [hl]; exact hn)
theorem cell_spot {w : World} {x : Addr} {v : Value} (h : w.cell? x = some v) : x.spot = none := by
  unfold World.cell? at h
  cases hs : x.spot with
  | none => rfl
  | some q => simp [hs] at h; split at h <;> simp_all
theorem open_ext {α H : Type} {enc : TypeId × Value → H} {W : World} {base : Nat} {held : Bool} {a : Option Addr} {n c : Nat} {d : DataW H} {p : List MemPlace} {t e : TypeId} {sz : Nat} (z : α) (cells : α → List Value) (good : α → Prop)
    (ht : Try.prog.underlying t = some (.slice e)) (hk : Try.prog.cellsOf e = sz) (hs : 0 < sz)
    (hE : ∀ (fuel : Nat) (cs : List Value) (x : DataW H × List MemPlace), cs.length = sz → DataW.trod enc Try.prog W base (fun _ => true) held fuel e cs = some x → ∃ v, cs = cells v ∧ good v)
    (h : DataW.Trod enc Try.prog W base (fun _ => true) held t (.slice a n c) d p) : ∃ f : Nat → α, ExtA W a n c sz (fun i => cells (f i)) ∧ ∀ i, i < n → good (f i) := by
  obtain ⟨fuel, hf⟩ := h
  rcases open_slice ht hf with ⟨hcs, _⟩ | ⟨x, len, cap, m, q, D, Pl, hcs, _, hl, hm, hmm, _, hi⟩
  · simp [Value.cells] at hcs
    obtain ⟨rfl, rfl, rfl⟩ := hcs
    exact ⟨fun _ => z, ⟨Nat.le_refl _, Nat.zero_le _, fun h => absurd h (by omega)⟩, fun i h => absurd h (by omega)⟩
  · simp [Value.cells] at hcs
    obtain ⟨rfl, rfl, rfl⟩ := hcs
    have hnm : n ≤ m := by rw [hmm]; split <;> omega
    have one : ∀ i, ∃ v : α, i < n → (cells v).length = sz ∧ (∀ (j : Nat) u, (cells v)[j]? = some u → W.cell? ((x.add (i * sz)).add j) = some u) ∧ good v := by
      intro i
      by_cases hlt : i < n
      · obtain ⟨cs', hc, htr⟩ := hi i (by omega)
        rw [hk] at hc
        obtain ⟨_, hlen, hat⟩ := World.cells?_some hc
        obtain ⟨v, e1, hg⟩ := hE q cs' _ hlen htr
        subst e1
        refine ⟨v, fun _ => ⟨hlen, fun j u hj => ?_, hg⟩⟩
        obtain ⟨h1, h2⟩ := List.getElem?_eq_some_iff.1 hj
        have := hat j (by omega)
        rw [this, ← h2]
        exact List.getElem?_eq_getElem h1
      · exact ⟨z, fun h => absurd h hlt⟩
    obtain ⟨f, hf⟩ := Classical.skolem.1 one
    refine ⟨f, ⟨hl, hm, fun hn => ?_⟩, fun i hi => (hf i hi).2.2⟩
    have hl0 := (hf 0 hn).1
    obtain ⟨u, hu⟩ : ∃ u, (cells (f 0))[0]? = some u := ⟨_, List.getElem?_eq_getElem (by omega)⟩
    have hq := (hf 0 hn).2.1 0 u hu
    rw [Nat.zero_mul, show (x.add 0).add 0 = x from by unfold Addr.add; simp] at hq
    have hsp := cell_spot hq
    obtain ⟨b, off, sp⟩ := x
    simp at hsp
    subst hsp
    refine ⟨b, off, rfl, ?_, fun i hi j v hj => ?_⟩
    · exact World.block_lt_of_cell? W _ hq
    · have h0 := (hf i hi).2.1 j v hj
      rw [Addr.add_mid, Addr.add_mid] at h0
      exact h0
end Go.Proofs.Ytpalgffmdinfpaa
end
section
namespace Go.Proofs.Ytpalgffmdinfpaa
open Go.RowKit
open Go.WideShapes Go.ChangeShapes Go.Deep
set_option linter.unusedSimpArgs false
set_option linter.unusedVariables false
set_option maxRecDepth 100000
def deedC (d : DeedV) : List Value := [.int .i64 d.k, .int .i64 d.now, .int .i64 d.c, .int .i64 d.i, .bool d.own]
def DeedsIn (W : World) (a : Option Addr) (n c : Nat) (f : Nat → DeedV) : Prop := ExtA W a n c 5 (fun i => deedC (f i)) ∧ ∀ i, i < n → (f i).wf
theorem open_deeds {H : Type} {enc : TypeId × Value → H} {W : World} {base : Nat} {held : Bool} {a : Option Addr} {n c : Nat} {d : DataW H} {p : List MemPlace}
    (h : DataW.Trod enc Try.prog W base (fun _ => true) held 22 (.slice a n c) d p) : ∃ f, DeedsIn W a n c f := by
  have k1 : Try.prog.cellsOf 3 = 1 := by kernel_rfl
  have k2 : Try.prog.cellsOf 4 = 1 := by kernel_rfl
  refine open_ext ⟨0, 0, 0, 0, false⟩ deedC DeedV.wf Try.underlying22 (by kernel_rfl) (by decide) (fun fuel cs x hlen ht => ?_) h
  obtain ⟨ys, r, _, _, _, hyl, hg⟩ := DataW.trod_struct Try.underlying29 ht
  have hyl' : ys.length = 5 := hyl
  match cs, hlen with
  | [u0, u1, u2, u3, u4], _ =>
    have g0 := hg 0 _ rfl
    have g1 := hg 1 _ rfl
    have g2 := hg 2 _ rfl
    have g3 := hg 3 _ rfl
    have g4 := hg 4 _ rfl
    simp [k1, k2] at g0 g1 g2 g3 g4
    rw [List.getElem?_eq_getElem (by omega)] at g0 g1 g2 g3 g4
    obtain ⟨t0, e0, _, w0⟩ := DataW.trod_int Try.underlying3 g0
    obtain ⟨t1, e1, _, w1⟩ := DataW.trod_int Try.underlying3 g1
    obtain ⟨t2, e2, _, w2⟩ := DataW.trod_int Try.underlying3 g2
    obtain ⟨t3, e3, _, w3⟩ := DataW.trod_int Try.underlying3 g3
    obtain ⟨t4, e4, _⟩ := DataW.trod_bool Try.underlying4 g4
    simp only [List.cons.injEq, and_true] at e0 e1 e2 e3 e4
    subst e0 e1 e2 e3 e4
    exact ⟨⟨t0, t1, t2, t3, t4⟩, rfl, w0, w1, w2, w3⟩
theorem lives_s {w : World} {R : List Ch} (hS : Sep w R) : CallsR Try.prog 12 #[] w fun v w' => v = .bool true ∧ Sep w' R :=
  (lives19_any w).mono fun e w' ⟨e1, hb⟩ => ⟨_, e1, rfl, hS.mono hb⟩
theorem newR_b {w : World} {tg gm wm : Nat} {R : List Ch} (hS : Sep w (tab3 tg gm wm 0 0 (fun _ => none) (fun _ => none) ++ R)) :
    CallsR Try.prog 9 #[] w fun v w' => ∃ rg gb wb lb, v = .pointer (some ⟨rg, 0, none⟩) ∧ Sep w' (bothC tg gm wm rg gb wb lb 0 (fun _ => none) (fun _ => none) :: R) :=
  (newR_s hS).mono fun v w' ⟨rg, gb, wb, lb, G, W, L, e1, h, hR⟩ => ⟨rg, gb, wb, lb, e1, by
    have h0 := Sep.tail_many (xs := [_, _, _, _, _, _, _]) h
    have h' : Sep w' (both7 tg gm wm 0 0 (fun _ => none) (fun _ => none) rg gb wb lb G W L ++ [Ch.many R]) := h0.pick [4, 5, 6, 0, 1, 2, 3, 7] (by decide) rfl
    have h' := Sep.tail_un (xs := both7 tg gm wm 0 0 (fun _ => none) (fun _ => none) rg gb wb lb G W L) h'
    exact both_close (Nat.le_refl _) (Nat.le_refl _) h' hR GrOk.empty WtOk.empty⟩
/-- the tables behind k deeds -/
def runT (f : Nat → DeedV) : Nat → GrF × WtF
  | 0 => (fun _ => none, fun _ => none)
  | k + 1 => (stepG (f k) (runT f k).1 (runT f k).2, stepW (f k) (runT f k).1 (runT f k).2)
end Go.Proofs.Ytpalgffmdinfpaa
end
section
namespace Go.Proofs.Ytpalgffmdinfpaa
open Go.RowKit
set_option linter.unusedSimpArgs false
set_option linter.unusedVariables false
set_option maxRecDepth 100000

end Go.Proofs.Ytpalgffmdinfpaa
end
section
namespace Go.Proofs.Ytpalgffmdinfpaa
open Go.RowKit
set_option linter.unusedSimpArgs false
set_option linter.unusedVariables false
set_option maxRecDepth 100000

/-- grants of an inode go together -/
def Tog (g : GrF) : Prop := ∀ c c' i a b, g (c, i) = some a → g (c', i) = some b → c ≠ c' → a.1 = false ∧ b.1 = false
theorem Tog.empty : Tog (fun _ => none) := fun c c' i a b h => by cases h
theorem Tog.ask {g : GrF} (h : Tog g) (hok : GrOk g) (wt : WtF) (now c i : Int) (own : Bool) : Tog (askG g wt now c i own) := by
  unfold askG
  split
  · split
    · split
      · exact h
      · rename_i h0 _
        have hn : ∀ k, confB g c i own k = false := fun k => by
          cases hq : confB g c i own k with
          | false => rfl
          | true =>
            have := (agL_mem hok).2 hq
            rw [List.eq_nil_of_length_eq_zero h0] at this
            cases this
        have one : ∀ k b, k ≠ c → g (k, i) = some b → own = false ∧ b.1 = false := fun k b hk hb => by
          have z := hn k
          unfold confB at z
          rw [hb] at z
          have z' : (decide (k ≠ c) && (own || b.1)) = false := z
          rw [decide_eq_true hk] at z'
          simpa using z'
        intro x y j a b ha hb hne
        by_cases e1 : (x, j) = (c, i)
        · have e1' := Prod.mk.inj e1
          have e2 : ¬ (y, j) = (c, i) := fun q => hne (e1'.1.trans (Prod.mk.inj q).1.symm)
          rw [e1, updG_same] at ha
          rw [updG_ne _ _ e2] at hb
          cases ha
          rw [e1'.2] at hb
          exact one y b (fun q => hne (e1'.1.trans q.symm)) hb
        · by_cases e2 : (y, j) = (c, i)
          · have e2' := Prod.mk.inj e2
            rw [e2, updG_same] at hb
            rw [updG_ne _ _ e1] at ha
            cases hb
            rw [e2'.2] at ha
            exact (one x a (fun q => hne (q.trans e2'.1.symm)) ha).symm
          · rw [updG_ne _ _ e1] at ha
            rw [updG_ne _ _ e2] at hb
            exact h x y j a b ha hb hne
    · exact h
  · exact h
theorem Tog.give {g : GrF} (h : Tog g) (p : Int × Int) : Tog (updG g p none) := fun x y j a b ha hb hne => by
  by_cases e1 : (x, j) = p
  · rw [e1, updG_same] at ha; cases ha
  · by_cases e2 : (y, j) = p
    · rw [e2, updG_same] at hb; cases hb
    · rw [updG_ne _ _ e1] at ha
      rw [updG_ne _ _ e2] at hb
      exact h x y j a b ha hb hne
theorem Tog.drop {g : GrF} (h : Tog g) (c : Int) : Tog (dropG c g) := fun x y j a b ha hb hne => by
  unfold dropG at ha hb
  split at ha
  · cases ha
  · split at hb
    · cases hb
    · exact h x y j a b ha hb hne
end Go.Proofs.Ytpalgffmdinfpaa
end
section
namespace Go.Proofs.Ytpalgffmdinfpaa
open Go.RowKit
set_option linter.unusedSimpArgs false
set_option linter.unusedVariables false
set_option maxRecDepth 100000

def d0 (d : DeedV) : DeedV := ⟨d.k, 0, d.c, d.i, d.own⟩
theorem d0_wf {d : DeedV} (h : d.wf) : (d0 d).wf := ⟨h.1, by show (Lit.int .i64 0).wf = true; decide, h.2.2.1, h.2.2.2⟩
def dropsG (cl : Int) (g : GrF) : Nat → GrF
  | 0 => g
  | k + 1 => if ((k + 1 : Nat) : Int) = cl then dropsG cl g k else dropG ((k + 1 : Nat) : Int) (dropsG cl g k)
def dropsW (cl : Int) (wt : WtF) : Nat → WtF
  | 0 => wt
  | k + 1 => if ((k + 1 : Nat) : Int) = cl then dropsW cl wt k else dropW ((k + 1 : Nat) : Int) (dropsW cl wt k)
theorem dropsG_yes {cl : Int} {g : GrF} {k : Nat} (h : ((k + 1 : Nat) : Int) = cl) : dropsG cl g (k + 1) = dropsG cl g k := if_pos h
theorem dropsG_no {cl : Int} {g : GrF} {k : Nat} (h : ¬ ((k + 1 : Nat) : Int) = cl) : dropsG cl g (k + 1) = dropG ((k + 1 : Nat) : Int) (dropsG cl g k) := if_neg h
theorem dropsW_yes {cl : Int} {g : WtF} {k : Nat} (h : ((k + 1 : Nat) : Int) = cl) : dropsW cl g (k + 1) = dropsW cl g k := if_pos h
theorem dropsW_no {cl : Int} {g : WtF} {k : Nat} (h : ¬ ((k + 1 : Nat) : Int) = cl) : dropsW cl g (k + 1) = dropW ((k + 1 : Nat) : Int) (dropsW cl g k) := if_neg h
theorem dropsG_ok {cl : Int} {g : GrF} (h : GrOk g) : ∀ k, GrOk (dropsG cl g k)
  | 0 => h
  | k + 1 => by
    unfold dropsG
    split
    · exact dropsG_ok h k
    · exact (dropsG_ok h k).drop _
theorem dropsG_some {cl : Int} {g : GrF} : ∀ (n : Nat) (c i : Int), ((dropsG cl g n) (c, i)).isSome = true → (g (c, i)).isSome = true ∧ (c = cl ∨ ¬ (1 ≤ c ∧ c ≤ (n : Int)))
  | 0, c, i, h => ⟨h, .inr (by omega)⟩
  | n + 1, c, i, h => by
    unfold dropsG at h
    split at h
    · obtain ⟨h1, h2⟩ := dropsG_some n c i h
      exact ⟨h1, by omega⟩
    · rename_i hne
      unfold dropG at h
      split at h
      · cases h
      · rename_i h3
        have h3' : ¬ c = ((n + 1 : Nat) : Int) := h3
        obtain ⟨h1, h2⟩ := dropsG_some n c i h
        exact ⟨h1, by omega⟩
theorem dropsG_none {cl : Int} {g : GrF} (hok : GrOk g) {k : Nat} (hk8 : k = 8) {c i : Int} (hc : c ≠ cl) : (dropsG cl g k) (c, i) = none := by
  subst hk8
  cases hb : (dropsG cl g 8) (c, i) with
  | none => rfl
  | some a =>
    obtain ⟨h1, h2⟩ := dropsG_some (cl := cl) (g := g) 8 c i (by rw [hb]; rfl)
    have := hok.at_ h1
    omega
theorem dropsW_some {cl t : Int} {wt : WtF} {i : Int} (h : wt i = some (cl, t)) : ∀ k, (dropsW cl wt k) i = some (cl, t)
  | 0 => h
  | k + 1 => by
    have ih := dropsW_some h k
    unfold dropsW
    split
    · exact ih
    · rename_i hne
      unfold dropW
      rw [ih]
      exact if_neg (fun e => hne e.symm)
theorem ask_zero {g : GrF} {wt : WtF} {now c i : Int} {own : Bool} (hc : 1 ≤ c ∧ c ≤ 8) (hi : 1 ≤ i ∧ i ≤ 32) (hn : 0 ≤ now ∧ now ≤ 64) (he : askE g wt now c i own = 0) : (askLst g now c i own).length = 0 := by
  have hb : askOkB now c i = true := askOkB_iff.2 ⟨⟨hn.1, by omega⟩, hc, hi⟩
  unfold askE at he
  unfold askLst
  rw [if_pos hb] at he ⊢
  split at he
  · assumption
  · cases he
theorem ask_again {g : GrF} {wt : WtF} {G : List Gr3} {W L : List Int} {c i : Int} {own : Bool} (hR : RelL g wt G W L) (hc : 1 ≤ c ∧ c ≤ 8) (hi : 1 ≤ i ∧ i ≤ 32) (hw : W.getD i.toNat 0 = 0 ∨ W.getD i.toNat 0 = c) (he : ¬ askE g wt 0 c i own = 0) :
    askE g wt 0 c i own = 32 ∧ 0 < (askLst g 0 c i own).length ∧ askW g wt 0 c i own i = some (c, 64) := by
  have hb : askOkB 0 c i = true := askOkB_iff.2 ⟨by omega, hc, hi⟩
  have hO : askO wt 0 c i = false := by
    unfold askO
    have hr := hR.w i hi.1 hi.2
    cases hq : wt i with
    | none => rfl
    | some a =>
      rw [hq] at hr
      have hr' : W.getD i.toNat 0 = a.1 ∧ L.getD i.toNat 0 = a.2 ∧ 1 ≤ a.1 := hr
      show (decide (a.1 ≠ c) && decide ((0 : Int) < a.2)) = false
      rw [decide_eq_false (show ¬ a.1 ≠ c by omega)]; rfl
  unfold askE at he ⊢
  unfold askLst askW
  rw [if_pos hb] at he ⊢
  rw [if_pos hb, if_pos hb]
  by_cases hl : (agL g c i own).length = 0
  · rw [if_pos hl, if_neg (by rw [hO]; exact Bool.false_ne_true)] at he; exact absurd rfl he
  · rw [if_neg hl, if_neg hl, if_neg (by rw [hO]; exact Bool.false_ne_true)]
    exact ⟨rfl, by omega, by rw [updG_same]; rfl⟩
theorem askOther_s {w : World} {tg gm wm n m : Nat} {g : GrF} {wt : WtF} {R : List Ch} {cl t i0 : Int} (hS : Sep w (tab3 tg gm wm n m g wt ++ R)) (hgok : GrOk g) (hn : n < 1000000) (hm : m < 1000000) {now c i : Int} (own : Bool) (hw : wt i0 = some (cl, t)) (hi : i = i0) (hc : c ≠ cl) (hnow : now < t) :
    CallsR Try.prog 17 #[.pointer (some ⟨tg, 0, none⟩), .int .i64 now, .int .i64 c, .int .i64 i, .bool own] w fun v w' => ∃ la lc n' m' e, v = .tuple #[.slice la (askLst g now c i own).length lc, .int .i64 e] ∧ Sep w' (tab3 tg gm wm n' m' g wt ++ R) ∧ e ≠ 0 ∧ n' ≤ n + 1 ∧ m' ≤ m + 1 := by
  subst hi
  refine (askT_s hS hgok hn hm now c i own).mono fun v w' ⟨la, lc, n', m', e1, h, h1, h2⟩ => ⟨la, lc, n', m', _, e1, ?_, ?_, h1, h2⟩
  · have hO : askO wt now c i = true := by
      unfold askO; rw [hw]
      show (decide (cl ≠ c) && decide (now < t)) = true
      have hc' : ¬ cl = c := fun q => hc q.symm
      simp [hc', hnow]
    have eG : askG g wt now c i own = g := by simp [askG, hO]
    have eW : askW g wt now c i own = wt := by simp [askW, hO]
    rw [eG, eW] at h
    exact Sep.right (A := [_]) h
  · have hO : askO wt now c i = true := by
      unfold askO; rw [hw]
      show (decide (cl ≠ c) && decide (now < t)) = true
      have hc' : ¬ cl = c := fun q => hc q.symm
      simp [hc', hnow]
    unfold askE
    simp only [hO, if_true]
    split
    · split <;> decide
    · decide
theorem askLast_s {w : World} {tg gm wm n m : Nat} {g : GrF} {wt : WtF} {R : List Ch} {t : Int} {now c i : Int} (hS : Sep w (tab3 tg gm wm n m g wt ++ R)) (hgok : GrOk g) (hn : n < 1000000) (hm : m < 1000000) (own : Bool) (hw : wt i = some (c, t)) (hno : ∀ k, k ≠ c → g (k, i) = none) (hc : 1 ≤ c ∧ c ≤ 8) (hi : 1 ≤ i ∧ i ≤ 32) (hnow : 0 ≤ now ∧ now ≤ 64) :
    CallsR Try.prog 17 #[.pointer (some ⟨tg, 0, none⟩), .int .i64 now, .int .i64 c, .int .i64 i, .bool own] w fun v w' => ∃ la lc n' m', v = .tuple #[.slice la (askLst g now c i own).length lc, .int .i64 0] ∧ Sep w' (tab3 tg gm wm n' m' (updG g (c, i) (some (own, now + 64))) (askW g wt now c i own) ++ R) := by
  refine (askT_s hS hgok hn hm now c i own).mono fun v w' ⟨la, lc, n', m', e1, h, h1, h2⟩ => ?_
  have hb : askOkB now c i = true := askOkB_iff.2 ⟨⟨hnow.1, by omega⟩, hc, hi⟩
  have hl : (agL g c i own).length = 0 := by
    rw [List.length_eq_zero_iff, List.eq_nil_iff_forall_not_mem]
    intro k hk
    have hk := (agL_mem hgok).1 hk
    unfold confB at hk
    by_cases e : k = c
    · rw [e] at hk
      cases hq : g (c, i) with
      | none => rw [hq] at hk; cases hk
      | some a => rw [hq] at hk; simp at hk
    · rw [hno k e] at hk; cases hk
  have hO : askO wt now c i = false := by
    unfold askO; rw [hw]
    show (decide (c ≠ c) && decide (now < t)) = false
    simp
  have eE : askE g wt now c i own = 0 := by
    unfold askE; rw [if_pos hb, if_pos hl, if_neg (by rw [hO]; exact Bool.false_ne_true)]
  have eG : askG g wt now c i own = updG g (c, i) (some (own, now + 64)) := by
    unfold askG; rw [if_pos hb, if_pos hl, if_neg (by rw [hO]; exact Bool.false_ne_true)]
  rw [eG] at h
  exact ⟨la, lc, n', m', by rw [e1, eE], Sep.right (A := [_]) h⟩
theorem findOwn_s {w : World} {tg gm wm n m : Nat} {g : GrF} {wt : WtF} {R : List Ch} {c i u : Int} {own : Bool} (hS : Sep w (tab3 tg gm wm n m (updG g (c, i) (some (own, u))) wt ++ R)) (hk : wfK (c, i)) :
    CallsR Try.prog 19 #[.pointer (some ⟨tg, 0, none⟩), .int .i64 c, .int .i64 i] w fun v w' => v = .tuple #[.agg #[.int .i64 c, .int .i64 i, .bool own, .int .i64 u], .bool true] ∧ Sep w' (tab3 tg gm wm n m (updG g (c, i) (some (own, u))) wt ++ R) :=
  (findT_yes hS hk (by rw [updG_same]; rfl)).mono fun v w' ⟨e1, h⟩ => ⟨by rw [e1, updG_same]; rfl, h⟩
theorem tmod_bd (x : Int) : -63 ≤ x.tmod 64 ∧ x.tmod 64 ≤ 63 := by
  have h1 := Int.tmod_lt_of_pos x (show (0 : Int) < 64 by decide)
  have h2 : -64 < x.tmod 64 := by
    have := Int.lt_tmod_of_pos x (show (0 : Int) < 64 by decide)
    omega
  omega

theorem cp_lease_New_lm1 (args : Array Value) (w : World) : (callFunc 8 args).run Try.prog w = .ok (.enter 8 args) w := by
  have h := Try.func8
  go_simp
theorem cp_commonsref19_New_lm1 (args : Array Value) (w : World) : (callFunc 9 args).run Try.prog w = .ok (.enter 9 args) w := by
  have h := Try.func9
  go_simp
theorem fa_commonslaw19_Deed_lm1_1 (g off : Nat) (w : World) : (Instr.fieldAt 29 (.pointer (some ⟨g, off, none⟩)) 1).run Try.prog w = .ok (.pointer (some ⟨g, off + 1, none⟩)) w := rfl
theorem cp_commonslaw19_does_lm1 (args : Array Value) (w : World) : (callFunc 10 args).run Try.prog w = .ok (.enter 10 args) w := by
  have h := Try.func10
  go_simp
theorem cp_commonslaw19_lives_lm1 (args : Array Value) (w : World) : (callFunc 12 args).run Try.prog w = .ok (.enter 12 args) w := by
  have h := Try.func12
  go_simp
theorem fa_commonsref19_Table_lm1_1 (g off : Nat) (w : World) : (Instr.fieldAt 43 (.pointer (some ⟨g, off, none⟩)) 1).run Try.prog w = .ok (.pointer (some ⟨g, off + 1, none⟩)) w := rfl
theorem cp_lease_Table_Ask_lm1 (args : Array Value) (w : World) : (callFunc 17 args).run Try.prog w = .ok (.enter 17 args) w := by
  have h := Try.func17
  go_simp
theorem cp_lease_Table_Drop_lm1 (args : Array Value) (w : World) : (callFunc 18 args).run Try.prog w = .ok (.enter 18 args) w := by
  have h := Try.func18
  go_simp
theorem fa_commonslaw19_Deed_lm1_0 (g off : Nat) (w : World) : (Instr.fieldAt 29 (.pointer (some ⟨g, off, none⟩)) 0).run Try.prog w = .ok (.pointer (some ⟨g, off + 0, none⟩)) w := rfl
theorem fa_commonslaw19_Deed_lm1_2 (g off : Nat) (w : World) : (Instr.fieldAt 29 (.pointer (some ⟨g, off, none⟩)) 2).run Try.prog w = .ok (.pointer (some ⟨g, off + 2, none⟩)) w := rfl
theorem fa_commonslaw19_Deed_lm1_3 (g off : Nat) (w : World) : (Instr.fieldAt 29 (.pointer (some ⟨g, off, none⟩)) 3).run Try.prog w = .ok (.pointer (some ⟨g, off + 3, none⟩)) w := rfl
theorem fa_commonslaw19_Deed_lm1_4 (g off : Nat) (w : World) : (Instr.fieldAt 29 (.pointer (some ⟨g, off, none⟩)) 4).run Try.prog w = .ok (.pointer (some ⟨g, off + 4, none⟩)) w := rfl
theorem cp_lease_Table_Find_lm1 (args : Array Value) (w : World) : (callFunc 19 args).run Try.prog w = .ok (.enter 19 args) w := by
  have h := Try.func19
  go_simp
theorem fa_lease_Held_lm1_2 (g off : Nat) (w : World) : (Instr.fieldAt 36 (.pointer (some ⟨g, off, none⟩)) 2).run Try.prog w = .ok (.pointer (some ⟨g, off + 2, none⟩)) w := rfl

set_option maxHeartbeats 4000000 in
theorem LeaseWaits_walk (W : World) (a0 : Option Addr) (n0 c0 : Nat) (f : Nat → DeedV) (rb : DeedsIn W a0 n0 c0 f) (client : Int) (w1 : (Lit.int .i64 client).wf = true) (inode : Int) (w2 : (Lit.int .i64 inode).wf = true) (own : Bool) (a4 : Option Addr) (n4 c4 : Nat) (f4 : Nat → DeedV) (rb4 : DeedsIn W a4 n4 c4 f4) (later : Int) (w5 : (Lit.int .i64 later).wf = true) :
    Calls Try.prog 6 #[.slice a0 n0 c0, .int .i64 client, .int .i64 inode, .bool own, .slice a4 n4 c4, .int .i64 later] W fun e W' => e = .returned (.bool true) ∧ Below W.heap.size W W' := by
  obtain ⟨hX0, hw⟩ := rb; obtain ⟨bX, oX, hX⟩ := hX0.at; have hS : Sep W [oldC W W.heap.size] := Sep.start W
  suffices hZ : CallsR Try.prog 6 #[.slice a0 n0 c0, .int .i64 client, .int .i64 inode, .bool own, .slice a4 n4 c4, .int .i64 later] W (fun v W' => v = .bool true ∧ Below W.heap.size W W') from Calls.mono hZ fun e W' ⟨v, e1, e2, h⟩ => ⟨by rw [e1, e2], h⟩
  have w1 := i64_bd w1; have w2 := i64_bd w2; have w5 := i64_bd w5; obtain ⟨hY0, hw4⟩ := rb4; obtain ⟨bY, oY, hY⟩ := hY0.at
  refine enterR Try.func6 rfl (N := 202) Try.ntmps6 (by show 6 ≤ 202; decide) [(0, .slice a0 n0 c0), (1, .int .i64 client), (2, .int .i64 inode), (3, .bool own), (4, .slice a4 n4 c4), (5, .int .i64 later)] rfl fun a2 h1 => ?_
  refine wp_seq_k fun K3 hK3 => ?_
  refine wp_region_lit ?_
  refine sv h1 (wanted_none rfl) rfl rfl rfl (v := .bool false) (rassign h1 rfl rfl) fun a5 h4 => ?_
  refine wpList_nil ?_
  refine hK3 _ _ ?_
  refine wp_seq_k fun K6 hK6 => ?_
  refine wp_region_lit ?_
  refine so (wanted_none rfl) fun K13 hK13 => xcall h4 rfl rfl rfl (xs := []) rfl cp_lease_New_lm1 rfl (vs := []) rfl (args := #[]) rfl (newT_s (R := [oldC W W.heap.size]) (hS : Sep _ [oldC W W.heap.size])) fun a8 v9 w10 r11 h7 => hK13 _ _ ?_
  clear hK13 K13
  obtain ⟨tg, gm, wm, rfl, s12⟩ := r11
  refine sv h7 (wanted_none rfl) rfl rfl rfl (v := .pointer (some ⟨tg, 0, none⟩)) (rassign h7 rfl rfl) fun a15 h14 => ?_
  have h16 := h14.subs (l' := [(13, _), (12, _), (0, _), (1, _), (2, _), (3, _), (4, _), (5, _)]) rfl
  clear h14 h1 h4 h7 a2 a5 a8
  refine wpList_nil ?_
  refine hK6 _ _ ?_
  refine wp_seq_k fun K17 hK17 => ?_
  refine wp_region_lit ?_
  refine so (wanted_none rfl) fun K24 hK24 => xcall h16 rfl rfl rfl (xs := []) rfl cp_commonsref19_New_lm1 rfl (vs := []) rfl (args := #[]) rfl (newR_b (R := [oldC W W.heap.size]) (s12 : Sep _ [blkC tg 54 [.map (some gm), .map (some wm)], mapC KG gm 0 (fun _ => none), mapC KW wm 0 (fun _ => none), oldC W W.heap.size])) fun a19 v20 w21 r22 h18 => hK24 _ _ ?_
  clear hK24 K24
  obtain ⟨rg, gb, wb, lb, rfl, s23⟩ := r22
  refine sv h18 (wanted_none rfl) rfl rfl rfl (v := .pointer (some ⟨rg, 0, none⟩)) (rassign h18 rfl rfl) fun a26 h25 => ?_
  have h27 := h25.subs (l' := [(14, _), (13, _), (12, _), (0, _), (1, _), (2, _), (3, _), (4, _), (5, _)]) rfl
  clear h25 h16 h18 a15 a19
  refine wpList_nil ?_
  refine hK17 _ _ ?_
  refine wp_seq_k fun K28 hK28 => ?_
  refine wp_seq_k fun K29 hK29 => ?_
  refine wp_region_lit ?_
  refine sv h27 (wanted_none rfl) rfl rfl rfl (v := .pointer (some ⟨tg, 0, none⟩)) (rmove h27 rfl rfl) fun a31 h30 => ?_
  refine sv h30 (wanted_none rfl) rfl rfl rfl (v := .bool false) (rbin h30 rfl rfl rfl (bNil _ Try.underlying23 _ _ _)) fun a33 h32 => ?_
  have h34 := h32.subs (l' := [(31, _), (14, _), (13, _), (12, _), (0, _), (1, _), (2, _), (3, _), (4, _), (5, _)]) rfl
  clear h32 h27 h30 a26 a31
  refine wpList_nil ?_
  refine hK29 _ _ ?_
  refine wp_condS h34 rfl rfl ?_
  simp only [Bool.false_eq_true, if_false]
  have h35 := h34.subs (l' := [(14, _), (13, _), (12, _), (0, _), (1, _), (2, _), (3, _), (4, _), (5, _)]) rfl
  clear h34
  refine wp_skip ?_
  refine hK28 _ _ ?_
  refine wp_seq_k fun K36 hK36 => ?_
  refine wp_seq_k fun K37 hK37 => ?_
  refine wp_region_lit ?_
  refine sv h35 (wanted_none rfl) rfl rfl rfl (v := .int .i64 0) (rassign h35 rfl rfl) fun a39 h38 => ?_
  refine wpList_nil ?_
  refine hK37 _ _ ?_
  refine wp_block ?_
  refine wp_loop1 (fun (k : Nat) a' w' => Kn 202 [(15, .int .i64 (k : Int)), (14, .pointer (some ⟨rg, 0, none⟩)), (13, .pointer (some ⟨tg, 0, none⟩)), (12, .bool false), (0, .slice a0 n0 c0), (1, .int .i64 client), (2, .int .i64 inode), (3, .bool own), (4, .slice a4 n4 c4), (5, .int .i64 later)] a' ∧ Sep w' [bothC tg gm wm rg gb wb lb k ((runT (fun i => d0 (f i)) k).1) ((runT (fun i => d0 (f i)) k).2), oldC W W.heap.size] ∧ (k ≤ 20)) (fun (k : Nat) => 20 - k) 0 ⟨h38.subs rfl, s23, by omega⟩ ?_
  clear h38 s23
  rintro k46 a40 w41 ⟨h42, s43, hk45⟩ K44 hK44
  refine wp_seq_k fun K47 hK47 => ?_
  refine wp_seq_k fun K48 hK48 => ?_
  refine wp_region_lit ?_
  refine sv h42 (wanted_none rfl) rfl rfl rfl (v := .int .i64 (k46 : Int)) (rmove h42 rfl rfl) fun a50 h49 => ?_
  refine sv h49 (wanted_none rfl) rfl rfl rfl (v := .slice a0 n0 c0) (rmove h49 rfl rfl) fun a52 h51 => ?_
  refine sv h51 (wanted_none rfl) rfl rfl rfl (v := .int .i64 (n0 : Int)) (rlenS h51 rfl rfl Try.underlying22) fun a54 h53 => ?_
  refine sv h53 (wanted_none rfl) rfl rfl rfl (v := .bool (decide ((k46 : Int) < (n0 : Int)))) (rbin h53 rfl rfl rfl (cLt _ _ _ _ rfl)) fun a56 h55 => ?_
  refine sv h55 (wanted_none rfl) rfl rfl rfl (v := .bool (decide ((k46 : Int) < (n0 : Int)))) (rmove h55 rfl rfl) fun a58 h57 => ?_
  refine sg h57 (wT h57 rfl rfl rfl) rfl rfl rfl (v := .int .i64 (k46 : Int)) (fun hC59 => by have hq := (of_decide_eq_true hC59); exact (rmove h57 rfl rfl) _) fun a61 h60 => ?_
  refine sg h60 (wT h60 rfl rfl rfl) rfl rfl rfl (v := .bool (decide ((k46 : Int) < 20))) (fun hC62 => by have hq := (of_decide_eq_true hC62); exact (rbin h60 rfl (opg rfl hC62) rfl (cLt _ _ _ _ rfl)) _) fun a64 h63 => ?_
  refine sv h63 (wanted_none rfl) rfl rfl rfl (v := .bool ((decide ((k46 : Int) < (n0 : Int))) && (decide ((k46 : Int) < 20)))) (rpickA h63 rfl (E := (decide ((k46 : Int) < (n0 : Int)))) (F := (decide ((k46 : Int) < 20))) rfl rfl rfl (fun e => if_pos (by rw [e]; try rfl))) fun a66 h65 => ?_
  have h67 := h65.subs (l' := [(39, _), (15, _), (14, _), (13, _), (12, _), (0, _), (1, _), (2, _), (3, _), (4, _), (5, _)]) rfl
  clear h65 h42 h49 h51 h53 h55 h57 h60 h63 a40 a50 a52 a54 a56 a58 a61 a64
  refine wpList_nil ?_
  refine hK48 _ _ ?_
  rcases Bool.eq_false_or_eq_true ((decide ((k46 : Int) < (n0 : Int))) && (decide ((k46 : Int) < 20))) with hc68 | hc68
  · skip
    have hp69 : ((k46 : Int) < (n0 : Int)) ∧ ((k46 : Int) < 20) := (And.intro (of_decide_eq_true (andT hc68).1) (of_decide_eq_true (andT hc68).2))
    refine wp_condS h67 rfl hc68 ?_
    simp only [if_true]
    have h70 := h67.subs (l' := [(15, _), (14, _), (13, _), (12, _), (0, _), (1, _), (2, _), (3, _), (4, _), (5, _)]) rfl
    clear h67
    refine wp_skip ?_
    refine hK47 _ _ ?_
    refine wp_seq_k fun K71 hK71 => ?_
    refine wp_block ?_
    refine wp_seq_k fun K72 hK72 => ?_
    refine wp_region_lit ?_
    refine sv h70 (wanted_none rfl) rfl rfl rfl (v := .slice a0 n0 c0) (rmove h70 rfl rfl) fun a74 h73 => ?_
    refine sv h73 (wanted_none rfl) rfl rfl rfl (v := .int .i64 (k46 : Int)) (rmove h73 rfl rfl) fun a76 h75 => ?_
    refine sv h75 (wanted_none rfl) rfl rfl rfl (v := .pointer (some ⟨bX, oX + k46 * 5, none⟩)) (rindexA h75 rfl rfl rfl (fun w => ixO Try.underlying22 (by kernel_rfl) (sz := 5) (hX (by omega)).1 (j := k46) rfl (by omega) rfl w)) fun a78 h77 => ?_
    refine sw h77 (wanted_none rfl) rfl rfl rfl (v := .agg #[.int .i64 ((f k46).k), .int .i64 ((f k46).now), .int .i64 ((f k46).c), .int .i64 ((f k46).i), .bool ((f k46).own)]) (rld h77 rfl rfl (ldX (sz := 5) (n := n0) (f := (fun i => deedC (f i))) Try.underlying29 rfl (by kernel_rfl) (fun _ => rfl) (hX (by omega)).2 (Nat.le_refl _) (s43.get 1 rfl : Below _ _ _ ∧ _) (j := k46) (by omega) rfl)) fun a80 h79 => ?_
    refine so (wanted_none rfl) fun K88 hK88 => xalloc h79 rfl rfl rfl rfl (z := [.int .i64 0, .int .i64 0, .int .i64 0, .int .i64 0, .bool false]) (fun _ => rfl) s43 fun a83 g81 w84 h82 s85 b86 e87 => hK88 _ _ ?_
    clear hK88 K88
    clear b86 e87
    refine so (wanted_none rfl) fun K94 hK94 => xstore h82 rfl rfl s85 0 rfl rfl rfl [.int .i64 ((f k46).k), .int .i64 ((f k46).now), .int .i64 ((f k46).c), .int .i64 ((f k46).i), .bool ((f k46).own)] rfl (by kernel_rfl) rfl (by show 0 + 5 ≤ 5; decide) (L' := [.int .i64 ((f k46).k), .int .i64 ((f k46).now), .int .i64 ((f k46).c), .int .i64 ((f k46).i), .bool ((f k46).own)]) rfl (cs' := [blkC g81 29 [.int .i64 ((f k46).k), .int .i64 ((f k46).now), .int .i64 ((f k46).c), .int .i64 ((f k46).i), .bool ((f k46).own)], bothC tg gm wm rg gb wb lb k46 ((runT (fun i => d0 (f i)) k46).1) ((runT (fun i => d0 (f i)) k46).2), oldC W W.heap.size]) rfl fun a90 w91 h89 s92 t93 => hK94 _ _ ?_
    clear hK94 K94
    clear t93
    have h95 := h89.subs (l' := [(16, _), (15, _), (14, _), (13, _), (12, _), (0, _), (1, _), (2, _), (3, _), (4, _), (5, _)]) rfl
    clear h89 h70 h73 h75 h77 h79 h82 a66 a74 a76 a78 a80 a83
    refine wpList_nil ?_
    refine hK72 _ _ ?_
    refine wp_seq_k fun K96 hK96 => ?_
    refine wp_region_lit ?_
    refine sv h95 (wanted_none rfl) rfl rfl rfl (v := .pointer (some ⟨g81, 1, none⟩)) (rfa h95 rfl rfl (fun w => fa_commonslaw19_Deed_lm1_1 g81 0 w)) fun a98 h97 => ?_
    refine so (wanted_none rfl) fun K104 hK104 => xstore h97 rfl rfl s92 0 rfl rfl rfl [.int .i64 0] rfl (by kernel_rfl) rfl (by show 1 + 1 ≤ 5; decide) (L' := [.int .i64 ((f k46).k), .int .i64 0, .int .i64 ((f k46).c), .int .i64 ((f k46).i), .bool ((f k46).own)]) rfl (cs' := [blkC g81 29 [.int .i64 ((f k46).k), .int .i64 0, .int .i64 ((f k46).c), .int .i64 ((f k46).i), .bool ((f k46).own)], bothC tg gm wm rg gb wb lb k46 ((runT (fun i => d0 (f i)) k46).1) ((runT (fun i => d0 (f i)) k46).2), oldC W W.heap.size]) rfl fun a100 w101 h99 s102 t103 => hK104 _ _ ?_
    clear hK104 K104
    clear t103
    have h105 := h99.subs (l' := [(16, _), (15, _), (14, _), (13, _), (12, _), (0, _), (1, _), (2, _), (3, _), (4, _), (5, _)]) rfl
    clear h99 h95 h97 a90 a98
    refine wpList_nil ?_
    refine hK96 _ _ ?_
    refine wp_region_lit ?_
    refine sv h105 (wanted_none rfl) rfl rfl rfl (v := .pointer (some ⟨tg, 0, none⟩)) (rmove h105 rfl rfl) fun a107 h106 => ?_
    refine sv h106 (wanted_none rfl) rfl rfl rfl (v := .pointer (some ⟨rg, 0, none⟩)) (rmove h106 rfl rfl) fun a109 h108 => ?_
    refine sw h108 (wanted_none rfl) rfl rfl rfl (v := .agg #[.int .i64 ((f k46).k), .int .i64 0, .int .i64 ((f k46).c), .int .i64 ((f k46).i), .bool ((f k46).own)]) (rld h108 rfl rfl (ldA Try.underlying29 rfl (n := 5) (by kernel_rfl) (s102.get 0 rfl : Blk _ _ _ _) rfl rfl)) fun a111 h110 => ?_
    refine so (wanted_none rfl) fun K118 hK118 => xcall h110 rfl rfl rfl (xs := [.tmp 47, .tmp 48, .tmp 49]) rfl cp_commonslaw19_does_lm1 rfl (vs := [.pointer (some ⟨tg, 0, none⟩), .pointer (some ⟨rg, 0, none⟩), .agg #[.int .i64 ((f k46).k), .int .i64 0, .int .i64 ((f k46).c), .int .i64 ((f k46).i), .bool ((f k46).own)]]) rfl (args := #[.pointer (some ⟨tg, 0, none⟩), .pointer (some ⟨rg, 0, none⟩), .agg #[.int .i64 ((f k46).k), .int .i64 0, .int .i64 ((f k46).c), .int .i64 ((f k46).i), .bool ((f k46).own)]]) rfl (does_s (R := [blkC g81 29 [.int .i64 ((f k46).k), .int .i64 0, .int .i64 ((f k46).c), .int .i64 ((f k46).i), .bool ((f k46).own)], oldC W W.heap.size]) ((s102.pick [1, 0, 2] (by decide) rfl) : Sep _ [bothC tg gm wm rg gb wb lb k46 ((runT (fun i => d0 (f i)) k46).1) ((runT (fun i => d0 (f i)) k46).2), blkC g81 29 [.int .i64 ((f k46).k), .int .i64 0, .int .i64 ((f k46).c), .int .i64 ((f k46).i), .bool ((f k46).own)], oldC W W.heap.size]) (by omega) (d0 (f k46)) (d0_wf (hw _ (by omega)))) fun a113 v114 w115 r116 h112 => hK118 _ _ ?_
    clear hK118 K118
    obtain ⟨rfl, s117⟩ := r116
    have h119 := h112.subs (l' := [(16, _), (15, _), (14, _), (13, _), (12, _), (0, _), (1, _), (2, _), (3, _), (4, _), (5, _)]) rfl
    clear h112 h105 h106 h108 h110 a100 a107 a109 a111
    refine wpList_nil ?_
    refine hK71 _ _ ?_
    refine wp_region_lit ?_
    refine sv h119 (wanted_none rfl) rfl rfl rfl (v := .int .i64 (k46 : Int)) (rmove h119 rfl rfl) fun a121 h120 => ?_
    refine sv h120 (wanted_none rfl) rfl rfl rfl (v := .int .i64 ((k46 + 1 : Nat) : Int)) (rbin h120 rfl rfl rfl (bAdd _ _ _ (by omega) (by omega) (by omega))) fun a123 h122 => ?_
    have h124 := h122.subs (l' := [(41, _), (40, _), (16, _), (14, _), (13, _), (12, _), (0, _), (1, _), (2, _), (3, _), (4, _), (5, _)]) rfl
    clear h122 h119 h120 a113 a121
    refine sv h124 (wanted_none rfl) rfl rfl rfl (v := .int .i64 ((k46 + 1 : Nat) : Int)) (rassign h124 rfl rfl) fun a126 h125 => ?_
    have h127 := h125.subs (l' := [(15, _), (16, _), (14, _), (13, _), (12, _), (0, _), (1, _), (2, _), (3, _), (4, _), (5, _)]) rfl
    clear h125 h124 a123
    refine wpList_nil ?_
    exact hK44 (k46 + 1) _ _ ⟨h127.subs rfl, (s117.pick [0, 2] (by decide) rfl), by omega⟩ (by omega)
  · skip
    have hp128 : (¬ ((k46 : Int) < (n0 : Int))) ∨ (¬ ((k46 : Int) < 20)) := ((andF hc68).imp (fun q => (of_decide_eq_false q)) (fun q => (of_decide_eq_false q)))
    refine wp_condS h67 rfl hc68 ?_
    simp only [Bool.false_eq_true, if_false]
    have h129 := h67.subs (l' := [(15, _), (14, _), (13, _), (12, _), (0, _), (1, _), (2, _), (3, _), (4, _), (5, _)]) rfl
    clear h67
    refine wp_exit ?_
    refine hK36 _ _ ?_
    refine wp_seq_k fun K130 hK130 => ?_
    refine wp_seq_k fun K131 hK131 => ?_
    refine wp_region_lit ?_
    refine sv h129 (wanted_none rfl) rfl rfl rfl (v := .int .i64 client) (rmove h129 rfl rfl) fun a133 h132 => ?_
    refine sv h132 (wanted_none rfl) rfl rfl rfl (v := .bool (decide (client < 1))) (rbin h132 rfl rfl rfl (cLt _ _ _ _ rfl)) fun a135 h134 => ?_
    refine sv h134 (wanted_none rfl) rfl rfl rfl (v := .bool (decide (client < 1))) (rmove h134 rfl rfl) fun a137 h136 => ?_
    refine sg h136 (wF h136 rfl rfl rfl) rfl rfl rfl (v := .int .i64 client) (fun hC138 => by have hq := (of_decide_eq_false (notT hC138)); exact (rmove h136 rfl rfl) _) fun a140 h139 => ?_
    refine sg h139 (wF h139 rfl rfl rfl) rfl rfl rfl (v := .bool (decide (client > 8))) (fun hC141 => by have hq := (of_decide_eq_false (notT hC141)); exact (rbin h139 rfl (opg rfl hC141) rfl (cGt _ _ _ _ rfl)) _) fun a143 h142 => ?_
    refine sv h142 (wanted_none rfl) rfl rfl rfl (v := .bool ((decide (client < 1)) || (decide (client > 8)))) (rpickO h142 rfl (E := (decide (client < 1))) (F := (decide (client > 8))) rfl rfl rfl (fun e => if_pos (by rw [e]; try rfl))) fun a145 h144 => ?_
    refine sv h144 (wanted_none rfl) rfl rfl rfl (v := .bool ((decide (client < 1)) || (decide (client > 8)))) (rmove h144 rfl rfl) fun a147 h146 => ?_
    refine sg h146 (wF h146 rfl rfl rfl) rfl rfl rfl (v := .int .i64 inode) (fun hC148 => by have hq := (And.intro (of_decide_eq_false (orF (notT hC148)).1) (of_decide_eq_false (orF (notT hC148)).2)); exact (rmove h146 rfl rfl) _) fun a150 h149 => ?_
    refine sg h149 (wF h149 rfl rfl rfl) rfl rfl rfl (v := .bool (decide (inode < 1))) (fun hC151 => by have hq := (And.intro (of_decide_eq_false (orF (notT hC151)).1) (of_decide_eq_false (orF (notT hC151)).2)); exact (rbin h149 rfl (opg rfl hC151) rfl (cLt _ _ _ _ rfl)) _) fun a153 h152 => ?_
    refine sv h152 (wanted_none rfl) rfl rfl rfl (v := .bool (((decide (client < 1)) || (decide (client > 8))) || (decide (inode < 1)))) (rpickO h152 rfl (E := ((decide (client < 1)) || (decide (client > 8)))) (F := (decide (inode < 1))) rfl rfl rfl (fun e => if_pos (by rw [e]; try rfl))) fun a155 h154 => ?_
    refine sv h154 (wanted_none rfl) rfl rfl rfl (v := .bool (((decide (client < 1)) || (decide (client > 8))) || (decide (inode < 1)))) (rmove h154 rfl rfl) fun a157 h156 => ?_
    refine sg h156 (wF h156 rfl rfl rfl) rfl rfl rfl (v := .int .i64 inode) (fun hC158 => by have hq := (And.intro (And.intro (of_decide_eq_false (orF (orF (notT hC158)).1).1) (of_decide_eq_false (orF (orF (notT hC158)).1).2)) (of_decide_eq_false (orF (notT hC158)).2)); exact (rmove h156 rfl rfl) _) fun a160 h159 => ?_
    refine sg h159 (wF h159 rfl rfl rfl) rfl rfl rfl (v := .bool (decide (inode > 32))) (fun hC161 => by have hq := (And.intro (And.intro (of_decide_eq_false (orF (orF (notT hC161)).1).1) (of_decide_eq_false (orF (orF (notT hC161)).1).2)) (of_decide_eq_false (orF (notT hC161)).2)); exact (rbin h159 rfl (opg rfl hC161) rfl (cGt _ _ _ _ rfl)) _) fun a163 h162 => ?_
    refine sv h162 (wanted_none rfl) rfl rfl rfl (v := .bool ((((decide (client < 1)) || (decide (client > 8))) || (decide (inode < 1))) || (decide (inode > 32)))) (rpickO h162 rfl (E := (((decide (client < 1)) || (decide (client > 8))) || (decide (inode < 1)))) (F := (decide (inode > 32))) rfl rfl rfl (fun e => if_pos (by rw [e]; try rfl))) fun a165 h164 => ?_
    have h166 := h164.subs (l' := [(64, _), (15, _), (14, _), (13, _), (12, _), (0, _), (1, _), (2, _), (3, _), (4, _), (5, _)]) rfl
    clear h164 h129 h132 h134 h136 h139 h142 h144 h146 h149 h152 h154 h156 h159 h162 a66 a133 a135 a137 a140 a143 a145 a147 a150 a153 a155 a157 a160 a163
    refine wpList_nil ?_
    refine hK131 _ _ ?_
    rcases Bool.eq_false_or_eq_true ((((decide (client < 1)) || (decide (client > 8))) || (decide (inode < 1))) || (decide (inode > 32))) with hc167 | hc167
    · skip
      have hp168 : (((client < 1) ∨ (client > 8)) ∨ (inode < 1)) ∨ (inode > 32) := ((orT hc167).imp (fun q => ((orT q).imp (fun q => ((orT q).imp (fun q => (of_decide_eq_true q)) (fun q => (of_decide_eq_true q)))) (fun q => (of_decide_eq_true q)))) (fun q => (of_decide_eq_true q)))
      refine wp_condS h166 rfl hc167 ?_
      simp only [if_true]
      have h169 := h166.subs (l' := [(15, _), (14, _), (13, _), (12, _), (0, _), (1, _), (2, _), (3, _), (4, _), (5, _)]) rfl
      clear h166
      refine wp_seq_k fun K170 hK170 => ?_
      refine wp_region_lit ?_
      refine so (wanted_none rfl) fun K177 hK177 => xcall h169 rfl rfl rfl (xs := []) rfl cp_commonslaw19_lives_lm1 rfl (vs := []) rfl (args := #[]) rfl (lives_s (R := [bothC tg gm wm rg gb wb lb k46 ((runT (fun i => d0 (f i)) k46).1) ((runT (fun i => d0 (f i)) k46).2), oldC W W.heap.size]) (s43 : Sep _ [bothC tg gm wm rg gb wb lb k46 ((runT (fun i => d0 (f i)) k46).1) ((runT (fun i => d0 (f i)) k46).2), oldC W W.heap.size])) fun a172 v173 w174 r175 h171 => hK177 _ _ ?_
      clear hK177 K177
      obtain ⟨rfl, s176⟩ := r175
      have h178 := h171.subs (l' := [(65, _), (15, _), (14, _), (13, _), (0, _), (1, _), (2, _), (3, _), (4, _), (5, _)]) rfl
      clear h171 h169 a165
      refine sv h178 (wanted_none rfl) rfl rfl rfl (v := .bool true) (rassign h178 rfl rfl) fun a180 h179 => ?_
      have h181 := h179.subs (l' := [(12, _), (15, _), (14, _), (13, _), (0, _), (1, _), (2, _), (3, _), (4, _), (5, _)]) rfl
      clear h179 h178 a172
      refine wpList_nil ?_
      refine hK170 _ _ ?_
      refine wp_ret ?_
      try simp only [Exit.then, Exit.inBlock]
      refine retR (v := .bool true) (res1 h181 rfl rfl) h181.defs ?_
      exact ⟨rfl, (s176.get 1 rfl : Below _ _ _ ∧ _).1⟩
    · skip
      have hp182 : (((¬ (client < 1)) ∧ (¬ (client > 8))) ∧ (¬ (inode < 1))) ∧ (¬ (inode > 32)) := (And.intro (And.intro (And.intro (of_decide_eq_false (orF (orF (orF hc167).1).1).1) (of_decide_eq_false (orF (orF (orF hc167).1).1).2)) (of_decide_eq_false (orF (orF hc167).1).2)) (of_decide_eq_false (orF hc167).2))
      refine wp_condS h166 rfl hc167 ?_
      simp only [Bool.false_eq_true, if_false]
      have h183 := h166.subs (l' := [(15, _), (14, _), (13, _), (12, _), (0, _), (1, _), (2, _), (3, _), (4, _), (5, _)]) rfl
      clear h166
      refine wp_skip ?_
      refine hK130 _ _ ?_
      refine wp_seq_k fun K184 hK184 => ?_
      refine wp_seq_k fun K185 hK185 => ?_
      obtain ⟨n186, m187, G188, W189, L190, hn191, hm192, s193x, hR194, hok195, hwo196⟩ := both_open (s43 : Sep _ [bothC tg gm wm rg gb wb lb k46 ((runT (fun i => d0 (f i)) k46).1) ((runT (fun i => d0 (f i)) k46).2), oldC W W.heap.size])
      have s193 : Sep w41 [blkC tg 54 [.map (some gm), .map (some wm)], mapC KG gm n186 ((runT (fun i => d0 (f i)) k46).1), mapC KW wm m187 ((runT (fun i => d0 (f i)) k46).2), blkC rg 43 [.slice (some ⟨gb, 0, none⟩) 297 297, .slice (some ⟨wb, 0, none⟩) 33 33, .slice (some ⟨lb, 0, none⟩) 33 33], blkC gb 58 (G188.flatMap g3C), blkC wb 3 (W189.map iV), blkC lb 3 (L190.map iV), oldC W W.heap.size] := s193x; clear s193x; obtain ⟨hG197, hW198, hL199⟩ := hR194.n
      refine wp_region_lit ?_
      refine sv h183 (wanted_none rfl) rfl rfl rfl (v := .pointer (some ⟨rg, 0, none⟩)) (rmove h183 rfl rfl) fun a201 h200 => ?_
      refine sv h200 (wanted_none rfl) rfl rfl rfl (v := .pointer (some ⟨rg, 0, none⟩)) (rnil h200 rfl rfl) fun a203 h202 => ?_
      refine sv h202 (wanted_none rfl) rfl rfl rfl (v := .pointer (some ⟨rg, 1, none⟩)) (rfa h202 rfl rfl (fun w => fa_commonsref19_Table_lm1_1 rg 0 w)) fun a205 h204 => ?_
      refine sw h204 (wanted_none rfl) rfl rfl rfl (v := .slice (some ⟨wb, 0, none⟩) 33 33) (rld h204 rfl rfl (ldB Try.underlying38 rfl (s193.get 3 rfl : Blk _ _ _ _) rfl)) fun a207 h206 => ?_
      refine sv h206 (wanted_none rfl) rfl rfl rfl (v := .int .i64 inode) (rmove h206 rfl rfl) fun a209 h208 => ?_
      refine sv h208 (wanted_none rfl) rfl rfl rfl (v := .pointer (some ⟨wb, (inode).toNat, none⟩)) (rindexA h208 rfl rfl rfl (fun w => ixS Try.underlying38 (by kernel_rfl) (sz := 1) (j := (inode).toNat) (by omega) (by omega) (Nat.mul_one _) w)) fun a211 h210 => ?_
      refine sw h210 (wanted_none rfl) rfl rfl rfl (v := .int .i64 (W189.getD ((inode).toNat) 0)) (rld h210 rfl rfl (ldB Try.underlying3 rfl (s193.get 5 rfl : Blk _ _ _ _) (li_get (by omega)))) fun a213 h212 => ?_
      refine sv h212 (wanted_none rfl) rfl rfl rfl (v := .bool (decide (W189.getD ((inode).toNat) 0 ≠ 0))) (rbin h212 rfl rfl rfl (cNe _ _ _ _ rfl)) fun a215 h214 => ?_
      refine sv h214 (wanted_none rfl) rfl rfl rfl (v := .bool (decide (W189.getD ((inode).toNat) 0 ≠ 0))) (rmove h214 rfl rfl) fun a217 h216 => ?_
      refine sg h216 (wT h216 rfl rfl rfl) rfl rfl rfl (v := .pointer (some ⟨rg, 0, none⟩)) (fun hC218 => by have hq := (of_decide_eq_true hC218); exact (rmove h216 rfl rfl) _) fun a220 h219 => ?_
      refine sg h219 (wT h219 rfl rfl rfl) rfl rfl rfl (v := .pointer (some ⟨rg, 0, none⟩)) (fun hC221 => by have hq := (of_decide_eq_true hC221); exact (rnil h219 rfl (opg rfl hC221)) _) fun a223 h222 => ?_
      refine sg h222 (wT h222 rfl rfl rfl) rfl rfl rfl (v := .pointer (some ⟨rg, 1, none⟩)) (fun hC224 => by have hq := (of_decide_eq_true hC224); exact (rfa h222 rfl (opg rfl hC224) (fun w => fa_commonsref19_Table_lm1_1 rg 0 w)) _) fun a226 h225 => ?_
      refine sg h225 (wT h225 rfl rfl rfl) rfl rfl rfl (v := .slice (some ⟨wb, 0, none⟩) 33 33) (fun hC227 => by have hq := (of_decide_eq_true hC227); exact (rld h225 rfl (opg rfl hC227) (ldB Try.underlying38 rfl (s193.get 3 rfl : Blk _ _ _ _) rfl))) fun a229 h228 => ?_
      refine sg h228 (wT h228 rfl rfl rfl) rfl rfl rfl (v := .int .i64 inode) (fun hC230 => by have hq := (of_decide_eq_true hC230); exact (rmove h228 rfl rfl) _) fun a232 h231 => ?_
      refine sg h231 (wT h231 rfl rfl rfl) rfl rfl rfl (v := .pointer (some ⟨wb, (inode).toNat, none⟩)) (fun hC233 => by have hq := (of_decide_eq_true hC233); exact (rindexA h231 rfl (opg rfl hC233) (opg rfl hC233) (fun w => ixS Try.underlying38 (by kernel_rfl) (sz := 1) (j := (inode).toNat) (by omega) (by omega) (Nat.mul_one _) w)) _) fun a235 h234 => ?_
      refine sg h234 (wT h234 rfl rfl rfl) rfl rfl rfl (v := .int .i64 (W189.getD ((inode).toNat) 0)) (fun hC236 => by have hq := (of_decide_eq_true hC236); exact (rld h234 rfl (opg rfl hC236) (ldB Try.underlying3 rfl (s193.get 5 rfl : Blk _ _ _ _) (li_get (by omega))))) fun a238 h237 => ?_
      refine sg h237 (wT h237 rfl rfl rfl) rfl rfl rfl (v := .int .i64 client) (fun hC239 => by have hq := (of_decide_eq_true hC239); exact (rmove h237 rfl rfl) _) fun a241 h240 => ?_
      refine sg h240 (wT h240 rfl rfl rfl) rfl rfl rfl (v := .bool (decide (W189.getD ((inode).toNat) 0 ≠ client))) (fun hC242 => by have hq := (of_decide_eq_true hC242); exact (rbin h240 rfl (opg rfl hC242) (opg rfl hC242) (cNe _ _ _ _ rfl)) _) fun a244 h243 => ?_
      refine sv h243 (wanted_none rfl) rfl rfl rfl (v := .bool ((decide (W189.getD ((inode).toNat) 0 ≠ 0)) && (decide (W189.getD ((inode).toNat) 0 ≠ client)))) (rpickA h243 rfl (E := (decide (W189.getD ((inode).toNat) 0 ≠ 0))) (F := (decide (W189.getD ((inode).toNat) 0 ≠ client))) rfl rfl rfl (fun e => if_pos (by rw [e]; try rfl))) fun a246 h245 => ?_
      have h247 := h245.subs (l' := [(84, _), (15, _), (14, _), (13, _), (12, _), (0, _), (1, _), (2, _), (3, _), (4, _), (5, _)]) rfl
      clear h245 h183 h200 h202 h204 h206 h208 h210 h212 h214 h216 h219 h222 h225 h228 h231 h234 h237 h240 h243 a165 a201 a203 a205 a207 a209 a211 a213 a215 a217 a220 a223 a226 a229 a232 a235 a238 a241 a244
      refine wpList_nil ?_
      refine hK185 _ _ ?_
      rcases Bool.eq_false_or_eq_true ((decide (W189.getD ((inode).toNat) 0 ≠ 0)) && (decide (W189.getD ((inode).toNat) 0 ≠ client))) with hc248 | hc248
      · skip
        have hp249 : (W189.getD ((inode).toNat) 0 ≠ 0) ∧ (W189.getD ((inode).toNat) 0 ≠ client) := (And.intro (of_decide_eq_true (andT hc248).1) (of_decide_eq_true (andT hc248).2))
        refine wp_condS h247 rfl hc248 ?_
        simp only [if_true]
        have h250 := h247.subs (l' := [(15, _), (14, _), (13, _), (12, _), (0, _), (1, _), (2, _), (3, _), (4, _), (5, _)]) rfl
        clear h247
        refine wp_seq_k fun K251 hK251 => ?_
        refine wp_region_lit ?_
        refine so (wanted_none rfl) fun K258 hK258 => xcall h250 rfl rfl rfl (xs := []) rfl cp_commonslaw19_lives_lm1 rfl (vs := []) rfl (args := #[]) rfl (lives_s (R := [blkC tg 54 [.map (some gm), .map (some wm)], mapC KG gm n186 ((runT (fun i => d0 (f i)) k46).1), mapC KW wm m187 ((runT (fun i => d0 (f i)) k46).2), blkC rg 43 [.slice (some ⟨gb, 0, none⟩) 297 297, .slice (some ⟨wb, 0, none⟩) 33 33, .slice (some ⟨lb, 0, none⟩) 33 33], blkC gb 58 (G188.flatMap g3C), blkC wb 3 (W189.map iV), blkC lb 3 (L190.map iV), oldC W W.heap.size]) (s193 : Sep _ [blkC tg 54 [.map (some gm), .map (some wm)], mapC KG gm n186 ((runT (fun i => d0 (f i)) k46).1), mapC KW wm m187 ((runT (fun i => d0 (f i)) k46).2), blkC rg 43 [.slice (some ⟨gb, 0, none⟩) 297 297, .slice (some ⟨wb, 0, none⟩) 33 33, .slice (some ⟨lb, 0, none⟩) 33 33], blkC gb 58 (G188.flatMap g3C), blkC wb 3 (W189.map iV), blkC lb 3 (L190.map iV), oldC W W.heap.size])) fun a253 v254 w255 r256 h252 => hK258 _ _ ?_
        clear hK258 K258
        obtain ⟨rfl, s257⟩ := r256
        have h259 := h252.subs (l' := [(85, _), (15, _), (14, _), (13, _), (0, _), (1, _), (2, _), (3, _), (4, _), (5, _)]) rfl
        clear h252 h250 a246
        refine sv h259 (wanted_none rfl) rfl rfl rfl (v := .bool true) (rassign h259 rfl rfl) fun a261 h260 => ?_
        have h262 := h260.subs (l' := [(12, _), (15, _), (14, _), (13, _), (0, _), (1, _), (2, _), (3, _), (4, _), (5, _)]) rfl
        clear h260 h259 a253
        refine wpList_nil ?_
        refine hK251 _ _ ?_
        refine wp_ret ?_
        try simp only [Exit.then, Exit.inBlock]
        refine retR (v := .bool true) (res1 h262 rfl rfl) h262.defs ?_
        exact ⟨rfl, (s257.get 7 rfl : Below _ _ _ ∧ _).1⟩
      · skip
        have hp263 : (¬ (W189.getD ((inode).toNat) 0 ≠ 0)) ∨ (¬ (W189.getD ((inode).toNat) 0 ≠ client)) := ((andF hc248).imp (fun q => (of_decide_eq_false q)) (fun q => (of_decide_eq_false q)))
        refine wp_condS h247 rfl hc248 ?_
        simp only [Bool.false_eq_true, if_false]
        have h264 := h247.subs (l' := [(15, _), (14, _), (13, _), (12, _), (0, _), (1, _), (2, _), (3, _), (4, _), (5, _)]) rfl
        clear h247
        refine wp_skip ?_
        refine hK184 _ _ ?_
        refine wp_seq_k fun K265 hK265 => ?_
        refine wp_region_lit ?_
        refine sv h264 (wanted_none rfl) rfl rfl rfl (v := .pointer (some ⟨tg, 0, none⟩)) (rmove h264 rfl rfl) fun a267 h266 => ?_
        refine sv h266 (wanted_none rfl) rfl rfl rfl (v := .int .i64 client) (rmove h266 rfl rfl) fun a269 h268 => ?_
        refine sv h268 (wanted_none rfl) rfl rfl rfl (v := .int .i64 inode) (rmove h268 rfl rfl) fun a271 h270 => ?_
        refine sv h270 (wanted_none rfl) rfl rfl rfl (v := .bool own) (rmove h270 rfl rfl) fun a273 h272 => ?_
        refine so (wanted_none rfl) fun K284 hK284 => xcall h272 rfl rfl rfl (xs := [.tmp 87, .const (.int .i64 0), .tmp 88, .tmp 89, .tmp 90]) rfl cp_lease_Table_Ask_lm1 rfl (vs := [.pointer (some ⟨tg, 0, none⟩), .int .i64 0, .int .i64 client, .int .i64 inode, .bool own]) rfl (args := #[.pointer (some ⟨tg, 0, none⟩), .int .i64 0, .int .i64 client, .int .i64 inode, .bool own]) rfl (askT_s (tg := tg) (gm := gm) (wm := wm) (R := [blkC rg 43 [.slice (some ⟨gb, 0, none⟩) 297 297, .slice (some ⟨wb, 0, none⟩) 33 33, .slice (some ⟨lb, 0, none⟩) 33 33], blkC gb 58 (G188.flatMap g3C), blkC wb 3 (W189.map iV), blkC lb 3 (L190.map iV), oldC W W.heap.size]) (s193 : Sep _ [blkC tg 54 [.map (some gm), .map (some wm)], mapC KG gm n186 ((runT (fun i => d0 (f i)) k46).1), mapC KW wm m187 ((runT (fun i => d0 (f i)) k46).2), blkC rg 43 [.slice (some ⟨gb, 0, none⟩) 297 297, .slice (some ⟨wb, 0, none⟩) 33 33, .slice (some ⟨lb, 0, none⟩) 33 33], blkC gb 58 (G188.flatMap g3C), blkC wb 3 (W189.map iV), blkC lb 3 (L190.map iV), oldC W W.heap.size]) hok195 (by omega) (by omega) 0 client inode own) fun a279 v280 w281 r282 h278 => hK284 _ _ ?_
        clear hK284 K284
        obtain ⟨lax274, lcx275, nx276, mx277, rfl, s283, hn282, hm282⟩ := r282
        have hok285 := hok195.ask ((runT (fun i => d0 (f i)) k46).2) 0 client inode own
        refine sv h278 (wanted_none rfl) rfl rfl rfl (v := .tuple #[.slice lax274 ((askLst ((runT (fun i => d0 (f i)) k46).1) 0 client inode own).length) lcx275, .int .i64 (askE ((runT (fun i => d0 (f i)) k46).1) ((runT (fun i => d0 (f i)) k46).2) 0 client inode own)]) (rmove h278 rfl rfl) fun a287 h286 => ?_
        refine sv h286 (wanted_none rfl) rfl rfl rfl (v := .slice lax274 ((askLst ((runT (fun i => d0 (f i)) k46).1) 0 client inode own).length) lcx275) (rext h286 rfl rfl rfl) fun a289 h288 => ?_
        refine sv h288 (wanted_none rfl) rfl rfl rfl (v := .int .i64 (askE ((runT (fun i => d0 (f i)) k46).1) ((runT (fun i => d0 (f i)) k46).2) 0 client inode own)) (rext h288 rfl rfl rfl) fun a291 h290 => ?_
        refine sv h290 (wanted_none rfl) rfl rfl rfl (v := .slice lax274 ((askLst ((runT (fun i => d0 (f i)) k46).1) 0 client inode own).length) lcx275) (rassign h290 rfl rfl) fun a293 h292 => ?_
        refine sv h292 (wanted_none rfl) rfl rfl rfl (v := .int .i64 (askE ((runT (fun i => d0 (f i)) k46).1) ((runT (fun i => d0 (f i)) k46).2) 0 client inode own)) (rassign h292 rfl rfl) fun a295 h294 => ?_
        have h296 := h294.subs (l' := [(18, _), (17, _), (15, _), (14, _), (13, _), (12, _), (0, _), (1, _), (2, _), (3, _), (4, _), (5, _)]) rfl
        clear h294 h264 h266 h268 h270 h272 h278 h286 h288 h290 h292 a246 a267 a269 a271 a273 a279 a287 a289 a291 a293
        refine wpList_nil ?_
        refine hK265 _ _ ?_
        refine wp_seq_k fun K297 hK297 => ?_
        refine wp_seq_k fun K298 hK298 => ?_
        refine wp_region_lit ?_
        refine sv h296 (wanted_none rfl) rfl rfl rfl (v := .int .i64 (askE ((runT (fun i => d0 (f i)) k46).1) ((runT (fun i => d0 (f i)) k46).2) 0 client inode own)) (rmove h296 rfl rfl) fun a300 h299 => ?_
        refine sv h299 (wanted_none rfl) rfl rfl rfl (v := .bool (decide (askE ((runT (fun i => d0 (f i)) k46).1) ((runT (fun i => d0 (f i)) k46).2) 0 client inode own = 0))) (rbin h299 rfl rfl rfl (cEq _ _ _ _ rfl)) fun a302 h301 => ?_
        have h303 := h301.subs (l' := [(95, _), (18, _), (17, _), (15, _), (14, _), (13, _), (12, _), (0, _), (1, _), (2, _), (3, _), (4, _), (5, _)]) rfl
        clear h301 h296 h299 a295 a300
        refine wpList_nil ?_
        refine hK298 _ _ ?_
        rcases Bool.eq_false_or_eq_true (decide (askE ((runT (fun i => d0 (f i)) k46).1) ((runT (fun i => d0 (f i)) k46).2) 0 client inode own = 0)) with hc304 | hc304
        · skip
          have hp305 : askE ((runT (fun i => d0 (f i)) k46).1) ((runT (fun i => d0 (f i)) k46).2) 0 client inode own = 0 := (of_decide_eq_true hc304)
          have hl306 := ask_zero (by omega) (by omega) (by omega) (of_decide_eq_true hc304)
          refine wp_condS h303 rfl hc304 ?_
          simp only [if_true]
          have h307 := h303.subs (l' := [(18, _), (17, _), (15, _), (14, _), (13, _), (12, _), (0, _), (1, _), (2, _), (3, _), (4, _), (5, _)]) rfl
          clear h303
          refine wp_seq_k fun K308 hK308 => ?_
          refine wp_region_lit ?_
          refine sv h307 (wanted_none rfl) rfl rfl rfl (v := .slice lax274 ((askLst ((runT (fun i => d0 (f i)) k46).1) 0 client inode own).length) lcx275) (rmove h307 rfl rfl) fun a310 h309 => ?_
          refine sv h309 (wanted_none rfl) rfl rfl rfl (v := .int .i64 (((askLst ((runT (fun i => d0 (f i)) k46).1) 0 client inode own).length : Nat) : Int)) (rlenS h309 rfl rfl Try.underlying38) fun a312 h311 => ?_
          refine sv h311 (wanted_none rfl) rfl rfl rfl (v := .bool true) (rbin h311 rfl rfl rfl (cEq _ _ _ _ (decide_eq_true (by omega)))) fun a314 h313 => ?_
          refine sv h313 (wanted_none rfl) rfl rfl rfl (v := .bool true) (rmove h313 rfl rfl) fun a316 h315 => ?_
          refine so (wT h315 (E := true) rfl rfl rfl) fun K323 hK323 => xcall h315 rfl rfl rfl (xs := []) rfl cp_commonslaw19_lives_lm1 rfl (vs := []) rfl (args := #[]) rfl (lives_s (R := [ownC 0 3 1 lax274 (askLst ((runT (fun i => d0 (f i)) k46).1) 0 client inode own).length lcx275 ((askLst ((runT (fun i => d0 (f i)) k46).1) 0 client inode own).map iV), blkC tg 54 [.map (some gm), .map (some wm)], mapC KG gm nx276 (askG ((runT (fun i => d0 (f i)) k46).1) ((runT (fun i => d0 (f i)) k46).2) 0 client inode own), mapC KW wm mx277 (askW ((runT (fun i => d0 (f i)) k46).1) ((runT (fun i => d0 (f i)) k46).2) 0 client inode own), blkC rg 43 [.slice (some ⟨gb, 0, none⟩) 297 297, .slice (some ⟨wb, 0, none⟩) 33 33, .slice (some ⟨lb, 0, none⟩) 33 33], blkC gb 58 (G188.flatMap g3C), blkC wb 3 (W189.map iV), blkC lb 3 (L190.map iV), oldC W W.heap.size]) (s283 : Sep _ [ownC 0 3 1 lax274 (askLst ((runT (fun i => d0 (f i)) k46).1) 0 client inode own).length lcx275 ((askLst ((runT (fun i => d0 (f i)) k46).1) 0 client inode own).map iV), blkC tg 54 [.map (some gm), .map (some wm)], mapC KG gm nx276 (askG ((runT (fun i => d0 (f i)) k46).1) ((runT (fun i => d0 (f i)) k46).2) 0 client inode own), mapC KW wm mx277 (askW ((runT (fun i => d0 (f i)) k46).1) ((runT (fun i => d0 (f i)) k46).2) 0 client inode own), blkC rg 43 [.slice (some ⟨gb, 0, none⟩) 297 297, .slice (some ⟨wb, 0, none⟩) 33 33, .slice (some ⟨lb, 0, none⟩) 33 33], blkC gb 58 (G188.flatMap g3C), blkC wb 3 (W189.map iV), blkC lb 3 (L190.map iV), oldC W W.heap.size])) fun a318 v319 w320 r321 h317 => hK323 _ _ ?_
          clear hK323 K323
          obtain ⟨rfl, s322⟩ := r321
          refine sv h317 (wanted_none rfl) rfl rfl rfl (v := .bool true) (rpick h317 rfl rfl rfl) fun a325 h324 => ?_
          have h326 := h324.subs (l' := [(101, _), (100, _), (99, _), (98, _), (97, _), (96, _), (18, _), (17, _), (15, _), (14, _), (13, _), (0, _), (1, _), (2, _), (3, _), (4, _), (5, _)]) rfl
          clear h324 h307 h309 h311 h313 h315 h317 a302 a310 a312 a314 a316 a318
          refine sv h326 (wanted_none rfl) rfl rfl rfl (v := .bool true) (rassign h326 rfl rfl) fun a328 h327 => ?_
          have h329 := h327.subs (l' := [(12, _), (18, _), (17, _), (15, _), (14, _), (13, _), (0, _), (1, _), (2, _), (3, _), (4, _), (5, _)]) rfl
          clear h327 h326 a325
          refine wpList_nil ?_
          refine hK308 _ _ ?_
          refine wp_ret ?_
          try simp only [Exit.then, Exit.inBlock]
          refine retR (v := .bool true) (res1 h329 rfl rfl) h329.defs ?_
          exact ⟨rfl, (s322.get 8 rfl : Below _ _ _ ∧ _).1⟩
        · skip
          have hp330 : ¬ (askE ((runT (fun i => d0 (f i)) k46).1) ((runT (fun i => d0 (f i)) k46).2) 0 client inode own = 0) := (of_decide_eq_false hc304)
          obtain ⟨hl331a, hl331b, hl331c⟩ := ask_again hR194 (c := client) (i := inode) (own := own) (by omega) (by omega) (by omega) (of_decide_eq_false hc304)
          refine wp_condS h303 rfl hc304 ?_
          simp only [Bool.false_eq_true, if_false]
          have h332 := h303.subs (l' := [(18, _), (17, _), (15, _), (14, _), (13, _), (12, _), (0, _), (1, _), (2, _), (3, _), (4, _), (5, _)]) rfl
          clear h303
          refine wp_skip ?_
          refine hK297 _ _ ?_
          refine wp_seq_k fun K333 hK333 => ?_
          refine wp_seq_k fun K334 hK334 => ?_
          refine wp_region_lit ?_
          refine sv h332 (wanted_none rfl) rfl rfl rfl (v := .int .i64 1) (rassign h332 rfl rfl) fun a336 h335 => ?_
          refine wpList_nil ?_
          refine hK334 _ _ ?_
          refine wp_block ?_
          refine wp_loop1 (fun (kd : Nat) a' w' => Kn 202 [(19, .int .i64 ((kd + 1 : Nat) : Int)), (18, .int .i64 (askE ((runT (fun i => d0 (f i)) k46).1) ((runT (fun i => d0 (f i)) k46).2) 0 client inode own)), (17, .slice lax274 ((askLst ((runT (fun i => d0 (f i)) k46).1) 0 client inode own).length) lcx275), (15, .int .i64 (k46 : Int)), (14, .pointer (some ⟨rg, 0, none⟩)), (13, .pointer (some ⟨tg, 0, none⟩)), (12, .bool false), (0, .slice a0 n0 c0), (1, .int .i64 client), (2, .int .i64 inode), (3, .bool own), (4, .slice a4 n4 c4), (5, .int .i64 later)] a' ∧ Sep w' [blkC tg 54 [.map (some gm), .map (some wm)], mapC KG gm nx276 (dropsG client (askG ((runT (fun i => d0 (f i)) k46).1) ((runT (fun i => d0 (f i)) k46).2) 0 client inode own) kd), mapC KW wm mx277 (dropsW client (askW ((runT (fun i => d0 (f i)) k46).1) ((runT (fun i => d0 (f i)) k46).2) 0 client inode own) kd), oldC W W.heap.size] ∧ (kd ≤ 8)) (fun (kd : Nat) => 8 - kd) 0 ⟨h335.subs rfl, (s283.pick [1, 2, 3, 8] (by decide) rfl), by omega⟩ ?_
          clear h335 s283
          rintro kd343 a337 w338 ⟨h339, s340, hkd342⟩ K341 hK341
          refine wp_seq_k fun K344 hK344 => ?_
          refine wp_seq_k fun K345 hK345 => ?_
          refine wp_region_lit ?_
          refine sv h339 (wanted_none rfl) rfl rfl rfl (v := .int .i64 ((kd343 + 1 : Nat) : Int)) (rmove h339 rfl rfl) fun a347 h346 => ?_
          refine sv h346 (wanted_none rfl) rfl rfl rfl (v := .bool (decide (((kd343 + 1 : Nat) : Int) ≤ 8))) (rbin h346 rfl rfl rfl (cLe _ _ _ _ rfl)) fun a349 h348 => ?_
          have h350 := h348.subs (l' := [(103, _), (19, _), (18, _), (17, _), (15, _), (14, _), (13, _), (12, _), (0, _), (1, _), (2, _), (3, _), (4, _), (5, _)]) rfl
          clear h348 h339 h346 a337 a347
          refine wpList_nil ?_
          refine hK345 _ _ ?_
          rcases Bool.eq_false_or_eq_true (decide (((kd343 + 1 : Nat) : Int) ≤ 8)) with hc351 | hc351
          · skip
            have hp352 : ((kd343 + 1 : Nat) : Int) ≤ 8 := (of_decide_eq_true hc351)
            refine wp_condS h350 rfl hc351 ?_
            simp only [if_true]
            have h353 := h350.subs (l' := [(19, _), (18, _), (17, _), (15, _), (14, _), (13, _), (12, _), (0, _), (1, _), (2, _), (3, _), (4, _), (5, _)]) rfl
            clear h350
            refine wp_skip ?_
            refine hK344 _ _ ?_
            refine wp_seq_k fun K354 hK354 => ?_
            refine wp_block ?_
            refine wp_seq_k fun K355 hK355 => ?_
            refine wp_region_lit ?_
            refine sv h353 (wanted_none rfl) rfl rfl rfl (v := .int .i64 ((kd343 + 1 : Nat) : Int)) (rmove h353 rfl rfl) fun a357 h356 => ?_
            refine sv h356 (wanted_none rfl) rfl rfl rfl (v := .int .i64 client) (rmove h356 rfl rfl) fun a359 h358 => ?_
            refine sv h358 (wanted_none rfl) rfl rfl rfl (v := .bool (decide (((kd343 + 1 : Nat) : Int) ≠ client))) (rbin h358 rfl rfl rfl (cNe _ _ _ _ rfl)) fun a361 h360 => ?_
            have h362 := h360.subs (l' := [(108, _), (19, _), (18, _), (17, _), (15, _), (14, _), (13, _), (12, _), (0, _), (1, _), (2, _), (3, _), (4, _), (5, _)]) rfl
            clear h360 h353 h356 h358 a349 a357 a359
            refine wpList_nil ?_
            refine hK355 _ _ ?_
            rcases Bool.eq_false_or_eq_true (decide (((kd343 + 1 : Nat) : Int) ≠ client)) with hc363 | hc363
            · skip
              have hp364 : ((kd343 + 1 : Nat) : Int) ≠ client := (of_decide_eq_true hc363)
              refine wp_condS h362 rfl hc363 ?_
              simp only [if_true]
              have h365 := h362.subs (l' := [(19, _), (18, _), (17, _), (15, _), (14, _), (13, _), (12, _), (0, _), (1, _), (2, _), (3, _), (4, _), (5, _)]) rfl
              clear h362
              refine wp_region_lit ?_
              refine sv h365 (wanted_none rfl) rfl rfl rfl (v := .pointer (some ⟨tg, 0, none⟩)) (rmove h365 rfl rfl) fun a367 h366 => ?_
              refine sv h366 (wanted_none rfl) rfl rfl rfl (v := .int .i64 ((kd343 + 1 : Nat) : Int)) (rmove h366 rfl rfl) fun a369 h368 => ?_
              refine so (wanted_none rfl) fun K376 hK376 => xcall h368 rfl rfl rfl (xs := [.tmp 109, .tmp 110]) rfl cp_lease_Table_Drop_lm1 rfl (vs := [.pointer (some ⟨tg, 0, none⟩), .int .i64 ((kd343 + 1 : Nat) : Int)]) rfl (args := #[.pointer (some ⟨tg, 0, none⟩), .int .i64 ((kd343 + 1 : Nat) : Int)]) rfl (dropT_s (tg := tg) (gm := gm) (wm := wm) (R := [oldC W W.heap.size]) (s340 : Sep _ [blkC tg 54 [.map (some gm), .map (some wm)], mapC KG gm nx276 (dropsG client (askG ((runT (fun i => d0 (f i)) k46).1) ((runT (fun i => d0 (f i)) k46).2) 0 client inode own) kd343), mapC KW wm mx277 (dropsW client (askW ((runT (fun i => d0 (f i)) k46).1) ((runT (fun i => d0 (f i)) k46).2) 0 client inode own) kd343), oldC W W.heap.size]) ((kd343 + 1 : Nat) : Int)) fun a371 v372 w373 r374 h370 => hK376 _ _ ?_
              clear hK376 K376
              obtain ⟨rfl, s375⟩ := r374
              have h377 := h370.subs (l' := [(19, _), (18, _), (17, _), (15, _), (14, _), (13, _), (12, _), (0, _), (1, _), (2, _), (3, _), (4, _), (5, _)]) rfl
              clear h370 h365 h366 h368 a361 a367 a369
              refine wpList_nil ?_
              refine hK354 _ _ ?_
              refine wp_region_lit ?_
              refine sv h377 (wanted_none rfl) rfl rfl rfl (v := .int .i64 ((kd343 + 1 : Nat) : Int)) (rmove h377 rfl rfl) fun a379 h378 => ?_
              refine sv h378 (wanted_none rfl) rfl rfl rfl (v := .int .i64 ((kd343 + 2 : Nat) : Int)) (rbin h378 rfl rfl rfl (bAdd _ _ _ (by omega) (by omega) (by omega))) fun a381 h380 => ?_
              have h382 := h380.subs (l' := [(105, _), (104, _), (18, _), (17, _), (15, _), (14, _), (13, _), (12, _), (0, _), (1, _), (2, _), (3, _), (4, _), (5, _)]) rfl
              clear h380 h377 h378 a371 a379
              refine sv h382 (wanted_none rfl) rfl rfl rfl (v := .int .i64 ((kd343 + 2 : Nat) : Int)) (rassign h382 rfl rfl) fun a384 h383 => ?_
              have h385 := h383.subs (l' := [(19, _), (18, _), (17, _), (15, _), (14, _), (13, _), (12, _), (0, _), (1, _), (2, _), (3, _), (4, _), (5, _)]) rfl
              clear h383 h382 a381
              refine wpList_nil ?_
              exact hK341 (kd343 + 1) _ _ ⟨h385.subs rfl, (by rw [dropsG_no (by omega), dropsW_no (by omega)]; exact (s375 : Sep _ [blkC tg 54 [.map (some gm), .map (some wm)], mapC KG gm nx276 (dropG ((kd343 + 1 : Nat) : Int) (dropsG client (askG ((runT (fun i => d0 (f i)) k46).1) ((runT (fun i => d0 (f i)) k46).2) 0 client inode own) kd343)), mapC KW wm mx277 (dropW ((kd343 + 1 : Nat) : Int) (dropsW client (askW ((runT (fun i => d0 (f i)) k46).1) ((runT (fun i => d0 (f i)) k46).2) 0 client inode own) kd343)), oldC W W.heap.size])), by omega⟩ (by omega)
            · skip
              have hp386 : ¬ (((kd343 + 1 : Nat) : Int) ≠ client) := (of_decide_eq_false hc363)
              refine wp_condS h362 rfl hc363 ?_
              simp only [Bool.false_eq_true, if_false]
              have h387 := h362.subs (l' := [(19, _), (18, _), (17, _), (15, _), (14, _), (13, _), (12, _), (0, _), (1, _), (2, _), (3, _), (4, _), (5, _)]) rfl
              clear h362
              refine wp_skip ?_
              refine hK354 _ _ ?_
              refine wp_region_lit ?_
              refine sv h387 (wanted_none rfl) rfl rfl rfl (v := .int .i64 ((kd343 + 1 : Nat) : Int)) (rmove h387 rfl rfl) fun a389 h388 => ?_
              refine sv h388 (wanted_none rfl) rfl rfl rfl (v := .int .i64 ((kd343 + 2 : Nat) : Int)) (rbin h388 rfl rfl rfl (bAdd _ _ _ (by omega) (by omega) (by omega))) fun a391 h390 => ?_
              have h392 := h390.subs (l' := [(105, _), (104, _), (18, _), (17, _), (15, _), (14, _), (13, _), (12, _), (0, _), (1, _), (2, _), (3, _), (4, _), (5, _)]) rfl
              clear h390 h387 h388 a361 a389
              refine sv h392 (wanted_none rfl) rfl rfl rfl (v := .int .i64 ((kd343 + 2 : Nat) : Int)) (rassign h392 rfl rfl) fun a394 h393 => ?_
              have h395 := h393.subs (l' := [(19, _), (18, _), (17, _), (15, _), (14, _), (13, _), (12, _), (0, _), (1, _), (2, _), (3, _), (4, _), (5, _)]) rfl
              clear h393 h392 a391
              refine wpList_nil ?_
              exact hK341 (kd343 + 1) _ _ ⟨h395.subs rfl, (by rw [dropsG_yes (by omega), dropsW_yes (by omega)]; exact (s340 : Sep _ [blkC tg 54 [.map (some gm), .map (some wm)], mapC KG gm nx276 (dropsG client (askG ((runT (fun i => d0 (f i)) k46).1) ((runT (fun i => d0 (f i)) k46).2) 0 client inode own) kd343), mapC KW wm mx277 (dropsW client (askW ((runT (fun i => d0 (f i)) k46).1) ((runT (fun i => d0 (f i)) k46).2) 0 client inode own) kd343), oldC W W.heap.size])), by omega⟩ (by omega)
          · skip
            have hp396 : ¬ (((kd343 + 1 : Nat) : Int) ≤ 8) := (of_decide_eq_false hc351)
            refine wp_condS h350 rfl hc351 ?_
            simp only [Bool.false_eq_true, if_false]
            have h397 := h350.subs (l' := [(19, _), (18, _), (17, _), (15, _), (14, _), (13, _), (12, _), (0, _), (1, _), (2, _), (3, _), (4, _), (5, _)]) rfl
            clear h350
            refine wp_exit ?_
            refine hK333 _ _ ?_
            refine wp_seq_k fun K398 hK398 => ?_
            refine wp_seq_k fun K399 hK399 => ?_
            refine wp_region_lit ?_
            refine sv h397 (wanted_none rfl) rfl rfl rfl (v := .int .i64 0) (rassign h397 rfl rfl) fun a401 h400 => ?_
            refine wpList_nil ?_
            refine hK399 _ _ ?_
            refine wp_block ?_
            refine wp_loop3 (fun (x : Nat) (nx : Nat) (mx : Nat) a' w' => Kn 202 [(20, .int .i64 (x : Int)), (19, .int .i64 ((kd343 + 1 : Nat) : Int)), (18, .int .i64 (askE ((runT (fun i => d0 (f i)) k46).1) ((runT (fun i => d0 (f i)) k46).2) 0 client inode own)), (17, .slice lax274 ((askLst ((runT (fun i => d0 (f i)) k46).1) 0 client inode own).length) lcx275), (15, .int .i64 (k46 : Int)), (14, .pointer (some ⟨rg, 0, none⟩)), (13, .pointer (some ⟨tg, 0, none⟩)), (12, .bool false), (0, .slice a0 n0 c0), (1, .int .i64 client), (2, .int .i64 inode), (3, .bool own), (4, .slice a4 n4 c4), (5, .int .i64 later)] a' ∧ Sep w' [blkC tg 54 [.map (some gm), .map (some wm)], mapC KG gm nx (dropsG client (askG ((runT (fun i => d0 (f i)) k46).1) ((runT (fun i => d0 (f i)) k46).2) 0 client inode own) kd343), mapC KW wm mx (dropsW client (askW ((runT (fun i => d0 (f i)) k46).1) ((runT (fun i => d0 (f i)) k46).2) 0 client inode own) kd343), oldC W W.heap.size] ∧ (x ≤ 20) ∧ (nx ≤ 50 + x) ∧ (mx ≤ 50 + x)) (fun (x : Nat) (nx : Nat) (mx : Nat) => 20 - x) 0 nx276 mx277 ⟨h400.subs rfl, s340, by omega, by omega, by omega⟩ ?_
            clear h400 s340
            rintro x410 nx411 mx412 a402 w403 ⟨h404, s405, hx407, hnx408, hmx409⟩ K406 hK406
            refine wp_seq_k fun K413 hK413 => ?_
            refine wp_seq_k fun K414 hK414 => ?_
            refine wp_region_lit ?_
            refine sv h404 (wanted_none rfl) rfl rfl rfl (v := .int .i64 (x410 : Int)) (rmove h404 rfl rfl) fun a416 h415 => ?_
            refine sv h415 (wanted_none rfl) rfl rfl rfl (v := .slice a4 n4 c4) (rmove h415 rfl rfl) fun a418 h417 => ?_
            refine sv h417 (wanted_none rfl) rfl rfl rfl (v := .int .i64 (n4 : Int)) (rlenS h417 rfl rfl Try.underlying22) fun a420 h419 => ?_
            refine sv h419 (wanted_none rfl) rfl rfl rfl (v := .bool (decide ((x410 : Int) < (n4 : Int)))) (rbin h419 rfl rfl rfl (cLt _ _ _ _ rfl)) fun a422 h421 => ?_
            refine sv h421 (wanted_none rfl) rfl rfl rfl (v := .bool (decide ((x410 : Int) < (n4 : Int)))) (rmove h421 rfl rfl) fun a424 h423 => ?_
            refine sg h423 (wT h423 rfl rfl rfl) rfl rfl rfl (v := .int .i64 (x410 : Int)) (fun hC425 => by have hq := (of_decide_eq_true hC425); exact (rmove h423 rfl rfl) _) fun a427 h426 => ?_
            refine sg h426 (wT h426 rfl rfl rfl) rfl rfl rfl (v := .bool (decide ((x410 : Int) < 20))) (fun hC428 => by have hq := (of_decide_eq_true hC428); exact (rbin h426 rfl (opg rfl hC428) rfl (cLt _ _ _ _ rfl)) _) fun a430 h429 => ?_
            refine sv h429 (wanted_none rfl) rfl rfl rfl (v := .bool ((decide ((x410 : Int) < (n4 : Int))) && (decide ((x410 : Int) < 20)))) (rpickA h429 rfl (E := (decide ((x410 : Int) < (n4 : Int)))) (F := (decide ((x410 : Int) < 20))) rfl rfl rfl (fun e => if_pos (by rw [e]; try rfl))) fun a432 h431 => ?_
            have h433 := h431.subs (l' := [(119, _), (20, _), (19, _), (18, _), (17, _), (15, _), (14, _), (13, _), (12, _), (0, _), (1, _), (2, _), (3, _), (4, _), (5, _)]) rfl
            clear h431 h404 h415 h417 h419 h421 h423 h426 h429 a402 a416 a418 a420 a422 a424 a427 a430
            refine wpList_nil ?_
            refine hK414 _ _ ?_
            rcases Bool.eq_false_or_eq_true ((decide ((x410 : Int) < (n4 : Int))) && (decide ((x410 : Int) < 20))) with hc434 | hc434
            · skip
              have hp435 : ((x410 : Int) < (n4 : Int)) ∧ ((x410 : Int) < 20) := (And.intro (of_decide_eq_true (andT hc434).1) (of_decide_eq_true (andT hc434).2))
              refine wp_condS h433 rfl hc434 ?_
              simp only [if_true]
              have h436 := h433.subs (l' := [(20, _), (19, _), (18, _), (17, _), (15, _), (14, _), (13, _), (12, _), (0, _), (1, _), (2, _), (3, _), (4, _), (5, _)]) rfl
              clear h433
              refine wp_skip ?_
              refine hK413 _ _ ?_
              refine wp_seq_k fun K437 hK437 => ?_
              refine wp_block ?_
              refine wp_seq_k fun K438 hK438 => ?_
              refine wp_region_lit ?_
              refine sv h436 (wanted_none rfl) rfl rfl rfl (v := .slice a4 n4 c4) (rmove h436 rfl rfl) fun a440 h439 => ?_
              refine sv h439 (wanted_none rfl) rfl rfl rfl (v := .int .i64 (x410 : Int)) (rmove h439 rfl rfl) fun a442 h441 => ?_
              refine sv h441 (wanted_none rfl) rfl rfl rfl (v := .pointer (some ⟨bY, oY + x410 * 5, none⟩)) (rindexA h441 rfl rfl rfl (fun w => ixO Try.underlying22 (by kernel_rfl) (sz := 5) (hY (by omega)).1 (j := x410) rfl (by omega) rfl w)) fun a444 h443 => ?_
              refine sw h443 (wanted_none rfl) rfl rfl rfl (v := .agg #[.int .i64 ((f4 x410).k), .int .i64 ((f4 x410).now), .int .i64 ((f4 x410).c), .int .i64 ((f4 x410).i), .bool ((f4 x410).own)]) (rld h443 rfl rfl (ldX (sz := 5) (n := n4) (f := (fun i => deedC (f4 i))) Try.underlying29 rfl (by kernel_rfl) (fun _ => rfl) (hY (by omega)).2 (Nat.le_refl _) (s405.get 3 rfl : Below _ _ _ ∧ _) (j := x410) (by omega) rfl)) fun a446 h445 => ?_
              refine so (wanted_none rfl) fun K454 hK454 => xalloc h445 rfl rfl rfl rfl (z := [.int .i64 0, .int .i64 0, .int .i64 0, .int .i64 0, .bool false]) (fun _ => rfl) s405 fun a449 g447 w450 h448 s451 b452 e453 => hK454 _ _ ?_
              clear hK454 K454
              clear b452 e453
              refine so (wanted_none rfl) fun K460 hK460 => xstore h448 rfl rfl s451 0 rfl rfl rfl [.int .i64 ((f4 x410).k), .int .i64 ((f4 x410).now), .int .i64 ((f4 x410).c), .int .i64 ((f4 x410).i), .bool ((f4 x410).own)] rfl (by kernel_rfl) rfl (by show 0 + 5 ≤ 5; decide) (L' := [.int .i64 ((f4 x410).k), .int .i64 ((f4 x410).now), .int .i64 ((f4 x410).c), .int .i64 ((f4 x410).i), .bool ((f4 x410).own)]) rfl (cs' := [blkC g447 29 [.int .i64 ((f4 x410).k), .int .i64 ((f4 x410).now), .int .i64 ((f4 x410).c), .int .i64 ((f4 x410).i), .bool ((f4 x410).own)], blkC tg 54 [.map (some gm), .map (some wm)], mapC KG gm nx411 (dropsG client (askG ((runT (fun i => d0 (f i)) k46).1) ((runT (fun i => d0 (f i)) k46).2) 0 client inode own) kd343), mapC KW wm mx412 (dropsW client (askW ((runT (fun i => d0 (f i)) k46).1) ((runT (fun i => d0 (f i)) k46).2) 0 client inode own) kd343), oldC W W.heap.size]) rfl fun a456 w457 h455 s458 t459 => hK460 _ _ ?_
              clear hK460 K460
              clear t459
              have h461 := h455.subs (l' := [(21, _), (20, _), (19, _), (18, _), (17, _), (15, _), (14, _), (13, _), (12, _), (0, _), (1, _), (2, _), (3, _), (4, _), (5, _)]) rfl
              clear h455 h436 h439 h441 h443 h445 h448 a432 a440 a442 a444 a446 a449
              refine wpList_nil ?_
              refine hK438 _ _ ?_
              refine wp_seq_k fun K462 hK462 => ?_
              refine wp_region_lit ?_
              refine sv h461 (wanted_none rfl) rfl rfl rfl (v := .pointer (some ⟨g447, 0, none⟩)) (rfa h461 rfl rfl (fun w => fa_commonslaw19_Deed_lm1_0 g447 0 w)) fun a464 h463 => ?_
              refine sw h463 (wanted_none rfl) rfl rfl rfl (v := .int .i64 ((f4 x410).k)) (rld h463 rfl rfl (ldB Try.underlying3 rfl (s458.get 0 rfl : Blk _ _ _ _) rfl)) fun a466 h465 => ?_
              refine sv h465 (wanted_none rfl) rfl rfl rfl (v := .bool (decide ((f4 x410).k = 0))) (rbin h465 rfl rfl rfl (cEq _ _ _ _ rfl)) fun a468 h467 => ?_
              refine sv h467 (wanted_none rfl) rfl rfl rfl (v := .bool (decide ((f4 x410).k = 0))) (rmove h467 rfl rfl) fun a470 h469 => ?_
              refine sg h469 (wT h469 rfl rfl rfl) rfl rfl rfl (v := .pointer (some ⟨g447, 2, none⟩)) (fun hC471 => by have hq := (of_decide_eq_true hC471); exact (rfa h469 rfl rfl (fun w => fa_commonslaw19_Deed_lm1_2 g447 0 w)) _) fun a473 h472 => ?_
              refine sg h472 (wT h472 rfl rfl rfl) rfl rfl rfl (v := .int .i64 ((f4 x410).c)) (fun hC474 => by have hq := (of_decide_eq_true hC474); exact (rld h472 rfl (opg rfl hC474) (ldB Try.underlying3 rfl (s458.get 0 rfl : Blk _ _ _ _) rfl))) fun a476 h475 => ?_
              refine sg h475 (wT h475 rfl rfl rfl) rfl rfl rfl (v := .int .i64 client) (fun hC477 => by have hq := (of_decide_eq_true hC477); exact (rmove h475 rfl rfl) _) fun a479 h478 => ?_
              refine sg h478 (wT h478 rfl rfl rfl) rfl rfl rfl (v := .bool (decide ((f4 x410).c ≠ client))) (fun hC480 => by have hq := (of_decide_eq_true hC480); exact (rbin h478 rfl (opg rfl hC480) (opg rfl hC480) (cNe _ _ _ _ rfl)) _) fun a482 h481 => ?_
              refine sv h481 (wanted_none rfl) rfl rfl rfl (v := .bool ((decide ((f4 x410).k = 0)) && (decide ((f4 x410).c ≠ client)))) (rpickA h481 rfl (E := (decide ((f4 x410).k = 0))) (F := (decide ((f4 x410).c ≠ client))) rfl rfl rfl (fun e => if_pos (by rw [e]; try rfl))) fun a484 h483 => ?_
              refine sv h483 (wanted_none rfl) rfl rfl rfl (v := .bool ((decide ((f4 x410).k = 0)) && (decide ((f4 x410).c ≠ client)))) (rmove h483 rfl rfl) fun a486 h485 => ?_
              refine sg h485 (wT h485 rfl rfl rfl) rfl rfl rfl (v := .pointer (some ⟨g447, 3, none⟩)) (fun hC487 => by have hq := (And.intro (of_decide_eq_true (andT hC487).1) (of_decide_eq_true (andT hC487).2)); exact (rfa h485 rfl rfl (fun w => fa_commonslaw19_Deed_lm1_3 g447 0 w)) _) fun a489 h488 => ?_
              refine sg h488 (wT h488 rfl rfl rfl) rfl rfl rfl (v := .int .i64 ((f4 x410).i)) (fun hC490 => by have hq := (And.intro (of_decide_eq_true (andT hC490).1) (of_decide_eq_true (andT hC490).2)); exact (rld h488 rfl (opg rfl hC490) (ldB Try.underlying3 rfl (s458.get 0 rfl : Blk _ _ _ _) rfl))) fun a492 h491 => ?_
              refine sg h491 (wT h491 rfl rfl rfl) rfl rfl rfl (v := .int .i64 inode) (fun hC493 => by have hq := (And.intro (of_decide_eq_true (andT hC493).1) (of_decide_eq_true (andT hC493).2)); exact (rmove h491 rfl rfl) _) fun a495 h494 => ?_
              refine sg h494 (wT h494 rfl rfl rfl) rfl rfl rfl (v := .bool (decide ((f4 x410).i = inode))) (fun hC496 => by have hq := (And.intro (of_decide_eq_true (andT hC496).1) (of_decide_eq_true (andT hC496).2)); exact (rbin h494 rfl (opg rfl hC496) (opg rfl hC496) (cEq _ _ _ _ rfl)) _) fun a498 h497 => ?_
              refine sv h497 (wanted_none rfl) rfl rfl rfl (v := .bool (((decide ((f4 x410).k = 0)) && (decide ((f4 x410).c ≠ client))) && (decide ((f4 x410).i = inode)))) (rpickA h497 rfl (E := ((decide ((f4 x410).k = 0)) && (decide ((f4 x410).c ≠ client)))) (F := (decide ((f4 x410).i = inode))) rfl rfl rfl (fun e => if_pos (by rw [e]; try rfl))) fun a500 h499 => ?_
              have h501 := h499.subs (l' := [(140, _), (21, _), (20, _), (19, _), (18, _), (17, _), (15, _), (14, _), (13, _), (12, _), (0, _), (1, _), (2, _), (3, _), (4, _), (5, _)]) rfl
              clear h499 h461 h463 h465 h467 h469 h472 h475 h478 h481 h483 h485 h488 h491 h494 h497 a456 a464 a466 a468 a470 a473 a476 a479 a482 a484 a486 a489 a492 a495 a498
              refine wpList_nil ?_
              refine hK462 _ _ ?_
              rcases Bool.eq_false_or_eq_true (((decide ((f4 x410).k = 0)) && (decide ((f4 x410).c ≠ client))) && (decide ((f4 x410).i = inode))) with hc502 | hc502
              · skip
                have hp503 : (((f4 x410).k = 0) ∧ ((f4 x410).c ≠ client)) ∧ ((f4 x410).i = inode) := (And.intro (And.intro (of_decide_eq_true (andT (andT hc502).1).1) (of_decide_eq_true (andT (andT hc502).1).2)) (of_decide_eq_true (andT hc502).2))
                refine wp_condS h501 rfl hc502 ?_
                simp only [if_true]
                have h504 := h501.subs (l' := [(21, _), (20, _), (19, _), (18, _), (17, _), (15, _), (14, _), (13, _), (12, _), (0, _), (1, _), (2, _), (3, _), (4, _), (5, _)]) rfl
                clear h501
                refine wp_seq_k fun K505 hK505 => ?_
                refine wp_region_lit ?_
                refine sv h504 (wanted_none rfl) rfl rfl rfl (v := .pointer (some ⟨tg, 0, none⟩)) (rmove h504 rfl rfl) fun a507 h506 => ?_
                refine sv h506 (wanted_none rfl) rfl rfl rfl (v := .pointer (some ⟨g447, 1, none⟩)) (rfa h506 rfl rfl (fun w => fa_commonslaw19_Deed_lm1_1 g447 0 w)) fun a509 h508 => ?_
                refine sw h508 (wanted_none rfl) rfl rfl rfl (v := .int .i64 ((f4 x410).now)) (rld h508 rfl rfl (ldB Try.underlying3 rfl (s458.get 0 rfl : Blk _ _ _ _) rfl)) fun a511 h510 => ?_
                refine sv h510 (wanted_none rfl) rfl rfl rfl (v := .int .i64 (((f4 x410).now).tmod 64)) (rbin h510 rfl rfl rfl (bRem _ _ _ (by decide) rfl)) fun a513 h512 => ?_
                refine sv h512 (wanted_none rfl) rfl rfl rfl (v := .pointer (some ⟨g447, 2, none⟩)) (rfa h512 rfl rfl (fun w => fa_commonslaw19_Deed_lm1_2 g447 0 w)) fun a515 h514 => ?_
                refine sw h514 (wanted_none rfl) rfl rfl rfl (v := .int .i64 ((f4 x410).c)) (rld h514 rfl rfl (ldB Try.underlying3 rfl (s458.get 0 rfl : Blk _ _ _ _) rfl)) fun a517 h516 => ?_
                refine sv h516 (wanted_none rfl) rfl rfl rfl (v := .pointer (some ⟨g447, 3, none⟩)) (rfa h516 rfl rfl (fun w => fa_commonslaw19_Deed_lm1_3 g447 0 w)) fun a519 h518 => ?_
                refine sw h518 (wanted_none rfl) rfl rfl rfl (v := .int .i64 ((f4 x410).i)) (rld h518 rfl rfl (ldB Try.underlying3 rfl (s458.get 0 rfl : Blk _ _ _ _) rfl)) fun a521 h520 => ?_
                refine sv h520 (wanted_none rfl) rfl rfl rfl (v := .pointer (some ⟨g447, 4, none⟩)) (rfa h520 rfl rfl (fun w => fa_commonslaw19_Deed_lm1_4 g447 0 w)) fun a523 h522 => ?_
                refine sw h522 (wanted_none rfl) rfl rfl rfl (v := .bool ((f4 x410).own)) (rld h522 rfl rfl (ldB Try.underlying4 rfl (s458.get 0 rfl : Blk _ _ _ _) rfl)) fun a525 h524 => ?_
                refine so (wanted_none rfl) fun K537 hK537 => xcall h524 rfl rfl rfl (xs := [.tmp 142, .tmp 145, .tmp 147, .tmp 149, .tmp 151]) rfl cp_lease_Table_Ask_lm1 rfl (vs := [.pointer (some ⟨tg, 0, none⟩), .int .i64 (((f4 x410).now).tmod 64), .int .i64 ((f4 x410).c), .int .i64 ((f4 x410).i), .bool ((f4 x410).own)]) rfl (args := #[.pointer (some ⟨tg, 0, none⟩), .int .i64 (((f4 x410).now).tmod 64), .int .i64 ((f4 x410).c), .int .i64 ((f4 x410).i), .bool ((f4 x410).own)]) rfl (askOther_s (tg := tg) (gm := gm) (wm := wm) (R := [blkC g447 29 [.int .i64 ((f4 x410).k), .int .i64 ((f4 x410).now), .int .i64 ((f4 x410).c), .int .i64 ((f4 x410).i), .bool ((f4 x410).own)], oldC W W.heap.size]) (t := 64) ((s458.pick [1, 2, 3, 0, 4] (by decide) rfl) : Sep _ [blkC tg 54 [.map (some gm), .map (some wm)], mapC KG gm nx411 (dropsG client (askG ((runT (fun i => d0 (f i)) k46).1) ((runT (fun i => d0 (f i)) k46).2) 0 client inode own) kd343), mapC KW wm mx412 (dropsW client (askW ((runT (fun i => d0 (f i)) k46).1) ((runT (fun i => d0 (f i)) k46).2) 0 client inode own) kd343), blkC g447 29 [.int .i64 ((f4 x410).k), .int .i64 ((f4 x410).now), .int .i64 ((f4 x410).c), .int .i64 ((f4 x410).i), .bool ((f4 x410).own)], oldC W W.heap.size]) (dropsG_ok hok285 _) (by omega) (by omega) (f4 x410).own (dropsW_some hl331c _) hp503.2 hp503.1.2 (by have := tmod_bd ((f4 x410).now); omega)) fun a532 v533 w534 r535 h531 => hK537 _ _ ?_
                clear hK537 K537
                obtain ⟨lax526, lcx527, nx528, mx529, ex530, rfl, s536, he535, hn535, hm535⟩ := r535
                refine sv h531 (wanted_none rfl) rfl rfl rfl (v := .tuple #[.slice lax526 ((askLst (dropsG client (askG ((runT (fun i => d0 (f i)) k46).1) ((runT (fun i => d0 (f i)) k46).2) 0 client inode own) kd343) (((f4 x410).now).tmod 64) ((f4 x410).c) ((f4 x410).i) ((f4 x410).own)).length) lcx527, .int .i64 ex530]) (rmove h531 rfl rfl) fun a539 h538 => ?_
                refine sv h538 (wanted_none rfl) rfl rfl rfl (v := .slice lax526 ((askLst (dropsG client (askG ((runT (fun i => d0 (f i)) k46).1) ((runT (fun i => d0 (f i)) k46).2) 0 client inode own) kd343) (((f4 x410).now).tmod 64) ((f4 x410).c) ((f4 x410).i) ((f4 x410).own)).length) lcx527) (rext h538 rfl rfl rfl) fun a541 h540 => ?_
                refine sv h540 (wanted_none rfl) rfl rfl rfl (v := .int .i64 ex530) (rext h540 rfl rfl rfl) fun a543 h542 => ?_
                refine sv h542 (wanted_none rfl) rfl rfl rfl (v := .slice lax526 ((askLst (dropsG client (askG ((runT (fun i => d0 (f i)) k46).1) ((runT (fun i => d0 (f i)) k46).2) 0 client inode own) kd343) (((f4 x410).now).tmod 64) ((f4 x410).c) ((f4 x410).i) ((f4 x410).own)).length) lcx527) (rassign h542 rfl rfl) fun a545 h544 => ?_
                refine sv h544 (wanted_none rfl) rfl rfl rfl (v := .int .i64 ex530) (rassign h544 rfl rfl) fun a547 h546 => ?_
                have h548 := h546.subs (l' := [(23, _), (21, _), (20, _), (19, _), (18, _), (17, _), (15, _), (14, _), (13, _), (12, _), (0, _), (1, _), (2, _), (3, _), (4, _), (5, _)]) rfl
                clear h546 h504 h506 h508 h510 h512 h514 h516 h518 h520 h522 h524 h531 h538 h540 h542 h544 a500 a507 a509 a511 a513 a515 a517 a519 a521 a523 a525 a532 a539 a541 a543 a545
                refine wpList_nil ?_
                refine hK505 _ _ ?_
                refine wp_seq_k fun K549 hK549 => ?_
                refine wp_region_lit ?_
                refine sv h548 (wanted_none rfl) rfl rfl rfl (v := .int .i64 ex530) (rmove h548 rfl rfl) fun a551 h550 => ?_
                refine sv h550 (wanted_none rfl) rfl rfl rfl (v := .bool false) (rbin h550 rfl rfl rfl (cEq _ _ _ _ (decide_eq_false (by omega)))) fun a553 h552 => ?_
                have h554 := h552.subs (l' := [(156, _), (23, _), (21, _), (20, _), (19, _), (18, _), (17, _), (15, _), (14, _), (13, _), (12, _), (0, _), (1, _), (2, _), (3, _), (4, _), (5, _)]) rfl
                clear h552 h548 h550 a547 a551
                refine wpList_nil ?_
                refine hK549 _ _ ?_
                refine wp_condS h554 rfl rfl ?_
                simp only [Bool.false_eq_true, if_false]
                have h555 := h554.subs (l' := [(23, _), (21, _), (20, _), (19, _), (18, _), (17, _), (15, _), (14, _), (13, _), (12, _), (0, _), (1, _), (2, _), (3, _), (4, _), (5, _)]) rfl
                clear h554
                refine wp_skip ?_
                refine hK437 _ _ ?_
                refine wp_region_lit ?_
                refine sv h555 (wanted_none rfl) rfl rfl rfl (v := .int .i64 (x410 : Int)) (rmove h555 rfl rfl) fun a557 h556 => ?_
                refine sv h556 (wanted_none rfl) rfl rfl rfl (v := .int .i64 ((x410 + 1 : Nat) : Int)) (rbin h556 rfl rfl rfl (bAdd _ _ _ (by omega) (by omega) (by omega))) fun a559 h558 => ?_
                have h560 := h558.subs (l' := [(121, _), (120, _), (23, _), (21, _), (19, _), (18, _), (17, _), (15, _), (14, _), (13, _), (12, _), (0, _), (1, _), (2, _), (3, _), (4, _), (5, _)]) rfl
                clear h558 h555 h556 a553 a557
                refine sv h560 (wanted_none rfl) rfl rfl rfl (v := .int .i64 ((x410 + 1 : Nat) : Int)) (rassign h560 rfl rfl) fun a562 h561 => ?_
                have h563 := h561.subs (l' := [(20, _), (23, _), (21, _), (19, _), (18, _), (17, _), (15, _), (14, _), (13, _), (12, _), (0, _), (1, _), (2, _), (3, _), (4, _), (5, _)]) rfl
                clear h561 h560 a559
                refine wpList_nil ?_
                exact hK406 (x410 + 1) nx528 mx529 _ _ ⟨h563.subs rfl, (s536.pick [0, 1, 2, 4] (by decide) rfl), by omega, by omega, by omega⟩ (by omega)
              · skip
                have hp564 : ((¬ ((f4 x410).k = 0)) ∨ (¬ ((f4 x410).c ≠ client))) ∨ (¬ ((f4 x410).i = inode)) := ((andF hc502).imp (fun q => ((andF q).imp (fun q => (of_decide_eq_false q)) (fun q => (of_decide_eq_false q)))) (fun q => (of_decide_eq_false q)))
                refine wp_condS h501 rfl hc502 ?_
                simp only [Bool.false_eq_true, if_false]
                have h565 := h501.subs (l' := [(21, _), (20, _), (19, _), (18, _), (17, _), (15, _), (14, _), (13, _), (12, _), (0, _), (1, _), (2, _), (3, _), (4, _), (5, _)]) rfl
                clear h501
                refine wp_skip ?_
                refine hK437 _ _ ?_
                refine wp_region_lit ?_
                refine sv h565 (wanted_none rfl) rfl rfl rfl (v := .int .i64 (x410 : Int)) (rmove h565 rfl rfl) fun a567 h566 => ?_
                refine sv h566 (wanted_none rfl) rfl rfl rfl (v := .int .i64 ((x410 + 1 : Nat) : Int)) (rbin h566 rfl rfl rfl (bAdd _ _ _ (by omega) (by omega) (by omega))) fun a569 h568 => ?_
                have h570 := h568.subs (l' := [(121, _), (120, _), (21, _), (19, _), (18, _), (17, _), (15, _), (14, _), (13, _), (12, _), (0, _), (1, _), (2, _), (3, _), (4, _), (5, _)]) rfl
                clear h568 h565 h566 a500 a567
                refine sv h570 (wanted_none rfl) rfl rfl rfl (v := .int .i64 ((x410 + 1 : Nat) : Int)) (rassign h570 rfl rfl) fun a572 h571 => ?_
                have h573 := h571.subs (l' := [(20, _), (21, _), (19, _), (18, _), (17, _), (15, _), (14, _), (13, _), (12, _), (0, _), (1, _), (2, _), (3, _), (4, _), (5, _)]) rfl
                clear h571 h570 a569
                refine wpList_nil ?_
                exact hK406 (x410 + 1) nx411 mx412 _ _ ⟨h573.subs rfl, (s458.pick [1, 2, 3, 4] (by decide) rfl), by omega, by omega, by omega⟩ (by omega)
            · skip
              have hp574 : (¬ ((x410 : Int) < (n4 : Int))) ∨ (¬ ((x410 : Int) < 20)) := ((andF hc434).imp (fun q => (of_decide_eq_false q)) (fun q => (of_decide_eq_false q)))
              refine wp_condS h433 rfl hc434 ?_
              simp only [Bool.false_eq_true, if_false]
              have h575 := h433.subs (l' := [(20, _), (19, _), (18, _), (17, _), (15, _), (14, _), (13, _), (12, _), (0, _), (1, _), (2, _), (3, _), (4, _), (5, _)]) rfl
              clear h433
              refine wp_exit ?_
              refine hK398 _ _ ?_
              refine wp_seq_k fun K576 hK576 => ?_
              refine wp_seq_k fun K577 hK577 => ?_
              refine wp_region_lit ?_
              refine sv h575 (wanted_none rfl) rfl rfl rfl (v := .int .i64 later) (rmove h575 rfl rfl) fun a579 h578 => ?_
              refine sv h578 (wanted_none rfl) rfl rfl rfl (v := .bool (decide (later < 0))) (rbin h578 rfl rfl rfl (cLt _ _ _ _ rfl)) fun a581 h580 => ?_
              have h582 := h580.subs (l' := [(158, _), (20, _), (19, _), (18, _), (17, _), (15, _), (14, _), (13, _), (12, _), (0, _), (1, _), (2, _), (3, _), (4, _), (5, _)]) rfl
              clear h580 h575 h578 a432 a579
              refine wpList_nil ?_
              refine hK577 _ _ ?_
              rcases Bool.eq_false_or_eq_true (decide (later < 0)) with hc583 | hc583
              · skip
                have hp584 : later < 0 := (of_decide_eq_true hc583)
                refine wp_condS h582 rfl hc583 ?_
                simp only [if_true]
                have h585 := h582.subs (l' := [(20, _), (19, _), (18, _), (17, _), (15, _), (14, _), (13, _), (12, _), (0, _), (1, _), (2, _), (3, _), (4, _), (5, _)]) rfl
                clear h582
                refine wp_region_lit ?_
                refine sv h585 (wanted_none rfl) rfl rfl rfl (v := .int .i64 later) (rmove h585 rfl rfl) fun a587 h586 => ?_
                refine sv h586 (wanted_none rfl) rfl rfl rfl (v := .int .i64 (later + 1)) (rbin h586 rfl rfl rfl (bAdd _ _ _ (by omega) (by omega) (by omega))) fun a589 h588 => ?_
                refine sv h588 (wanted_none rfl) rfl rfl rfl (v := .int .i64 (-(later + 1))) (rneg h588 rfl rfl rfl (by omega) (by omega)) fun a591 h590 => ?_
                have h592 := h590.subs (l' := [(161, _), (160, _), (159, _), (20, _), (19, _), (18, _), (17, _), (15, _), (14, _), (13, _), (12, _), (0, _), (1, _), (2, _), (3, _), (4, _)]) rfl
                clear h590 h585 h586 h588 a581 a587 a589
                refine sv h592 (wanted_none rfl) rfl rfl rfl (v := .int .i64 (-(later + 1))) (rassign h592 rfl rfl) fun a594 h593 => ?_
                have h595 := h593.subs (l' := [(5, _), (20, _), (19, _), (18, _), (17, _), (15, _), (14, _), (13, _), (12, _), (0, _), (1, _), (2, _), (3, _), (4, _)]) rfl
                clear h593 h592 a591
                refine wpList_nil ?_
                refine hK576 _ _ ?_
                refine wp_seq_k fun K596 hK596 => ?_
                refine wp_region_lit ?_
                refine sv h595 (wanted_none rfl) rfl rfl rfl (v := .pointer (some ⟨tg, 0, none⟩)) (rmove h595 rfl rfl) fun a598 h597 => ?_
                refine sv h597 (wanted_none rfl) rfl rfl rfl (v := .int .i64 (-(later + 1))) (rmove h597 rfl rfl) fun a600 h599 => ?_
                refine sv h599 (wanted_none rfl) rfl rfl rfl (v := .int .i64 ((-(later + 1)).tmod 64)) (rbin h599 rfl rfl rfl (bRem _ _ _ (by decide) rfl)) fun a602 h601 => ?_
                refine sv h601 (wanted_none rfl) rfl rfl rfl (v := .int .i64 client) (rmove h601 rfl rfl) fun a604 h603 => ?_
                refine sv h603 (wanted_none rfl) rfl rfl rfl (v := .int .i64 inode) (rmove h603 rfl rfl) fun a606 h605 => ?_
                refine sv h605 (wanted_none rfl) rfl rfl rfl (v := .bool own) (rmove h605 rfl rfl) fun a608 h607 => ?_
                refine so (wanted_none rfl) fun K619 hK619 => xcall h607 rfl rfl rfl (xs := [.tmp 163, .tmp 165, .tmp 166, .tmp 167, .tmp 168]) rfl cp_lease_Table_Ask_lm1 rfl (vs := [.pointer (some ⟨tg, 0, none⟩), .int .i64 ((-(later + 1)).tmod 64), .int .i64 client, .int .i64 inode, .bool own]) rfl (args := #[.pointer (some ⟨tg, 0, none⟩), .int .i64 ((-(later + 1)).tmod 64), .int .i64 client, .int .i64 inode, .bool own]) rfl (askLast_s (tg := tg) (gm := gm) (wm := wm) (R := [oldC W W.heap.size]) (t := 64) (s405 : Sep _ [blkC tg 54 [.map (some gm), .map (some wm)], mapC KG gm nx411 (dropsG client (askG ((runT (fun i => d0 (f i)) k46).1) ((runT (fun i => d0 (f i)) k46).2) 0 client inode own) kd343), mapC KW wm mx412 (dropsW client (askW ((runT (fun i => d0 (f i)) k46).1) ((runT (fun i => d0 (f i)) k46).2) 0 client inode own) kd343), oldC W W.heap.size]) (dropsG_ok hok285 _) (by omega) (by omega) own (dropsW_some hl331c _) (fun _ hq => dropsG_none hok285 (by omega) hq) (by omega) (by omega) (by have := Int.tmod_nonneg (a := (-(later + 1))) 64 (by omega); have := tmod_bd (-(later + 1)); omega)) fun a614 v615 w616 r617 h613 => hK619 _ _ ?_
                clear hK619 K619
                obtain ⟨lax609, lcx610, nx611, mx612, rfl, s618⟩ := r617
                refine sv h613 (wanted_none rfl) rfl rfl rfl (v := .tuple #[.slice lax609 ((askLst (dropsG client (askG ((runT (fun i => d0 (f i)) k46).1) ((runT (fun i => d0 (f i)) k46).2) 0 client inode own) kd343) ((-(later + 1)).tmod 64) client inode own).length) lcx610, .int .i64 0]) (rmove h613 rfl rfl) fun a621 h620 => ?_
                refine sv h620 (wanted_none rfl) rfl rfl rfl (v := .slice lax609 ((askLst (dropsG client (askG ((runT (fun i => d0 (f i)) k46).1) ((runT (fun i => d0 (f i)) k46).2) 0 client inode own) kd343) ((-(later + 1)).tmod 64) client inode own).length) lcx610) (rext h620 rfl rfl rfl) fun a623 h622 => ?_
                refine sv h622 (wanted_none rfl) rfl rfl rfl (v := .int .i64 0) (rext h622 rfl rfl rfl) fun a625 h624 => ?_
                refine sv h624 (wanted_none rfl) rfl rfl rfl (v := .slice lax609 ((askLst (dropsG client (askG ((runT (fun i => d0 (f i)) k46).1) ((runT (fun i => d0 (f i)) k46).2) 0 client inode own) kd343) ((-(later + 1)).tmod 64) client inode own).length) lcx610) (rassign h624 rfl rfl) fun a627 h626 => ?_
                refine sv h626 (wanted_none rfl) rfl rfl rfl (v := .int .i64 0) (rassign h626 rfl rfl) fun a629 h628 => ?_
                have h630 := h628.subs (l' := [(25, _), (5, _), (20, _), (19, _), (18, _), (17, _), (15, _), (14, _), (13, _), (12, _), (0, _), (1, _), (2, _), (3, _), (4, _)]) rfl
                clear h628 h595 h597 h599 h601 h603 h605 h607 h613 h620 h622 h624 h626 a594 a598 a600 a602 a604 a606 a608 a614 a621 a623 a625 a627
                refine wpList_nil ?_
                refine hK596 _ _ ?_
                refine wp_seq_k fun K631 hK631 => ?_
                refine wp_region_lit ?_
                refine sv h630 (wanted_none rfl) rfl rfl rfl (v := .pointer (some ⟨tg, 0, none⟩)) (rmove h630 rfl rfl) fun a633 h632 => ?_
                refine sv h632 (wanted_none rfl) rfl rfl rfl (v := .int .i64 client) (rmove h632 rfl rfl) fun a635 h634 => ?_
                refine sv h634 (wanted_none rfl) rfl rfl rfl (v := .int .i64 inode) (rmove h634 rfl rfl) fun a637 h636 => ?_
                refine so (wanted_none rfl) fun K644 hK644 => xcall h636 rfl rfl rfl (xs := [.tmp 173, .tmp 174, .tmp 175]) rfl cp_lease_Table_Find_lm1 rfl (vs := [.pointer (some ⟨tg, 0, none⟩), .int .i64 client, .int .i64 inode]) rfl (args := #[.pointer (some ⟨tg, 0, none⟩), .int .i64 client, .int .i64 inode]) rfl (findOwn_s (tg := tg) (gm := gm) (wm := wm) (R := [oldC W W.heap.size]) (s618 : Sep _ [blkC tg 54 [.map (some gm), .map (some wm)], mapC KG gm nx611 (updG (dropsG client (askG ((runT (fun i => d0 (f i)) k46).1) ((runT (fun i => d0 (f i)) k46).2) 0 client inode own) kd343) (client, inode) (some (own, (-(later + 1)).tmod 64 + 64))), mapC KW wm mx612 (askW (dropsG client (askG ((runT (fun i => d0 (f i)) k46).1) ((runT (fun i => d0 (f i)) k46).2) 0 client inode own) kd343) (dropsW client (askW ((runT (fun i => d0 (f i)) k46).1) ((runT (fun i => d0 (f i)) k46).2) 0 client inode own) kd343) ((-(later + 1)).tmod 64) client inode own), oldC W W.heap.size]) ⟨wf_i64 (by omega) (by omega), wf_i64 (by omega) (by omega)⟩) fun a639 v640 w641 r642 h638 => hK644 _ _ ?_
                clear hK644 K644
                obtain ⟨rfl, s643⟩ := r642
                refine sv h638 (wanted_none rfl) rfl rfl rfl (v := .tuple #[.agg #[.int .i64 client, .int .i64 inode, .bool own, .int .i64 ((-(later + 1)).tmod 64 + 64)], .bool true]) (rmove h638 rfl rfl) fun a646 h645 => ?_
                refine sv h645 (wanted_none rfl) rfl rfl rfl (v := .agg #[.int .i64 client, .int .i64 inode, .bool own, .int .i64 ((-(later + 1)).tmod 64 + 64)]) (rext h645 rfl rfl rfl) fun a648 h647 => ?_
                refine sv h647 (wanted_none rfl) rfl rfl rfl (v := .bool true) (rext h647 rfl rfl rfl) fun a650 h649 => ?_
                refine so (wanted_none rfl) fun K658 hK658 => xalloc h649 rfl rfl rfl rfl (z := [.int .i64 0, .int .i64 0, .bool false, .int .i64 0]) (fun _ => rfl) s643 fun a653 g651 w654 h652 s655 b656 e657 => hK658 _ _ ?_
                clear hK658 K658
                clear b656 e657
                refine so (wanted_none rfl) fun K664 hK664 => xstore h652 rfl rfl s655 0 rfl rfl rfl [.int .i64 client, .int .i64 inode, .bool own, .int .i64 ((-(later + 1)).tmod 64 + 64)] rfl (by kernel_rfl) rfl (by show 0 + 4 ≤ 4; decide) (L' := [.int .i64 client, .int .i64 inode, .bool own, .int .i64 ((-(later + 1)).tmod 64 + 64)]) rfl (cs' := [blkC g651 36 [.int .i64 client, .int .i64 inode, .bool own, .int .i64 ((-(later + 1)).tmod 64 + 64)], blkC tg 54 [.map (some gm), .map (some wm)], mapC KG gm nx611 (updG (dropsG client (askG ((runT (fun i => d0 (f i)) k46).1) ((runT (fun i => d0 (f i)) k46).2) 0 client inode own) kd343) (client, inode) (some (own, (-(later + 1)).tmod 64 + 64))), mapC KW wm mx612 (askW (dropsG client (askG ((runT (fun i => d0 (f i)) k46).1) ((runT (fun i => d0 (f i)) k46).2) 0 client inode own) kd343) (dropsW client (askW ((runT (fun i => d0 (f i)) k46).1) ((runT (fun i => d0 (f i)) k46).2) 0 client inode own) kd343) ((-(later + 1)).tmod 64) client inode own), oldC W W.heap.size]) rfl fun a660 w661 h659 s662 t663 => hK664 _ _ ?_
                clear hK664 K664
                clear t663
                refine sv h659 (wanted_none rfl) rfl rfl rfl (v := .bool true) (rassign h659 rfl rfl) fun a666 h665 => ?_
                have h667 := h665.subs (l' := [(27, _), (26, _), (25, _), (5, _), (20, _), (19, _), (18, _), (17, _), (15, _), (14, _), (13, _), (12, _), (0, _), (1, _), (2, _), (3, _), (4, _)]) rfl
                clear h665 h630 h632 h634 h636 h638 h645 h647 h649 h652 h659 a629 a633 a635 a637 a639 a646 a648 a650 a653 a660
                refine wpList_nil ?_
                refine hK631 _ _ ?_
                refine wp_seq_k fun K668 hK668 => ?_
                refine wp_region_lit ?_
                refine sv h667 (wanted_none rfl) rfl rfl rfl (v := .int .i64 (askE ((runT (fun i => d0 (f i)) k46).1) ((runT (fun i => d0 (f i)) k46).2) 0 client inode own)) (rmove h667 rfl rfl) fun a670 h669 => ?_
                refine sv h669 (wanted_none rfl) rfl rfl rfl (v := .bool true) (rbin h669 rfl rfl rfl (cEq _ _ _ _ (decide_eq_true (by omega)))) fun a672 h671 => ?_
                refine sv h671 (wanted_none rfl) rfl rfl rfl (v := .bool true) (rmove h671 rfl rfl) fun a674 h673 => ?_
                refine sv h673 (wT h673 (E := true) rfl rfl rfl) rfl rfl rfl (v := .slice lax274 ((askLst ((runT (fun i => d0 (f i)) k46).1) 0 client inode own).length) lcx275) (rmove h673 rfl rfl) fun a676 h675 => ?_
                refine sv h675 (wT h675 (E := true) rfl rfl rfl) rfl rfl rfl (v := .int .i64 (((askLst ((runT (fun i => d0 (f i)) k46).1) 0 client inode own).length : Nat) : Int)) (rlenS h675 rfl rfl Try.underlying38) fun a678 h677 => ?_
                refine sv h677 (wT h677 (E := true) rfl rfl rfl) rfl rfl rfl (v := .bool true) (rbin h677 rfl rfl rfl (cGt _ _ _ _ (decide_eq_true (by omega)))) fun a680 h679 => ?_
                refine sv h679 (wanted_none rfl) rfl rfl rfl (v := .bool true) (rpick h679 rfl rfl rfl) fun a682 h681 => ?_
                refine sv h681 (wanted_none rfl) rfl rfl rfl (v := .bool true) (rmove h681 rfl rfl) fun a684 h683 => ?_
                refine sv h683 (wT h683 (E := true) rfl rfl rfl) rfl rfl rfl (v := .int .i64 0) (rmove h683 rfl rfl) fun a686 h685 => ?_
                refine sv h685 (wT h685 (E := true) rfl rfl rfl) rfl rfl rfl (v := .bool true) (rbin h685 rfl rfl rfl (cEq _ _ _ _ rfl)) fun a688 h687 => ?_
                refine sv h687 (wanted_none rfl) rfl rfl rfl (v := .bool true) (rpick h687 rfl rfl rfl) fun a690 h689 => ?_
                refine sv h689 (wanted_none rfl) rfl rfl rfl (v := .bool true) (rmove h689 rfl rfl) fun a692 h691 => ?_
                refine sv h691 (wT h691 (E := true) rfl rfl rfl) rfl rfl rfl (v := .bool true) (rmove h691 rfl rfl) fun a694 h693 => ?_
                refine sv h693 (wanted_none rfl) rfl rfl rfl (v := .bool true) (rpick h693 rfl rfl rfl) fun a696 h695 => ?_
                refine sv h695 (wanted_none rfl) rfl rfl rfl (v := .bool true) (rmove h695 rfl rfl) fun a698 h697 => ?_
                refine sv h697 (wT h697 (E := true) rfl rfl rfl) rfl rfl rfl (v := .pointer (some ⟨g651, 2, none⟩)) (rfa h697 rfl rfl (fun w => fa_lease_Held_lm1_2 g651 0 w)) fun a700 h699 => ?_
                refine sw h699 (wT h699 (E := true) rfl rfl rfl) rfl rfl rfl (v := .bool own) (rld h699 rfl rfl (ldB Try.underlying4 rfl (s662.get 0 rfl : Blk _ _ _ _) rfl)) fun a702 h701 => ?_
                refine sv h701 (wT h701 (E := true) rfl rfl rfl) rfl rfl rfl (v := .bool own) (rmove h701 rfl rfl) fun a704 h703 => ?_
                refine sv h703 (wT h703 (E := true) rfl rfl rfl) rfl rfl rfl (v := .bool true) (rbin h703 rfl rfl rfl (bSame _ Try.underlying4 _ _ _)) fun a706 h705 => ?_
                refine sv h705 (wanted_none rfl) rfl rfl rfl (v := .bool true) (rpick h705 rfl rfl rfl) fun a708 h707 => ?_
                refine sv h707 (wanted_none rfl) rfl rfl rfl (v := .bool true) (rmove h707 rfl rfl) fun a710 h709 => ?_
                refine so (wT h709 (E := true) rfl rfl rfl) fun K717 hK717 => xcall h709 rfl rfl rfl (xs := []) rfl cp_commonslaw19_lives_lm1 rfl (vs := []) rfl (args := #[]) rfl (lives_s (R := [blkC g651 36 [.int .i64 client, .int .i64 inode, .bool own, .int .i64 ((-(later + 1)).tmod 64 + 64)], blkC tg 54 [.map (some gm), .map (some wm)], mapC KG gm nx611 (updG (dropsG client (askG ((runT (fun i => d0 (f i)) k46).1) ((runT (fun i => d0 (f i)) k46).2) 0 client inode own) kd343) (client, inode) (some (own, (-(later + 1)).tmod 64 + 64))), mapC KW wm mx612 (askW (dropsG client (askG ((runT (fun i => d0 (f i)) k46).1) ((runT (fun i => d0 (f i)) k46).2) 0 client inode own) kd343) (dropsW client (askW ((runT (fun i => d0 (f i)) k46).1) ((runT (fun i => d0 (f i)) k46).2) 0 client inode own) kd343) ((-(later + 1)).tmod 64) client inode own), oldC W W.heap.size]) (s662 : Sep _ [blkC g651 36 [.int .i64 client, .int .i64 inode, .bool own, .int .i64 ((-(later + 1)).tmod 64 + 64)], blkC tg 54 [.map (some gm), .map (some wm)], mapC KG gm nx611 (updG (dropsG client (askG ((runT (fun i => d0 (f i)) k46).1) ((runT (fun i => d0 (f i)) k46).2) 0 client inode own) kd343) (client, inode) (some (own, (-(later + 1)).tmod 64 + 64))), mapC KW wm mx612 (askW (dropsG client (askG ((runT (fun i => d0 (f i)) k46).1) ((runT (fun i => d0 (f i)) k46).2) 0 client inode own) kd343) (dropsW client (askW ((runT (fun i => d0 (f i)) k46).1) ((runT (fun i => d0 (f i)) k46).2) 0 client inode own) kd343) ((-(later + 1)).tmod 64) client inode own), oldC W W.heap.size])) fun a712 v713 w714 r715 h711 => hK717 _ _ ?_
                clear hK717 K717
                obtain ⟨rfl, s716⟩ := r715
                refine sv h711 (wanted_none rfl) rfl rfl rfl (v := .bool true) (rpick h711 rfl rfl rfl) fun a719 h718 => ?_
                have h720 := h718.subs (l' := [(201, _), (200, _), (199, _), (198, _), (197, _), (196, _), (195, _), (194, _), (193, _), (192, _), (191, _), (190, _), (189, _), (188, _), (187, _), (186, _), (185, _), (184, _), (183, _), (182, _), (181, _), (180, _), (179, _), (27, _), (26, _), (25, _), (5, _), (20, _), (19, _), (18, _), (17, _), (15, _), (14, _), (13, _), (0, _), (1, _), (2, _), (3, _), (4, _)]) rfl
                clear h718 h667 h669 h671 h673 h675 h677 h679 h681 h683 h685 h687 h689 h691 h693 h695 h697 h699 h701 h703 h705 h707 h709 h711 a666 a670 a672 a674 a676 a678 a680 a682 a684 a686 a688 a690 a692 a694 a696 a698 a700 a702 a704 a706 a708 a710 a712
                refine sv h720 (wanted_none rfl) rfl rfl rfl (v := .bool true) (rassign h720 rfl rfl) fun a722 h721 => ?_
                have h723 := h721.subs (l' := [(12, _), (27, _), (26, _), (25, _), (5, _), (20, _), (19, _), (18, _), (17, _), (15, _), (14, _), (13, _), (0, _), (1, _), (2, _), (3, _), (4, _)]) rfl
                clear h721 h720 a719
                refine wpList_nil ?_
                refine hK668 _ _ ?_
                refine wp_ret ?_
                try simp only [Exit.then, Exit.inBlock]
                refine retR (v := .bool true) (res1 h723 rfl rfl) h723.defs ?_
                exact ⟨rfl, (s716.get 4 rfl : Below _ _ _ ∧ _).1⟩
              · skip
                have hp724 : ¬ (later < 0) := (of_decide_eq_false hc583)
                refine wp_condS h582 rfl hc583 ?_
                simp only [Bool.false_eq_true, if_false]
                have h725 := h582.subs (l' := [(20, _), (19, _), (18, _), (17, _), (15, _), (14, _), (13, _), (12, _), (0, _), (1, _), (2, _), (3, _), (4, _), (5, _)]) rfl
                clear h582
                refine wp_skip ?_
                refine hK576 _ _ ?_
                refine wp_seq_k fun K726 hK726 => ?_
                refine wp_region_lit ?_
                refine sv h725 (wanted_none rfl) rfl rfl rfl (v := .pointer (some ⟨tg, 0, none⟩)) (rmove h725 rfl rfl) fun a728 h727 => ?_
                refine sv h727 (wanted_none rfl) rfl rfl rfl (v := .int .i64 later) (rmove h727 rfl rfl) fun a730 h729 => ?_
                refine sv h729 (wanted_none rfl) rfl rfl rfl (v := .int .i64 (later.tmod 64)) (rbin h729 rfl rfl rfl (bRem _ _ _ (by decide) rfl)) fun a732 h731 => ?_
                refine sv h731 (wanted_none rfl) rfl rfl rfl (v := .int .i64 client) (rmove h731 rfl rfl) fun a734 h733 => ?_
                refine sv h733 (wanted_none rfl) rfl rfl rfl (v := .int .i64 inode) (rmove h733 rfl rfl) fun a736 h735 => ?_
                refine sv h735 (wanted_none rfl) rfl rfl rfl (v := .bool own) (rmove h735 rfl rfl) fun a738 h737 => ?_
                refine so (wanted_none rfl) fun K749 hK749 => xcall h737 rfl rfl rfl (xs := [.tmp 163, .tmp 165, .tmp 166, .tmp 167, .tmp 168]) rfl cp_lease_Table_Ask_lm1 rfl (vs := [.pointer (some ⟨tg, 0, none⟩), .int .i64 (later.tmod 64), .int .i64 client, .int .i64 inode, .bool own]) rfl (args := #[.pointer (some ⟨tg, 0, none⟩), .int .i64 (later.tmod 64), .int .i64 client, .int .i64 inode, .bool own]) rfl (askLast_s (tg := tg) (gm := gm) (wm := wm) (R := [oldC W W.heap.size]) (t := 64) (s405 : Sep _ [blkC tg 54 [.map (some gm), .map (some wm)], mapC KG gm nx411 (dropsG client (askG ((runT (fun i => d0 (f i)) k46).1) ((runT (fun i => d0 (f i)) k46).2) 0 client inode own) kd343), mapC KW wm mx412 (dropsW client (askW ((runT (fun i => d0 (f i)) k46).1) ((runT (fun i => d0 (f i)) k46).2) 0 client inode own) kd343), oldC W W.heap.size]) (dropsG_ok hok285 _) (by omega) (by omega) own (dropsW_some hl331c _) (fun _ hq => dropsG_none hok285 (by omega) hq) (by omega) (by omega) (by have := Int.tmod_nonneg (a := later) 64 (by omega); have := tmod_bd later; omega)) fun a744 v745 w746 r747 h743 => hK749 _ _ ?_
                clear hK749 K749
                obtain ⟨lax739, lcx740, nx741, mx742, rfl, s748⟩ := r747
                refine sv h743 (wanted_none rfl) rfl rfl rfl (v := .tuple #[.slice lax739 ((askLst (dropsG client (askG ((runT (fun i => d0 (f i)) k46).1) ((runT (fun i => d0 (f i)) k46).2) 0 client inode own) kd343) (later.tmod 64) client inode own).length) lcx740, .int .i64 0]) (rmove h743 rfl rfl) fun a751 h750 => ?_
                refine sv h750 (wanted_none rfl) rfl rfl rfl (v := .slice lax739 ((askLst (dropsG client (askG ((runT (fun i => d0 (f i)) k46).1) ((runT (fun i => d0 (f i)) k46).2) 0 client inode own) kd343) (later.tmod 64) client inode own).length) lcx740) (rext h750 rfl rfl rfl) fun a753 h752 => ?_
                refine sv h752 (wanted_none rfl) rfl rfl rfl (v := .int .i64 0) (rext h752 rfl rfl rfl) fun a755 h754 => ?_
                refine sv h754 (wanted_none rfl) rfl rfl rfl (v := .slice lax739 ((askLst (dropsG client (askG ((runT (fun i => d0 (f i)) k46).1) ((runT (fun i => d0 (f i)) k46).2) 0 client inode own) kd343) (later.tmod 64) client inode own).length) lcx740) (rassign h754 rfl rfl) fun a757 h756 => ?_
                refine sv h756 (wanted_none rfl) rfl rfl rfl (v := .int .i64 0) (rassign h756 rfl rfl) fun a759 h758 => ?_
                have h760 := h758.subs (l' := [(25, _), (20, _), (19, _), (18, _), (17, _), (15, _), (14, _), (13, _), (12, _), (0, _), (1, _), (2, _), (3, _), (4, _), (5, _)]) rfl
                clear h758 h725 h727 h729 h731 h733 h735 h737 h743 h750 h752 h754 h756 a581 a728 a730 a732 a734 a736 a738 a744 a751 a753 a755 a757
                refine wpList_nil ?_
                refine hK726 _ _ ?_
                refine wp_seq_k fun K761 hK761 => ?_
                refine wp_region_lit ?_
                refine sv h760 (wanted_none rfl) rfl rfl rfl (v := .pointer (some ⟨tg, 0, none⟩)) (rmove h760 rfl rfl) fun a763 h762 => ?_
                refine sv h762 (wanted_none rfl) rfl rfl rfl (v := .int .i64 client) (rmove h762 rfl rfl) fun a765 h764 => ?_
                refine sv h764 (wanted_none rfl) rfl rfl rfl (v := .int .i64 inode) (rmove h764 rfl rfl) fun a767 h766 => ?_
                refine so (wanted_none rfl) fun K774 hK774 => xcall h766 rfl rfl rfl (xs := [.tmp 173, .tmp 174, .tmp 175]) rfl cp_lease_Table_Find_lm1 rfl (vs := [.pointer (some ⟨tg, 0, none⟩), .int .i64 client, .int .i64 inode]) rfl (args := #[.pointer (some ⟨tg, 0, none⟩), .int .i64 client, .int .i64 inode]) rfl (findOwn_s (tg := tg) (gm := gm) (wm := wm) (R := [oldC W W.heap.size]) (s748 : Sep _ [blkC tg 54 [.map (some gm), .map (some wm)], mapC KG gm nx741 (updG (dropsG client (askG ((runT (fun i => d0 (f i)) k46).1) ((runT (fun i => d0 (f i)) k46).2) 0 client inode own) kd343) (client, inode) (some (own, later.tmod 64 + 64))), mapC KW wm mx742 (askW (dropsG client (askG ((runT (fun i => d0 (f i)) k46).1) ((runT (fun i => d0 (f i)) k46).2) 0 client inode own) kd343) (dropsW client (askW ((runT (fun i => d0 (f i)) k46).1) ((runT (fun i => d0 (f i)) k46).2) 0 client inode own) kd343) (later.tmod 64) client inode own), oldC W W.heap.size]) ⟨wf_i64 (by omega) (by omega), wf_i64 (by omega) (by omega)⟩) fun a769 v770 w771 r772 h768 => hK774 _ _ ?_
                clear hK774 K774
                obtain ⟨rfl, s773⟩ := r772
                refine sv h768 (wanted_none rfl) rfl rfl rfl (v := .tuple #[.agg #[.int .i64 client, .int .i64 inode, .bool own, .int .i64 (later.tmod 64 + 64)], .bool true]) (rmove h768 rfl rfl) fun a776 h775 => ?_
                refine sv h775 (wanted_none rfl) rfl rfl rfl (v := .agg #[.int .i64 client, .int .i64 inode, .bool own, .int .i64 (later.tmod 64 + 64)]) (rext h775 rfl rfl rfl) fun a778 h777 => ?_
                refine sv h777 (wanted_none rfl) rfl rfl rfl (v := .bool true) (rext h777 rfl rfl rfl) fun a780 h779 => ?_
                refine so (wanted_none rfl) fun K788 hK788 => xalloc h779 rfl rfl rfl rfl (z := [.int .i64 0, .int .i64 0, .bool false, .int .i64 0]) (fun _ => rfl) s773 fun a783 g781 w784 h782 s785 b786 e787 => hK788 _ _ ?_
                clear hK788 K788
                clear b786 e787
                refine so (wanted_none rfl) fun K794 hK794 => xstore h782 rfl rfl s785 0 rfl rfl rfl [.int .i64 client, .int .i64 inode, .bool own, .int .i64 (later.tmod 64 + 64)] rfl (by kernel_rfl) rfl (by show 0 + 4 ≤ 4; decide) (L' := [.int .i64 client, .int .i64 inode, .bool own, .int .i64 (later.tmod 64 + 64)]) rfl (cs' := [blkC g781 36 [.int .i64 client, .int .i64 inode, .bool own, .int .i64 (later.tmod 64 + 64)], blkC tg 54 [.map (some gm), .map (some wm)], mapC KG gm nx741 (updG (dropsG client (askG ((runT (fun i => d0 (f i)) k46).1) ((runT (fun i => d0 (f i)) k46).2) 0 client inode own) kd343) (client, inode) (some (own, later.tmod 64 + 64))), mapC KW wm mx742 (askW (dropsG client (askG ((runT (fun i => d0 (f i)) k46).1) ((runT (fun i => d0 (f i)) k46).2) 0 client inode own) kd343) (dropsW client (askW ((runT (fun i => d0 (f i)) k46).1) ((runT (fun i => d0 (f i)) k46).2) 0 client inode own) kd343) (later.tmod 64) client inode own), oldC W W.heap.size]) rfl fun a790 w791 h789 s792 t793 => hK794 _ _ ?_
                clear hK794 K794
                clear t793
                refine sv h789 (wanted_none rfl) rfl rfl rfl (v := .bool true) (rassign h789 rfl rfl) fun a796 h795 => ?_
                have h797 := h795.subs (l' := [(27, _), (26, _), (25, _), (20, _), (19, _), (18, _), (17, _), (15, _), (14, _), (13, _), (12, _), (0, _), (1, _), (2, _), (3, _), (4, _), (5, _)]) rfl
                clear h795 h760 h762 h764 h766 h768 h775 h777 h779 h782 h789 a759 a763 a765 a767 a769 a776 a778 a780 a783 a790
                refine wpList_nil ?_
                refine hK761 _ _ ?_
                refine wp_seq_k fun K798 hK798 => ?_
                refine wp_region_lit ?_
                refine sv h797 (wanted_none rfl) rfl rfl rfl (v := .int .i64 (askE ((runT (fun i => d0 (f i)) k46).1) ((runT (fun i => d0 (f i)) k46).2) 0 client inode own)) (rmove h797 rfl rfl) fun a800 h799 => ?_
                refine sv h799 (wanted_none rfl) rfl rfl rfl (v := .bool true) (rbin h799 rfl rfl rfl (cEq _ _ _ _ (decide_eq_true (by omega)))) fun a802 h801 => ?_
                refine sv h801 (wanted_none rfl) rfl rfl rfl (v := .bool true) (rmove h801 rfl rfl) fun a804 h803 => ?_
                refine sv h803 (wT h803 (E := true) rfl rfl rfl) rfl rfl rfl (v := .slice lax274 ((askLst ((runT (fun i => d0 (f i)) k46).1) 0 client inode own).length) lcx275) (rmove h803 rfl rfl) fun a806 h805 => ?_
                refine sv h805 (wT h805 (E := true) rfl rfl rfl) rfl rfl rfl (v := .int .i64 (((askLst ((runT (fun i => d0 (f i)) k46).1) 0 client inode own).length : Nat) : Int)) (rlenS h805 rfl rfl Try.underlying38) fun a808 h807 => ?_
                refine sv h807 (wT h807 (E := true) rfl rfl rfl) rfl rfl rfl (v := .bool true) (rbin h807 rfl rfl rfl (cGt _ _ _ _ (decide_eq_true (by omega)))) fun a810 h809 => ?_
                refine sv h809 (wanted_none rfl) rfl rfl rfl (v := .bool true) (rpick h809 rfl rfl rfl) fun a812 h811 => ?_
                refine sv h811 (wanted_none rfl) rfl rfl rfl (v := .bool true) (rmove h811 rfl rfl) fun a814 h813 => ?_
                refine sv h813 (wT h813 (E := true) rfl rfl rfl) rfl rfl rfl (v := .int .i64 0) (rmove h813 rfl rfl) fun a816 h815 => ?_
                refine sv h815 (wT h815 (E := true) rfl rfl rfl) rfl rfl rfl (v := .bool true) (rbin h815 rfl rfl rfl (cEq _ _ _ _ rfl)) fun a818 h817 => ?_
                refine sv h817 (wanted_none rfl) rfl rfl rfl (v := .bool true) (rpick h817 rfl rfl rfl) fun a820 h819 => ?_
                refine sv h819 (wanted_none rfl) rfl rfl rfl (v := .bool true) (rmove h819 rfl rfl) fun a822 h821 => ?_
                refine sv h821 (wT h821 (E := true) rfl rfl rfl) rfl rfl rfl (v := .bool true) (rmove h821 rfl rfl) fun a824 h823 => ?_
                refine sv h823 (wanted_none rfl) rfl rfl rfl (v := .bool true) (rpick h823 rfl rfl rfl) fun a826 h825 => ?_
                refine sv h825 (wanted_none rfl) rfl rfl rfl (v := .bool true) (rmove h825 rfl rfl) fun a828 h827 => ?_
                refine sv h827 (wT h827 (E := true) rfl rfl rfl) rfl rfl rfl (v := .pointer (some ⟨g781, 2, none⟩)) (rfa h827 rfl rfl (fun w => fa_lease_Held_lm1_2 g781 0 w)) fun a830 h829 => ?_
                refine sw h829 (wT h829 (E := true) rfl rfl rfl) rfl rfl rfl (v := .bool own) (rld h829 rfl rfl (ldB Try.underlying4 rfl (s792.get 0 rfl : Blk _ _ _ _) rfl)) fun a832 h831 => ?_
                refine sv h831 (wT h831 (E := true) rfl rfl rfl) rfl rfl rfl (v := .bool own) (rmove h831 rfl rfl) fun a834 h833 => ?_
                refine sv h833 (wT h833 (E := true) rfl rfl rfl) rfl rfl rfl (v := .bool true) (rbin h833 rfl rfl rfl (bSame _ Try.underlying4 _ _ _)) fun a836 h835 => ?_
                refine sv h835 (wanted_none rfl) rfl rfl rfl (v := .bool true) (rpick h835 rfl rfl rfl) fun a838 h837 => ?_
                refine sv h837 (wanted_none rfl) rfl rfl rfl (v := .bool true) (rmove h837 rfl rfl) fun a840 h839 => ?_
                refine so (wT h839 (E := true) rfl rfl rfl) fun K847 hK847 => xcall h839 rfl rfl rfl (xs := []) rfl cp_commonslaw19_lives_lm1 rfl (vs := []) rfl (args := #[]) rfl (lives_s (R := [blkC g781 36 [.int .i64 client, .int .i64 inode, .bool own, .int .i64 (later.tmod 64 + 64)], blkC tg 54 [.map (some gm), .map (some wm)], mapC KG gm nx741 (updG (dropsG client (askG ((runT (fun i => d0 (f i)) k46).1) ((runT (fun i => d0 (f i)) k46).2) 0 client inode own) kd343) (client, inode) (some (own, later.tmod 64 + 64))), mapC KW wm mx742 (askW (dropsG client (askG ((runT (fun i => d0 (f i)) k46).1) ((runT (fun i => d0 (f i)) k46).2) 0 client inode own) kd343) (dropsW client (askW ((runT (fun i => d0 (f i)) k46).1) ((runT (fun i => d0 (f i)) k46).2) 0 client inode own) kd343) (later.tmod 64) client inode own), oldC W W.heap.size]) (s792 : Sep _ [blkC g781 36 [.int .i64 client, .int .i64 inode, .bool own, .int .i64 (later.tmod 64 + 64)], blkC tg 54 [.map (some gm), .map (some wm)], mapC KG gm nx741 (updG (dropsG client (askG ((runT (fun i => d0 (f i)) k46).1) ((runT (fun i => d0 (f i)) k46).2) 0 client inode own) kd343) (client, inode) (some (own, later.tmod 64 + 64))), mapC KW wm mx742 (askW (dropsG client (askG ((runT (fun i => d0 (f i)) k46).1) ((runT (fun i => d0 (f i)) k46).2) 0 client inode own) kd343) (dropsW client (askW ((runT (fun i => d0 (f i)) k46).1) ((runT (fun i => d0 (f i)) k46).2) 0 client inode own) kd343) (later.tmod 64) client inode own), oldC W W.heap.size])) fun a842 v843 w844 r845 h841 => hK847 _ _ ?_
                clear hK847 K847
                obtain ⟨rfl, s846⟩ := r845
                refine sv h841 (wanted_none rfl) rfl rfl rfl (v := .bool true) (rpick h841 rfl rfl rfl) fun a849 h848 => ?_
                have h850 := h848.subs (l' := [(201, _), (200, _), (199, _), (198, _), (197, _), (196, _), (195, _), (194, _), (193, _), (192, _), (191, _), (190, _), (189, _), (188, _), (187, _), (186, _), (185, _), (184, _), (183, _), (182, _), (181, _), (180, _), (179, _), (27, _), (26, _), (25, _), (20, _), (19, _), (18, _), (17, _), (15, _), (14, _), (13, _), (0, _), (1, _), (2, _), (3, _), (4, _), (5, _)]) rfl
                clear h848 h797 h799 h801 h803 h805 h807 h809 h811 h813 h815 h817 h819 h821 h823 h825 h827 h829 h831 h833 h835 h837 h839 h841 a796 a800 a802 a804 a806 a808 a810 a812 a814 a816 a818 a820 a822 a824 a826 a828 a830 a832 a834 a836 a838 a840 a842
                refine sv h850 (wanted_none rfl) rfl rfl rfl (v := .bool true) (rassign h850 rfl rfl) fun a852 h851 => ?_
                have h853 := h851.subs (l' := [(12, _), (27, _), (26, _), (25, _), (20, _), (19, _), (18, _), (17, _), (15, _), (14, _), (13, _), (0, _), (1, _), (2, _), (3, _), (4, _), (5, _)]) rfl
                clear h851 h850 a849
                refine wpList_nil ?_
                refine hK798 _ _ ?_
                refine wp_ret ?_
                try simp only [Exit.then, Exit.inBlock]
                refine retR (v := .bool true) (res1 h853 rfl rfl) h853.defs ?_
                exact ⟨rfl, (s846.get 4 rfl : Below _ _ _ ∧ _).1⟩

end Go.Proofs.Ytpalgffmdinfpaa
end
