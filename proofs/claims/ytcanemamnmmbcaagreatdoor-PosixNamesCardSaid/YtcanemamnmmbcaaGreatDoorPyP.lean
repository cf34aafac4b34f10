/- PosixNames (sx/ptL.py) -/
import Derived.Test.YtcanemamnmmbcaaGreatDoorPyO
import Derived.Test.YtcanemamnmmbcaaGreatDoorPxZ
import Derived.Test.YtcanemamnmmbcaaGreatDoorSxU
namespace Go.Proofs.YtcanemamnmmbcaaGreatDoor
open Go.RowKit
set_option linter.unusedSimpArgs false
set_option linter.unusedVariables false
set_option maxRecDepth 100000

theorem doList_e {F : FsM} {X : List UInt8} (h : ¬ (findF F X).1 = 0) : doF F 1 (listX X) = (F, errR (findF F X).1) := by
 show listF F X = _
 unfold listF; rw [if_neg h]
theorem doList_f {F : FsM} {X : List UInt8} (h : (findF F X).1 = 0) (hd : F.dir (findF F X).2 = false) : doF F 1 (listX X) = (F, errR 12) := by
 show listF F X = _
 unfold listF; rw [if_pos h, if_neg (by rw [hd]; exact Bool.false_ne_true)]
theorem doList_d {F : FsM} {X : List UInt8} (h : (findF F X).1 = 0) (hd : F.dir (findF F X).2 = true) : doF F 1 (listX X) = (F, namesR (sortN (namesOf F.E (findF F X).2))) := by
 show listF F X = _
 unfold listF; rw [if_pos h, if_pos hd]
theorem doStat_e {F : FsM} {X : List UInt8} (h : ¬ (findF F X).1 = 0) : doF F 1 (statX X) = (F, errR (findF F X).1) := by
 show statF F X = _
 unfold statF; rw [if_neg h]
theorem doStat_f {F : FsM} {X : List UInt8} (h : (findF F X).1 = 0) (hd : F.dir (findF F X).2 = false) : doF F 1 (statX X) = (F, infoR 1 (F.at (findF F X).2).links (F.at (findF F X).2).data.length) := by
 show statF F X = _
 unfold statF; rw [if_pos h, if_neg (by rw [hd]; exact Bool.false_ne_true)]
theorem doStat_d {F : FsM} {X : List UInt8} (h : (findF F X).1 = 0) (hd : F.dir (findF F X).2 = true) : doF F 1 (statX X) = (F, infoR 2 1 (cntE F.E (findF F X).2)) := by
 show statF F X = _
 unfold statF; rw [if_pos h, if_pos hd]
theorem mayRef_s {w : World} {R : List Ch} {s : ByteArray} (hS : Sep w R) (h : mayN s = true) : CallsR Tryz.prog 23 #[.string s] w (fun v w' => v = .bool true ∧ Sep w' R) :=
 Calls.mono (mayNRef_any s w) fun e w' ⟨e1, e2⟩ => ⟨_, e1, by rw [h], e2 ▸ hS⟩
theorem getD_mem {L : List ByteArray} {i : Nat} (hi : i < L.length) : L.getD i noNm ∈ L := by
 rw [List.getD_eq_getElem?_getD, List.getElem?_eq_getElem hi]; exact List.getElem_mem hi
theorem list_may {F : FsM} {δ : Nat → Int} (h : FsC F δ) {k i : Nat} {L : List ByteArray} (hL : sortN (namesOf F.E k) = L) (hi : i < L.length) : mayN (L.getD i noNm) = true := by
 have hm := getD_mem hi
 rw [← hL] at hm
 exact names_may h ((sortN_perm _).mem_iff.1 (by rw [hL] at hm ⊢; exact hm))
theorem list_up {F : FsM} {δ : Nat → Int} (h : FsC F δ) {k i : Nat} {L : List ByteArray} (hL : sortN (namesOf F.E k) = L) (h0 : 0 < i) (hi : i < L.length) : ltN (L.getD (i - 1) noNm) (L.getD i noNm) = true := by
 have up := sortN_up (namesOf F.E k)
 have nd := (sortN_perm (namesOf F.E k)).nodup_iff.2 (names_nd h.ed k)
 rw [hL] at up nd
 have q := List.pairwise_iff_getElem.1 up (i - 1) i (by omega) hi (by omega)
 have ne := List.pairwise_iff_getElem.1 nd (i - 1) i (by omega) hi (by omega)
 rw [List.getD_eq_getElem?_getD, List.getD_eq_getElem?_getD, List.getElem?_eq_getElem hi, List.getElem?_eq_getElem (show i - 1 < L.length by omega)]
 refine decide_eq_true ?_
 rcases List.le_iff_lt_or_eq.1 q with q | q
 ·exact q
 ·exact absurd (ByteArray.ext (Array.toList_inj.1 q)) ne

theorem cp_commonsref05_May_yl1 (args : Array Value) (w : World) : (callFunc 23 args).run Tryz.prog w = .ok (.enter 23 args) w := by
 have h := Tryz.func23
 go_simp
set_option maxHeartbeats 4000000 in
theorem eqS_api_Info_yl1_in (x0 : Int) (x1 : Int) (x2 : Int) (y0 : Int) (y1 : Int) (y2 : Int) (w : World) : (Op.equalIn 10000 35 (.agg #[.int .i64 x0, .int .i64 x1, .int .i64 x2]) (.agg #[.int .i64 y0, .int .i64 y1, .int .i64 y2])).run Tryz.prog w = .ok (decide (x0 = y0) && (decide (x1 = y1) && decide (x2 = y2))) w := by
 have u3 := Tryz.underlying3
 have a3 := Tryz.isAgg3
 have z3 := Tryz.sizeOf3
 have hS : Tryz.prog.underlying 35 = some (.struct (Tryz.prog.fieldsOf 35)) := by kernel_rfl
 have hp : Tryz.prog.stoodInHeld 35 = false := by kernel_rfl
 rw [show (10000 : Nat) = 9999 + 1 from rfl, run_equalIn_agg w 9999 35 _ _ hS hp]
 simp only [Program.fieldsOf, Tryz.underlying35]
 go_simp
 by_cases h0 : x0 = y0
 case neg => simp [h0]
 by_cases h1 : x1 = y1
 case neg => simp [h0, h1]
 by_cases h2 : x2 = y2
 case neg => simp [h0, h1, h2]
 simp [h0, h1, h2]
theorem eqS_api_Info_yl1_eql (o p : Operand) (x0 : Int) (x1 : Int) (x2 : Int) (y0 : Int) (y1 : Int) (y2 : Int) (w : World) : (do eqGuard .eql 35 o p (.agg #[.int .i64 x0, .int .i64 x1, .int .i64 x2]) (.agg #[.int .i64 y0, .int .i64 y1, .int .i64 y2]); binOp .eql 35 (.agg #[.int .i64 x0, .int .i64 x1, .int .i64 x2]) (.agg #[.int .i64 y0, .int .i64 y1, .int .i64 y2]) : Sem Value).run Tryz.prog w = .ok (.bool ((decide (x0 = y0) && (decide (x1 = y1) && decide (x2 = y2))))) w := by
 have e : (Op.equal 35 (.agg #[.int .i64 x0, .int .i64 x1, .int .i64 x2]) (.agg #[.int .i64 y0, .int .i64 y1, .int .i64 y2])).run Tryz.prog w = .ok (decide (x0 = y0) && (decide (x1 = y1) && decide (x2 = y2))) w := eqS_api_Info_yl1_in x0 x1 x2 y0 y1 y2 w
 rw [Sem.run_bind, run_eqGuard_agg (P := Tryz.prog) w .eql 35 o p _ _ (by kernel_rfl)]
 show (binOp .eql 35 _ _).run Tryz.prog w = _
 simp only [binOp, Sem.run_bind, e]
 rfl
theorem fa_api_Info_yl1_0 (g off : Nat) (w : World) : (Instr.fieldAt 35 (.pointer (some ⟨g, off, none⟩)) 0).run Tryz.prog w = .ok (.pointer (some ⟨g, off + 0, none⟩)) w := rfl

set_option maxHeartbeats 4000000 in
theorem PosixNames_walkL (W : World) (a0 : Option Addr) (n0 c0 : Nat) (f : Nat → AskV) (rb : AsksIn W a0 n0 c0 f) (s : List UInt8) :
  Calls Tryz.prog 9 #[.slice a0 n0 c0, .string (strB s)] W fun e W' => e = .returned (.bool true) ∧ Below W.heap.size W W' := by
 have hS : Sep W [oldC W W.heap.size] := Sep.start W
 suffices hZ : CallsR Tryz.prog 9 #[.slice a0 n0 c0, .string (strB s)] W (fun v W' => v = .bool true ∧ Below W.heap.size W W') from Calls.mono hZ fun e W' ⟨v, e1, e2, h⟩ => ⟨by rw [e1, e2], h⟩
 refine enterR Tryz.func9 rfl (N := 103) Tryz.ntmps9 (by show 2 ≤ 103; decide) [(0, .slice a0 n0 c0), (1, .string (strB s))] rfl fun _ h1 => sqr fun _ hK3 => mv h1 rfl fun _ h4 => wpList_nil <| hK3 _ _ <| sqr fun _ hK6 => mv h4 rfl fun _ h7 => cl h7 rfl cz_commonslaw06_played (playedF_s (most := 40) hS rb (by decide)) fun _ v1 w2 r1 h2 => ?_
 obtain ⟨cf, ob, F, Ax9, df, nax10, ncx11, eax12, ecx13, oax14, ocx15, rfl, s1, hA20⟩ := r1
 have hz : SmF F := (hA20.sz.ss (by omega)).sm
 refine mvs 7 h2 rfl fun _ h3 => h3.sn [7,5,4,0,1] rfl fun h5 => hK6 _ _ <| sq fun _ hK1 => sqr fun _ hK2 => mvs 2 h5 rfl fun _ h6 => h6.sn [19,7,5,4,0,1] rfl fun h8 => hK2 _ _ <| wcF h8 rfl rfl <| h8.sk [7,5,4,0,1] rfl fun h9 => wp_skip <| hK1 _ _ ?_
 refine sq fun K1 hK4 => ?_
 have hJ47 : ∀ (X : List UInt8) a' w', Kn 103 [(7, .bool true), (5, .pointer (some ⟨cf, 0, none⟩)), (4, .bool false), (0, .slice a0 n0 c0), (1, .string (strB X))] a' → Sep w' [blkC cf 65 [.pointer (some ⟨(Ax9.ad 0), 0, none⟩), .map (some ob)], nodX F Ax9, mapC KO ob Ax9.C (opG F Ax9), blkC df 51 [.slice nax10 F.N.length ncx11, .slice eax12 F.E.length ecx13, .slice oax14 F.O.length ocx15], ownC 0 88 3 nax10 F.N.length ncx11 (F.N.flatMap nodC), ownC 0 114 3 eax12 F.E.length ecx13 (F.E.flatMap entC), ownC 0 93 3 oax14 F.O.length ocx15 (F.O.flatMap opnC), oldC W W.heap.size] → (X.length ≤ 60) → K1 a' w' := by
  intro X a1 w3 h10 s2 hX
  refine hK4 _ _ ?_
  refine sqr fun _ hK5 => mvs 2 h10 rfl fun _ h11 => bu h11 (v := .agg #[.int .i64 12, .string (strB X), .string (strB []), .int .i64 0, .int .i64 0, .int .i64 0, .int .i64 0, .string (strB [])]) rfl (fun w => by kernel_rfl) fun _ h12 => ?_
  rcases bC (decide ((findF F X).1 = 0)) with hc1 | hc1
  ·skip
   have hp1 : (findF F X).1 = 0 := (dT hc1)
   rcases bC (F.dir (findF F X).2) with hc2 | hc2
   ·skip
    obtain ⟨L, hL⟩ : ∃ L, sortN (namesOf F.E (findF F X).2) = L := ⟨_, rfl⟩
    have hmay : ∀ i, i < L.length → mayN (L.getD i noNm) = true := fun i hi => list_may hA20.ok.toFsC hL hi
    have hup : ∀ i, 0 < i → i < L.length → ltN (L.getD (i - 1) noNm) (L.getD i noNm) = true := fun i h0 hi => list_up hA20.ok.toFsC hL h0 hi
    have hlen : L.length = cntE F.E (findF F X).2 := by rw [← hL, sortN_len, cnt_names]
    have hsm := Nat.le_trans (cntE_le F.E (findF F X).2) hz.2.1
    refine cl h12 rfl cz_posix_Fs_Do (doQ_c (cf := cf) (A := Ax9) (F := F) (n := 40) (x := (⟨12, X, [], 0, 0, 0, 0, []⟩ : CallM)) (G := F) (r := (namesR L)) s2 hA20 (by omega) (Nat.le_trans hX (by decide)) (Nat.zero_le _) (Nat.zero_le _) wf0 (by rw [← hL]; exact doList_d (by omega) hc2)) fun _ v2 w4 r2 h13 => ?_
    obtain ⟨Ax63, sax64, scx65, rfl, s3, hA70⟩ := r2
    refine so (wanted_none rfl) fun _ hK7 => xalloc h13 rfl rfl rfl rfl (z := zL) (fun _ => rfl) s3 fun _ g1 w5 h14 s4 _ _ => hK7 _ _ ?_
    refine stA h14 s4 0 rfl rfl rfl (by kernel_rfl) rfl rfl rfl rfl fun _ w6 h15 s5 _ => h15.sn [8,7,5,4,0,1] rfl fun h16 => hK5 _ _ <| sqr fun _ hK8 => mvs 2 h16 rfl fun _ h17 => bu h17 (v := .agg #[.int .i64 13, .string (strB X), .string (strB []), .int .i64 0, .int .i64 0, .int .i64 0, .int .i64 0, .string (strB [])]) rfl (fun w => by kernel_rfl) fun _ h18 => cl h18 rfl cz_posix_Fs_Do (doQ_c (cf := cf) (A := Ax63) (F := F) (n := 41) (x := (⟨13, X, [], 0, 0, 0, 0, []⟩ : CallM)) (G := F) (r := (infoR 2 1 ((cntE F.E (findF F X).2 : Nat) : Int))) (s5.pk [2,3,4,0,1,5,6,7,8,9] rfl) hA70 (by omega) (Nat.le_trans hX (by decide)) (Nat.zero_le _) (Nat.zero_le _) wf0 (doStat_d (by omega) hc2)) fun _ v3 w7 r3 h19 => ?_
    obtain ⟨Ax95, sax96, scx97, rfl, s6, hA102⟩ := r3
    refine so (wanted_none rfl) fun _ hK9 => xalloc h19 rfl rfl rfl rfl (z := zL) (fun _ => rfl) s6 fun _ g2 w8 h20 s7 _ _ => hK9 _ _ ?_
    refine stA h20 s7 0 rfl rfl rfl (by kernel_rfl) rfl rfl rfl rfl fun _ w9 h21 s8 _ => h21.sn [9,8,7,5,4,0,1] rfl fun h22 => hK8 _ _ <| sq fun _ hK10 => sqr fun _ hK11 => fav h22 rfl (fz_api_Reply_0 _ _) fun _ h23 => ldv h23 (v := .int .i64 0) s8 5 Tryz.underlying32 rfl rfl rfl rfl fun _ h24 => bv h24 rfl (cNe _ _ _ _ rfl) fun _ h25 => h25.sn [35,9,8,7,5,4,0,1] rfl fun h26 => hK11 _ _ <| wcF h26 rfl rfl ?_
    refine h26.sk [9,8,7,5,4,0,1] rfl fun h27 => wp_skip <| hK10 _ _ <| sq fun _ hK12 => sqr fun _ hK13 => mv h27 rfl fun _ h28 => wpList_nil <| hK13 _ _ <| wp_block ?_
    refine wp_loop1 (fun (i : Nat) a' w' => Kn 103 [(10, .int .i64 (i : Int)), (9, .pointer (some ⟨g2, 0, none⟩)), (8, .pointer (some ⟨g1, 0, none⟩)), (7, .bool true), (5, .pointer (some ⟨cf, 0, none⟩)), (4, .bool false), (0, .slice a0 n0 c0), (1, .string (strB X))] a' ∧ Sep w' [blkC g2 37 [.int .i64 0, .int .i64 0, .string (strB []), .slice sax96 (([] : List ByteArray).length) scx97, .int .i64 2, .int .i64 1, .int .i64 ((cntE F.E (findF F X).2 : Nat) : Int)], ownC 0 9 1 sax96 ([] : List ByteArray).length scx97 (([] : List ByteArray).flatMap sE), blkC cf 65 [.pointer (some ⟨(Ax95.ad 0), 0, none⟩), .map (some ob)], nodX F Ax95, mapC KO ob Ax95.C (opG F Ax95), blkC g1 37 [.int .i64 0, .int .i64 0, .string (strB []), .slice sax64 L.length scx65, .int .i64 0, .int .i64 0, .int .i64 0], ownC 0 9 1 sax64 L.length scx65 (L.flatMap sE), blkC df 51 [.slice nax10 F.N.length ncx11, .slice eax12 F.E.length ecx13, .slice oax14 F.O.length ocx15], ownC 0 88 3 nax10 F.N.length ncx11 (F.N.flatMap nodC), ownC 0 114 3 eax12 F.E.length ecx13 (F.E.flatMap entC), ownC 0 93 3 oax14 F.O.length ocx15 (F.O.flatMap opnC), oldC W W.heap.size] ∧ (i ≤ L.length)) (fun (i : Nat) => L.length - i) 0 ⟨h28.subs rfl, s8, Nat.zero_le _⟩ ?_
    rintro i1 a2 w10 ⟨h29, s9, hi139⟩ K2 hK14
    refine sq fun _ hK15 => sqr fun _ hK16 => mv h29 rfl fun _ h30 => fav h30 rfl (fz_api_Reply_3 _ _) fun _ h31 => ldv h31 (v := .slice sax64 L.length scx65) s9 5 Tryz.underlying33 rfl rfl rfl rfl fun _ h32 => sv1 h32 rfl (v := .int .i64 (L.length : Int)) (rlenS h32 rfl rfl Tryz.underlying33) fun _ h33 => bv h33 (z := .bool (decide ((i1 : Int) < (L.length : Int)))) rfl (cLt _ _ _ _ rfl) fun _ h34 => h34.sn [59,10,9,8,7,5,4,0,1] rfl fun h35 => hK16 _ _ ?_
    rcases bC (decide ((i1 : Int) < (L.length : Int))) with hc3 | hc3
    ·skip
     have hp2 : (i1 : Int) < (L.length : Int) := (dT hc3)
     refine wcT h35 rfl hc3 <| h35.sk [10,9,8,7,5,4,0,1] rfl fun h36 => wp_skip <| hK15 _ _ <| sq fun _ hK17 => wp_block ?_
     refine sqr fun _ hK18 => fav h36 rfl (fz_api_Reply_3 _ _) fun _ h37 => ldv h37 (v := .slice sax64 L.length scx65) s9 5 Tryz.underlying33 rfl rfl rfl rfl fun _ h38 => mv h38 rfl fun _ h39 => ?_
     obtain ⟨q165, hq1⟩ := own_addr (s9.get 6 rfl : Own _ _ _ _ _ _ _ _)
     refine sv1 h39 rfl (v := .pointer (some ⟨q165, i1, none⟩)) (rindexA h39 rfl rfl rfl (fun w => ixO Tryz.underlying33 (by kernel_rfl) (sz := 1) (hq1 (by omega)) (j := i1) rfl (by omega) (by omega) w)) fun _ h40 => sw1 h40 rfl (v := .string (L.getD i1 noNm)) (rld h40 rfl rfl (ldOSc sE_len Tryz.underlying9 rfl (s9.get 6 rfl : Own _ _ _ _ _ _ _ _) (hq1 (by omega)) noNm (j := i1) (f := 0) (by omega) (by decide) (by omega) rfl)) fun _ h41 => cl h41 rfl cp_commonsref05_May_yl1 (mayRef_s s9 (hmay i1 (by omega))) fun _ v4 w11 r4 h42 => ?_
     obtain ⟨rfl, s10⟩ := r4
     refine mv h42 rfl fun _ h43 => h43.sn [11,10,9,8,7,5,4,0,1] rfl fun h44 => hK18 _ _ <| sq fun _ hK19 => ?_
     have s11 := s10.drew
     refine wp_region_held_drew (S := fun w' => Sep w' [blkC g2 37 [.int .i64 0, .int .i64 0, .string (strB []), .slice sax96 (([] : List ByteArray).length) scx97, .int .i64 2, .int .i64 1, .int .i64 ((cntE F.E (findF F X).2 : Nat) : Int)], ownC 0 9 1 sax96 ([] : List ByteArray).length scx97 (([] : List ByteArray).flatMap sE), blkC cf 65 [.pointer (some ⟨(Ax95.ad 0), 0, none⟩), .map (some ob)], nodX F Ax95, mapC KO ob Ax95.C (opG F Ax95), blkC g1 37 [.int .i64 0, .int .i64 0, .string (strB []), .slice sax64 L.length scx65, .int .i64 0, .int .i64 0, .int .i64 0], ownC 0 9 1 sax64 L.length scx65 (L.flatMap sE), blkC df 51 [.slice nax10 F.N.length ncx11, .slice eax12 F.E.length ecx13, .slice oax14 F.O.length ocx15], ownC 0 88 3 nax10 F.N.length ncx11 (F.N.flatMap nodC), ownC 0 114 3 eax12 F.E.length ecx13 (F.E.flatMap entC), ownC 0 93 3 oax14 F.O.length ocx15 (F.O.flatMap opnC), oldC W W.heap.size]) (by kernel_rfl) s11 (fun hq2 => ?_)
     refine tv1 hq2 h44 0 rfl rfl (v := .bool true) (fun w1 _ => (rmove h44 rfl rfl) w1) fun _ h45 => ?_
     refine tv1 hq2 h45 1 rfl rfl (v := .bool false) (fun w1 _ => (rnot h45 rfl (b := true) rfl) w1) fun _ h46 => ?_
     refine tv1 hq2 h46 2 rfl rfl (v := .bool false) (fun w1 _ => (rmove h46 rfl rfl) w1) fun _ h47 => ?_
     refine tv hq2 h47 3 rfl rfl rfl rfl (by kernel_rfl) (by kernel_rfl) (by kernel_rfl) (fun _ _ _ _ h => h) (wF h47 (E := false) rfl rfl rfl) (v := .int .i64 (i1 : Int)) (fun w1 _ => (rmove h47 rfl rfl) w1) fun _ h48 => ?_
     refine tv hq2 h48 4 rfl rfl rfl rfl (by kernel_rfl) (by kernel_rfl) (by kernel_rfl) (fun _ _ _ _ h => h) (wF h48 (E := false) rfl rfl rfl) (v := .bool (decide ((i1 : Int) > 0))) (fun w1 _ => (rbin h48 rfl rfl rfl (cGt _ _ _ _ rfl)) w1) fun _ h49 => ?_
     refine tv hq2 h49 5 rfl rfl rfl rfl (by kernel_rfl) (by kernel_rfl) (by kernel_rfl) (fun _ _ _ _ h => h) (wF h49 (E := false) rfl rfl rfl) (v := .bool (decide ((i1 : Int) > 0))) (fun w1 _ => (rmove h49 rfl rfl) w1) fun _ h50 => ?_
     rcases bC (decide ((i1 : Int) > 0)) with hc4 | hc4
     ·skip
      have hp3 : (i1 : Int) > 0 := (dT hc4)
      have hu := hup i1 (by omega) (by omega)
      refine tv hq2 h50 6 rfl rfl rfl rfl (by kernel_rfl) (by kernel_rfl) (by kernel_rfl) (fun _ _ _ _ h => h) ((wT h50 rfl rfl rfl).trans hc4) (v := .pointer (some ⟨g1, 3, none⟩)) (fun w1 _ => (rfa h50 rfl rfl (fun w => fz_api_Reply_3 g1 0 w)) w1) fun _ h51 => ?_
      refine tv hq2 h51 7 rfl rfl rfl rfl (by kernel_rfl) (by kernel_rfl) (by kernel_rfl) (fun _ _ _ _ h => h) ((wT h51 rfl rfl rfl).trans hc4) (v := .slice sax64 L.length scx65) (fun w1 hSw => (rld h51 rfl rfl (ldB Tryz.underlying33 rfl (hSw.get 5 rfl : Blk _ _ _ _) rfl))) fun _ h52 => ?_
      refine tv hq2 h52 8 rfl rfl rfl rfl (by kernel_rfl) (by kernel_rfl) (by kernel_rfl) (fun _ _ _ _ h => h) ((wT h52 rfl rfl rfl).trans hc4) (v := .int .i64 (i1 : Int)) (fun w1 _ => (rmove h52 rfl rfl) w1) fun _ h53 => ?_
      refine tv hq2 h53 9 rfl rfl rfl rfl (by kernel_rfl) (by kernel_rfl) (by kernel_rfl) (fun _ _ _ _ h => h) ((wT h53 rfl rfl rfl).trans hc4) (v := .int .i64 ((i1 - 1 : Nat) : Int)) (fun w1 _ => (rbin h53 rfl rfl rfl (bSub _ _ _ (by omega) (by omega) (by omega))) w1) fun _ h54 => ?_
      refine tv hq2 h54 10 rfl rfl rfl rfl (by kernel_rfl) (by kernel_rfl) (by kernel_rfl) (fun _ _ _ _ h => h) ((wT h54 rfl rfl rfl).trans hc4) (v := .pointer (some ⟨q165, i1 - 1, none⟩)) (fun w1 _ => (rindexA h54 rfl rfl rfl (fun w => ixO Tryz.underlying33 (by kernel_rfl) (sz := 1) (hq1 (by omega)) (j := i1 - 1) rfl (by omega) (by omega) w)) w1) fun _ h55 => ?_
      refine tv hq2 h55 11 rfl rfl rfl rfl (by kernel_rfl) (by kernel_rfl) (by kernel_rfl) (fun _ _ _ _ h => h) ((wT h55 rfl rfl rfl).trans hc4) (v := .string (L.getD (i1 - 1) noNm)) (fun w1 hSw => (rld h55 rfl rfl (ldOSc sE_len Tryz.underlying9 rfl (hSw.get 6 rfl : Own _ _ _ _ _ _ _ _) (hq1 (by omega)) noNm (j := i1 - 1) (f := 0) (by omega) (by decide) (by omega) rfl))) fun _ h56 => ?_
      refine tv hq2 h56 12 rfl rfl rfl rfl (by kernel_rfl) (by kernel_rfl) (by kernel_rfl) (fun _ _ _ _ h => h) ((wT h56 rfl rfl rfl).trans hc4) (v := .pointer (some ⟨g1, 3, none⟩)) (fun w1 _ => (rfa h56 rfl rfl (fun w => fz_api_Reply_3 g1 0 w)) w1) fun _ h57 => ?_
      refine tv hq2 h57 13 rfl rfl rfl rfl (by kernel_rfl) (by kernel_rfl) (by kernel_rfl) (fun _ _ _ _ h => h) ((wT h57 rfl rfl rfl).trans hc4) (v := .slice sax64 L.length scx65) (fun w1 hSw => (rld h57 rfl rfl (ldB Tryz.underlying33 rfl (hSw.get 5 rfl : Blk _ _ _ _) rfl))) fun _ h58 => ?_
      refine tv hq2 h58 14 rfl rfl rfl rfl (by kernel_rfl) (by kernel_rfl) (by kernel_rfl) (fun _ _ _ _ h => h) ((wT h58 rfl rfl rfl).trans hc4) (v := .int .i64 (i1 : Int)) (fun w1 _ => (rmove h58 rfl rfl) w1) fun _ h59 => ?_
      refine tv hq2 h59 15 rfl rfl rfl rfl (by kernel_rfl) (by kernel_rfl) (by kernel_rfl) (fun _ _ _ _ h => h) ((wT h59 rfl rfl rfl).trans hc4) (v := .pointer (some ⟨q165, i1, none⟩)) (fun w1 _ => (rindexA h59 rfl rfl rfl (fun w => ixO Tryz.underlying33 (by kernel_rfl) (sz := 1) (hq1 (by omega)) (j := i1) rfl (by omega) (by omega) w)) w1) fun _ h60 => ?_
      refine tv hq2 h60 16 rfl rfl rfl rfl (by kernel_rfl) (by kernel_rfl) (by kernel_rfl) (fun _ _ _ _ h => h) ((wT h60 rfl rfl rfl).trans hc4) (v := .string (L.getD i1 noNm)) (fun w1 hSw => (rld h60 rfl rfl (ldOSc sE_len Tryz.underlying9 rfl (hSw.get 6 rfl : Own _ _ _ _ _ _ _ _) (hq1 (by omega)) noNm (j := i1) (f := 0) (by omega) (by decide) (by omega) rfl))) fun _ h61 => ?_
      refine tv hq2 h61 17 rfl rfl rfl rfl (by kernel_rfl) (by kernel_rfl) (by kernel_rfl) (fun _ _ _ _ h => h) ((wT h61 rfl rfl rfl).trans hc4) (v := .bool (!(ltN (L.getD (i1 - 1) noNm) (L.getD i1 noNm)))) (fun w1 _ => (rbin h61 rfl rfl rfl (bStrGe _ _ _ (L.getD (i1 - 1) noNm) (L.getD i1 noNm))) w1) fun _ h62 => ?_
      refine tv hq2 h62 18 rfl rfl rfl rfl (by kernel_rfl) (by kernel_rfl) (by kernel_rfl) (fun _ _ _ _ h => h) (wF h62 (E := false) rfl rfl rfl) (v := .bool (!(ltN (L.getD (i1 - 1) noNm) (L.getD i1 noNm)))) (fun w1 _ => (rpickE h62 rfl (E := (decide ((i1 : Int) > 0))) (b := true) rfl hc4 rfl) w1) fun _ h63 => ?_
      refine tv1 hq2 h63 19 rfl rfl (v := .bool (!(ltN (L.getD (i1 - 1) noNm) (L.getD i1 noNm)))) (fun w1 _ => (rpick h63 rfl rfl rfl) w1) fun _ h64 => ?_
      refine h64.sk [87,11,10,9,8,7,5,4,0,1] rfl fun h65 => ?_
      refine wpAnyH_done (by kernel_rfl) ?_ _
      refine hK19 _ _ ?_
      refine wcF h65 rfl (bNotT hu) <| h65.sk [11,10,9,8,7,5,4,0,1] rfl fun h66 => wp_skip <| hK17 _ _ <| wp_region_lit <| mv h66 rfl fun _ h67 => bv h67 (z := .int .i64 ((i1 + 1 : Nat) : Int)) rfl (bAdd _ _ _ (by omega) (by omega) (by omega)) fun _ h68 => h68.sk [61,60,11,9,8,7,5,4,0,1] rfl fun h69 => mv h69 rfl fun _ h70 => h70.sk [10,11,9,8,7,5,4,0,1] rfl fun h71 => wpList_nil ?_
      exact hK14 (i1 + 1) _ _ ⟨h71.subs rfl, s11, by omega⟩ (by omega)
     ·skip
      have hp4 : ¬ ((i1 : Int) > 0) := (dF hc4)
      refine tu hq2 h50 6 rfl rfl rfl rfl (by kernel_rfl) (by kernel_rfl) (by kernel_rfl) (fun _ _ _ _ h => h) ((wT h50 rfl rfl rfl).trans hc4) fun _ h72 => ?_
      refine tu hq2 h72 7 rfl rfl rfl rfl (by kernel_rfl) (by kernel_rfl) (by kernel_rfl) (fun _ _ _ _ h => h) ((wT h72 rfl rfl rfl).trans hc4) fun _ h73 => ?_
      refine tu hq2 h73 8 rfl rfl rfl rfl (by kernel_rfl) (by kernel_rfl) (by kernel_rfl) (fun _ _ _ _ h => h) ((wT h73 rfl rfl rfl).trans hc4) fun _ h74 => ?_
      refine tu hq2 h74 9 rfl rfl rfl rfl (by kernel_rfl) (by kernel_rfl) (by kernel_rfl) (fun _ _ _ _ h => h) ((wT h74 rfl rfl rfl).trans hc4) fun _ h75 => ?_
      refine tu hq2 h75 10 rfl rfl rfl rfl (by kernel_rfl) (by kernel_rfl) (by kernel_rfl) (fun _ _ _ _ h => h) ((wT h75 rfl rfl rfl).trans hc4) fun _ h76 => ?_
      refine tu hq2 h76 11 rfl rfl rfl rfl (by kernel_rfl) (by kernel_rfl) (by kernel_rfl) (fun _ _ _ _ h => h) ((wT h76 rfl rfl rfl).trans hc4) fun _ h77 => ?_
      refine tu hq2 h77 12 rfl rfl rfl rfl (by kernel_rfl) (by kernel_rfl) (by kernel_rfl) (fun _ _ _ _ h => h) ((wT h77 rfl rfl rfl).trans hc4) fun _ h78 => ?_
      refine tu hq2 h78 13 rfl rfl rfl rfl (by kernel_rfl) (by kernel_rfl) (by kernel_rfl) (fun _ _ _ _ h => h) ((wT h78 rfl rfl rfl).trans hc4) fun _ h79 => ?_
      refine tu hq2 h79 14 rfl rfl rfl rfl (by kernel_rfl) (by kernel_rfl) (by kernel_rfl) (fun _ _ _ _ h => h) ((wT h79 rfl rfl rfl).trans hc4) fun _ h80 => ?_
      refine tu hq2 h80 15 rfl rfl rfl rfl (by kernel_rfl) (by kernel_rfl) (by kernel_rfl) (fun _ _ _ _ h => h) ((wT h80 rfl rfl rfl).trans hc4) fun _ h81 => ?_
      refine tu hq2 h81 16 rfl rfl rfl rfl (by kernel_rfl) (by kernel_rfl) (by kernel_rfl) (fun _ _ _ _ h => h) ((wT h81 rfl rfl rfl).trans hc4) fun _ h82 => ?_
      refine tu hq2 h82 17 rfl rfl rfl rfl (by kernel_rfl) (by kernel_rfl) (by kernel_rfl) (fun _ _ _ _ h => h) ((wT h82 rfl rfl rfl).trans hc4) fun _ h83 => ?_
      refine tv hq2 h83 18 rfl rfl rfl rfl (by kernel_rfl) (by kernel_rfl) (by kernel_rfl) (fun _ _ _ _ h => h) (wF h83 (E := false) rfl rfl rfl) (v := .bool false) (fun w1 _ => (rpickE h83 rfl (E := (decide ((i1 : Int) > 0))) (b := false) rfl hc4 rfl) w1) fun _ h84 => ?_
      refine tv1 hq2 h84 19 rfl rfl (v := .bool false) (fun w1 _ => (rpick h84 rfl rfl rfl) w1) fun _ h85 => ?_
      refine h85.sk [87,11,10,9,8,7,5,4,0,1] rfl fun h86 => ?_
      refine wpAnyH_done (by kernel_rfl) ?_ _
      refine hK19 _ _ ?_
      refine wcF h86 rfl rfl <| h86.sk [11,10,9,8,7,5,4,0,1] rfl fun h87 => wp_skip <| hK17 _ _ <| wp_region_lit <| mv h87 rfl fun _ h88 => bv h88 (z := .int .i64 ((i1 + 1 : Nat) : Int)) rfl (bAdd _ _ _ (by omega) (by omega) (by omega)) fun _ h89 => h89.sk [61,60,11,9,8,7,5,4,0,1] rfl fun h90 => mv h90 rfl fun _ h91 => h91.sk [10,11,9,8,7,5,4,0,1] rfl fun h92 => wpList_nil ?_
      exact hK14 (i1 + 1) _ _ ⟨h92.subs rfl, s11, by omega⟩ (by omega)
    ·skip
     have hp5 : ¬ ((i1 : Int) < (L.length : Int)) := (dF hc3)
     refine wcF h35 rfl hc3 <| h35.sk [10,9,8,7,5,4,0,1] rfl fun h93 => wp_exit ?_
     refine hK12 _ _ ?_
     refine sqr fun _ hK20 => fav h93 rfl (fz_api_Reply_0 _ _) fun _ h94 => ldv h94 (v := .int .i64 0) s9 0 Tryz.underlying32 rfl rfl rfl rfl fun _ h95 => bv h95 rfl (cEq _ _ _ _ rfl) fun _ h96 => mv h96 rfl fun _ h97 => sv h97 (wT h97 (E := true) rfl rfl rfl) rfl rfl rfl (v := .pointer (some ⟨g2, 4, none⟩)) (rfa h97 rfl rfl (fun w => fz_api_Reply_4 g2 0 w)) fun _ h98 => sw h98 (wT h98 (E := true) rfl rfl rfl) rfl rfl rfl (v := .agg #[.int .i64 2, .int .i64 1, .int .i64 ((cntE F.E (findF F X).2 : Nat) : Int)]) (rld h98 rfl rfl (ldA Tryz.underlying35 rfl (n := 3) (by kernel_rfl) (s9.get 0 rfl : Blk _ _ _ _) rfl rfl)) fun _ h99 => sv h99 (wT h99 (E := true) rfl rfl rfl) rfl rfl rfl (v := .pointer (some ⟨g1, 3, none⟩)) (rfa h99 rfl rfl (fun w => fz_api_Reply_3 g1 0 w)) fun _ h100 => sw h100 (wT h100 (E := true) rfl rfl rfl) rfl rfl rfl (v := .slice sax64 L.length scx65) (rld h100 rfl rfl (ldB Tryz.underlying33 rfl (s9.get 5 rfl : Blk _ _ _ _) rfl)) fun _ h101 => sv h101 (wT h101 (E := true) rfl rfl rfl) rfl rfl rfl (v := .int .i64 (L.length : Int)) (rlenS h101 rfl rfl Tryz.underlying33) fun _ h102 => ?_
     refine sv h102 (wT h102 (E := true) rfl rfl rfl) rfl rfl rfl (v := .agg #[.int .i64 2, .int .i64 1, .int .i64 (L.length : Int)]) (rbuild h102 (xs := [(0, .const (.int .i64 2)), (1, .const (.int .i64 1)), (2, .tmp 96)]) rfl (vs := [(0, .int .i64 2), (1, .int .i64 1), (2, .int .i64 (L.length : Int))]) rfl (fun w => by kernel_rfl)) fun _ h103 => sv h103 (wT h103 (E := true) rfl rfl rfl) rfl rfl rfl (v := .bool ((decide (2 = 2)) && ((decide (1 = 1)) && (decide (((cntE F.E (findF F X).2 : Nat) : Int) = (L.length : Int)))))) (rbin h103 rfl rfl rfl (eqS_api_Info_yl1_eql _ _ 2 1 ((cntE F.E (findF F X).2 : Nat) : Int) 2 1 (L.length : Int))) fun _ h104 => sv1 h104 rfl (v := .bool ((decide (2 = 2)) && ((decide (1 = 1)) && (decide (((cntE F.E (findF F X).2 : Nat) : Int) = (L.length : Int)))))) (rpick h104 rfl rfl rfl) fun _ h105 => mv h105 rfl fun _ h106 => so ((wT h106 rfl rfl rfl).trans (bAnd (decide_eq_true (by omega)) (bAnd (decide_eq_true (by omega)) (decide_eq_true (by omega))))) fun _ hK21 => xcall h106 rfl rfl rfl (xs := []) rfl cz_commonslaw06_lives rfl (vs := []) rfl (args := #[]) rfl (lives_s s9) fun _ v5 w12 r5 h107 => hK21 _ _ ?_
     obtain ⟨rfl, s12⟩ := r5
     refine sv1 h107 rfl (v := .bool true) (rpickE h107 rfl (E := ((decide (2 = 2)) && ((decide (1 = 1)) && (decide (((cntE F.E (findF F X).2 : Nat) : Int) = (L.length : Int)))))) (b := true) rfl (bAnd (decide_eq_true (by omega)) (bAnd (decide_eq_true (by omega)) (decide_eq_true (by omega)))) rfl) fun _ h108 => h108.sk [102,101,100,99,98,97,96,95,94,93,92,91,90,89,88,10,9,8,7,5,0,1] rfl fun h109 => mv h109 rfl fun _ h110 => h110.sn [4,10,9,8,7,5,0,1] rfl fun h111 => hK20 _ _ <| wp_ret ?_
     try simp only [Exit.then, Exit.inBlock]
     refine retR (v := .bool true) (res1 h111 rfl rfl) h111.defs ?_
     exact ⟨rfl, (s12.get 11 rfl : Below _ _ _ ∧ _).1⟩
   ·skip
    refine cl h12 rfl cz_posix_Fs_Do (doQ_c (cf := cf) (A := Ax9) (F := F) (n := 40) (x := (⟨12, X, [], 0, 0, 0, 0, []⟩ : CallM)) (G := F) (r := (errR 12)) s2 hA20 (by omega) (Nat.le_trans hX (by decide)) (Nat.zero_le _) (Nat.zero_le _) wf0 (doList_f (by omega) hc2)) fun _ v6 w13 r6 h112 => ?_
    obtain ⟨Ax318, sax319, scx320, rfl, s13, hA325⟩ := r6
    refine so (wanted_none rfl) fun _ hK22 => xalloc h112 rfl rfl rfl rfl (z := zL) (fun _ => rfl) s13 fun _ g3 w14 h113 s14 _ _ => hK22 _ _ ?_
    refine stA h113 s14 0 rfl rfl rfl (by kernel_rfl) rfl rfl rfl rfl fun _ w15 h114 s15 _ => h114.sn [8,7,5,4,0,1] rfl fun h115 => hK5 _ _ <| sqr fun _ hK23 => mvs 2 h115 rfl fun _ h116 => bu h116 (v := .agg #[.int .i64 13, .string (strB X), .string (strB []), .int .i64 0, .int .i64 0, .int .i64 0, .int .i64 0, .string (strB [])]) rfl (fun w => by kernel_rfl) fun _ h117 => cl h117 rfl cz_posix_Fs_Do (doQ_c (cf := cf) (A := Ax318) (F := F) (n := 41) (x := (⟨13, X, [], 0, 0, 0, 0, []⟩ : CallM)) (G := F) (r := (infoR 1 (F.at (findF F X).2).links (((F.at (findF F X).2).data.length : Nat) : Int))) (s15.pk [2,3,4,0,1,5,6,7,8,9] rfl) hA325 (by omega) (Nat.le_trans hX (by decide)) (Nat.zero_le _) (Nat.zero_le _) wf0 (doStat_f (by omega) hc2)) fun _ v7 w16 r7 h118 => ?_
    obtain ⟨Ax350, sax351, scx352, rfl, s16, hA357⟩ := r7
    refine so (wanted_none rfl) fun _ hK24 => xalloc h118 rfl rfl rfl rfl (z := zL) (fun _ => rfl) s16 fun _ g4 w17 h119 s17 _ _ => hK24 _ _ ?_
    refine stA h119 s17 0 rfl rfl rfl (by kernel_rfl) rfl rfl rfl rfl fun _ w18 h120 s18 _ => h120.sn [9,8,7,5,4,0,1] rfl fun h121 => hK23 _ _ <| sq fun _ hK25 => sqr fun _ hK26 => fav h121 rfl (fz_api_Reply_0 _ _) fun _ h122 => ldv h122 (v := .int .i64 12) s18 5 Tryz.underlying32 rfl rfl rfl rfl fun _ h123 => bv h123 rfl (cNe _ _ _ _ rfl) fun _ h124 => h124.sn [35,9,8,7,5,4,0,1] rfl fun h125 => hK26 _ _ <| wcT h125 rfl rfl ?_
    refine h125.sk [9,8,7,5,4,0,1] rfl fun h126 => sqr fun _ hK27 => fav h126 rfl (fz_api_Reply_0 _ _) fun _ h127 => ldv h127 (v := .int .i64 0) s18 0 Tryz.underlying32 rfl rfl rfl rfl fun _ h128 => fav h128 rfl (fz_api_Reply_0 _ _) fun _ h129 => ldv h129 (v := .int .i64 12) s18 5 Tryz.underlying32 rfl rfl rfl rfl fun _ h130 => bv h130 rfl (cEq _ _ _ _ rfl) fun _ h131 => mv h131 rfl fun _ h132 => sv h132 (wF h132 (E := false) rfl rfl rfl) rfl rfl rfl (v := .pointer (some ⟨g3, 0, none⟩)) (rfa h132 rfl rfl (fun w => fz_api_Reply_0 g3 0 w)) fun _ h133 => sw h133 (wF h133 (E := false) rfl rfl rfl) rfl rfl rfl (v := .int .i64 12) (rld h133 rfl rfl (ldB Tryz.underlying32 rfl (s18.get 5 rfl : Blk _ _ _ _) rfl)) fun _ h134 => ?_
    refine sv h134 (wF h134 (E := false) rfl rfl rfl) rfl rfl rfl (v := .bool true) (rbin h134 rfl rfl rfl (cEq _ _ _ _ rfl)) fun _ h135 => sv h135 (wF h135 (E := false) rfl rfl rfl) rfl rfl rfl (v := .bool true) (rmove h135 rfl rfl) fun _ h136 => sv h136 (wT h136 (E := true) rfl rfl rfl) rfl rfl rfl (v := .pointer (some ⟨g4, 4, none⟩)) (rfa h136 rfl rfl (fun w => fz_api_Reply_4 g4 0 w)) fun _ h137 => sv h137 (wT h137 (E := true) rfl rfl rfl) rfl rfl rfl (v := .pointer (some ⟨g4, 4, none⟩)) (rfa h137 rfl rfl (fun w => fa_api_Info_yl1_0 g4 4 w)) fun _ h138 => sw h138 (wT h138 (E := true) rfl rfl rfl) rfl rfl rfl (v := .int .i64 1) (rld h138 rfl rfl (ldB Tryz.underlying3 rfl (s18.get 0 rfl : Blk _ _ _ _) rfl)) fun _ h139 => sv h139 (wT h139 (E := true) rfl rfl rfl) rfl rfl rfl (v := .bool true) (rbin h139 rfl rfl rfl (cEq _ _ _ _ rfl)) fun _ h140 => sv h140 (wF h140 (E := false) rfl rfl rfl) rfl rfl rfl (v := .bool true) (rpick h140 rfl rfl rfl) fun _ h141 => sv1 h141 rfl (v := .bool true) (rpick h141 rfl rfl rfl) fun _ h142 => mv h142 rfl fun _ h143 => so (wT h143 (E := true) rfl rfl rfl) fun _ hK28 => xcall h143 rfl rfl rfl (xs := []) rfl cz_commonslaw06_lives rfl (vs := []) rfl (args := #[]) rfl (lives_s s18) fun _ v8 w19 r8 h144 => hK28 _ _ ?_
    obtain ⟨rfl, s19⟩ := r8
    refine sv1 h144 rfl (v := .bool true) (rpick h144 rfl rfl rfl) fun _ h145 => h145.sk [54,53,52,51,50,49,48,47,46,45,44,43,42,41,40,39,38,37,36,9,8,7,5,0,1] rfl fun h146 => mv h146 rfl fun _ h147 => h147.sn [4,9,8,7,5,0,1] rfl fun h148 => hK27 _ _ <| wp_ret ?_
    try simp only [Exit.then, Exit.inBlock]
    refine retR (v := .bool true) (res1 h148 rfl rfl) h148.defs ?_
    exact ⟨rfl, (s19.get 11 rfl : Below _ _ _ ∧ _).1⟩
  ·skip
   have hp6 : ¬ ((findF F X).1 = 0) := (dF hc1)
   refine cl h12 rfl cz_posix_Fs_Do (doQ_c (cf := cf) (A := Ax9) (F := F) (n := 40) (x := (⟨12, X, [], 0, 0, 0, 0, []⟩ : CallM)) (G := F) (r := (errR (findF F X).1)) s2 hA20 (by omega) (Nat.le_trans hX (by decide)) (Nat.zero_le _) (Nat.zero_le _) wf0 (doList_e (by omega))) fun _ v9 w20 r9 h149 => ?_
   obtain ⟨Ax434, sax435, scx436, rfl, s20, hA441⟩ := r9
   refine so (wanted_none rfl) fun _ hK29 => xalloc h149 rfl rfl rfl rfl (z := zL) (fun _ => rfl) s20 fun _ g5 w21 h150 s21 _ _ => hK29 _ _ ?_
   refine stA h150 s21 0 rfl rfl rfl (by kernel_rfl) rfl rfl rfl rfl fun _ w22 h151 s22 _ => h151.sn [8,7,5,4,0,1] rfl fun h152 => hK5 _ _ <| sqr fun _ hK30 => mvs 2 h152 rfl fun _ h153 => bu h153 (v := .agg #[.int .i64 13, .string (strB X), .string (strB []), .int .i64 0, .int .i64 0, .int .i64 0, .int .i64 0, .string (strB [])]) rfl (fun w => by kernel_rfl) fun _ h154 => cl h154 rfl cz_posix_Fs_Do (doQ_c (cf := cf) (A := Ax434) (F := F) (n := 41) (x := (⟨13, X, [], 0, 0, 0, 0, []⟩ : CallM)) (G := F) (r := (errR (findF F X).1)) (s22.pk [2,3,4,0,1,5,6,7,8,9] rfl) hA441 (by omega) (Nat.le_trans hX (by decide)) (Nat.zero_le _) (Nat.zero_le _) wf0 (doStat_e (by omega))) fun _ v10 w23 r10 h155 => ?_
   obtain ⟨Ax466, sax467, scx468, rfl, s23, hA473⟩ := r10
   refine so (wanted_none rfl) fun _ hK31 => xalloc h155 rfl rfl rfl rfl (z := zL) (fun _ => rfl) s23 fun _ g6 w24 h156 s24 _ _ => hK31 _ _ ?_
   refine stA h156 s24 0 rfl rfl rfl (by kernel_rfl) rfl rfl rfl rfl fun _ w25 h157 s25 _ => h157.sn [9,8,7,5,4,0,1] rfl fun h158 => hK30 _ _ <| sq fun _ hK32 => sqr fun _ hK33 => fav h158 rfl (fz_api_Reply_0 _ _) fun _ h159 => ldv h159 (v := .int .i64 ((findF F X).1)) s25 5 Tryz.underlying32 rfl rfl rfl rfl fun _ h160 => bv h160 rfl (cNe _ _ _ _ (decide_eq_true (by omega))) fun _ h161 => h161.sn [35,9,8,7,5,4,0,1] rfl fun h162 => hK33 _ _ <| wcT h162 rfl rfl ?_
   refine h162.sk [9,8,7,5,4,0,1] rfl fun h163 => sqr fun _ hK34 => fav h163 rfl (fz_api_Reply_0 _ _) fun _ h164 => ldv h164 (v := .int .i64 ((findF F X).1)) s25 0 Tryz.underlying32 rfl rfl rfl rfl fun _ h165 => fav h165 rfl (fz_api_Reply_0 _ _) fun _ h166 => ldv h166 (v := .int .i64 ((findF F X).1)) s25 5 Tryz.underlying32 rfl rfl rfl rfl fun _ h167 => bv h167 rfl (cEq _ _ _ _ (decide_eq_true rfl)) fun _ h168 => mv h168 rfl fun _ h169 => su h169 (wF h169 (E := true) rfl rfl rfl) rfl rfl rfl fun _ h170 => su h170 (wF h170 (E := true) rfl rfl rfl) rfl rfl rfl fun _ h171 => ?_
   refine su h171 (wF h171 (E := true) rfl rfl rfl) rfl rfl rfl fun _ h172 => su h172 (wF h172 (E := true) rfl rfl rfl) rfl rfl rfl fun _ h173 => su h173 (wgu h173 rfl rfl rfl) rfl rfl rfl fun _ h174 => su h174 (wgu h174 rfl rfl rfl) rfl rfl rfl fun _ h175 => su h175 (wgu h175 rfl rfl rfl) rfl rfl rfl fun _ h176 => su h176 (wgu h176 rfl rfl rfl) rfl rfl rfl fun _ h177 => su h177 (wF h177 (E := true) rfl rfl rfl) rfl rfl rfl fun _ h178 => sv1 h178 rfl (v := .bool true) (rpick h178 rfl rfl rfl) fun _ h179 => mv h179 rfl fun _ h180 => so (wT h180 (E := true) rfl rfl rfl) fun _ hK35 => xcall h180 rfl rfl rfl (xs := []) rfl cz_commonslaw06_lives rfl (vs := []) rfl (args := #[]) rfl (lives_s s25) fun _ v11 w26 r11 h181 => hK35 _ _ ?_
   obtain ⟨rfl, s26⟩ := r11
   refine sv1 h181 rfl (v := .bool true) (rpick h181 rfl rfl rfl) fun _ h182 => h182.sk [54,53,52,51,50,49,48,47,46,45,44,43,42,41,40,39,38,37,36,9,8,7,5,0,1] rfl fun h183 => mv h183 rfl fun _ h184 => h184.sn [4,9,8,7,5,0,1] rfl fun h185 => hK34 _ _ <| wp_ret ?_
   try simp only [Exit.then, Exit.inBlock]
   refine retR (v := .bool true) (res1 h185 rfl rfl) h185.defs ?_
   exact ⟨rfl, (s26.get 11 rfl : Below _ _ _ ∧ _).1⟩
 refine sqr fun _ hK36 => mv h9 rfl fun _ h186 => sv1 h186 rfl (v := .int .i64 (s.length : Int)) (rlenT h186 rfl rfl Tryz.underlying9) fun _ h187 => bv h187 (z := .bool (decide ((s.length : Int) > 60))) rfl (cGt _ _ _ _ rfl) fun _ h188 => h188.sn [22,7,5,4,0,1] rfl fun h189 => hK36 _ _ ?_
 rcases bC (decide ((s.length : Int) > 60)) with hc5 | hc5
 ·skip
  have hp7 : (s.length : Int) > 60 := (dT hc5)
  refine wcT h189 rfl hc5 <| h189.sk [7,5,4,0,1] rfl fun h190 => wp_region_lit <| mv h190 rfl fun _ h191 => sv1 h191 rfl (v := .string (strB (s.take 60))) (rslT h191 rfl rfl (vl := none) (vh := (some (.int .i64 60))) rfl rfl (fun w => (fun w => ((slT 9 Tryz.underlying9 s (a := 0) (b := 60) (.inl ⟨rfl, rfl⟩) (.inr ⟨_, rfl, rfl⟩) (by omega) (by omega)) w).trans (by rw [List.drop_zero])) w)) fun _ h192 => h192.sk [24,23,7,5,4,0] rfl fun h193 => mv h193 rfl fun _ h194 => h194.sk [1,7,5,4,0] rfl fun h195 => wpList_nil ?_
  exact hJ47 (s.take 60) _ _ (h195.subs rfl) s1 (by show (List.take 60 s).length ≤ 60; rw [List.length_take]; omega)
 ·skip
  have hp8 : ¬ ((s.length : Int) > 60) := (dF hc5)
  refine wcF h189 rfl hc5 <| h189.sk [7,5,4,0,1] rfl fun h196 => wp_skip ?_
  exact hJ47 s _ _ (h196.subs rfl) s1 (by omega)

theorem PosixNames_walk (W : World) (a0 : Option Addr) (n0 c0 : Nat) (f : Nat → AskV) (rb : AsksIn W a0 n0 c0 f) (s : ByteArray) (hs : s.size ≤ maxLen) : Calls Tryz.prog 9 #[.slice a0 n0 c0, .string s] W fun e W' => e = .returned (.bool true) ∧ Below W.heap.size W W' := PosixNames_walkL W a0 n0 c0 f rb s.data.toList

end Go.Proofs.YtcanemamnmmbcaaGreatDoor
