/- PosixFds (sx/ptK.py) -/
import Derived.Test.YtcanemamnmmbcaaGreatDoorPyN
import Derived.Test.YtcanemamnmmbcaaGreatDoorPxZ
import Derived.Test.YtcanemamnmmbcaaGreatDoorSxU
namespace Go.Proofs.YtcanemamnmmbcaaGreatDoor
open Go.RowKit
set_option linter.unusedSimpArgs false
set_option linter.unusedVariables false
set_option maxRecDepth 100000

/-- a file system of the code that hangs together -/
structure FsA (F : FsM) (A : AdM) (n : Nat) : Prop where
 ok : FsOk F
 sz : SzF F n
 ad : AdOk F A n
theorem SzF.le {F : FsM} {m n : Nat} (h : SzF F m) (hm : m ≤ n) : SzF F n := ⟨by have := h.1; omega, by have := h.2.1; omega, by have := h.2.2; omega⟩
theorem AdOk.le {F : FsM} {A : AdM} {m n : Nat} (h : AdOk F A m) (hm : m ≤ n) : AdOk F A n := ⟨h.ld, Nat.le_trans h.hB hm, Nat.le_trans h.hC hm⟩
theorem FsA.le {F : FsM} {A : AdM} {m n : Nat} (h : FsA F A m) (hm : m ≤ n) : FsA F A n := ⟨h.ok, h.sz.le hm, h.ad.le hm⟩
theorem playedF_s {W w : World} {R : List Ch} {a0 : Option Addr} {n0 c0 most : Nat} {f : Nat → AskV} (hS0 : Sep w ([oldC W W.heap.size] ++ R)) (rb : AsksIn W a0 n0 c0 f) (hm : most ≤ 60) :
  CallsR Tryz.prog 11 #[.slice a0 n0 c0, .int .i64 (most : Int)] w (fun v w' => ∃ cf ob F A df na nc ea ec oa oc, v = .tuple #[.pointer (some ⟨cf, 0, none⟩), .pointer (some ⟨df, 0, none⟩), .bool true] ∧ Sep w' ((cP cf ob F A) ++ (dP df na nc ea ec oa oc F) ++ [oldC W W.heap.size] ++ R) ∧ FsA F A most) :=
 Calls.mono (played_s hS0 rb hm) fun e W' ⟨v, e1, cf, ob, A, df, na, nc, ea, ec, oa, oc, e2, s, hA⟩ => ⟨v, e1, cf, ob, _, A, df, na, nc, ea, ec, oa, oc, e2, s, ⟨runF_ok _ _, (runF_sz f _).le (Nat.min_le_right _ _), hA.le (Nat.min_le_right _ _)⟩⟩
theorem doQ_c {w : World} {cf ob n : Nat} {F G : FsM} {r : RepM} {A : AdM} {R : List Ch} {c : Int} {x : CallM} (hS0 : Sep w ((cP cf ob F A) ++ R)) (h : FsA F A n) (hn : n ≤ 800) (h1 : x.p1.length ≤ 1000) (h2 : x.p2.length ≤ 1000) (h3 : x.data.length ≤ 1000) (hxf : (Lit.int .i64 x.fd).wf = true) (e : doF F c x = (G, r)) :
  CallsR Tryz.prog 14 #[.pointer (some ⟨cf, 0, none⟩), .int .i64 c, .agg (cL x).toArray] w (fun v w' => ∃ A' sa sc, v = repV r sa sc ∧ Sep w' (ownC 0 9 1 sa r.names.length sc (r.names.flatMap sE) :: (cP cf ob G A') ++ R) ∧ FsA G A' (n + 1)) := by
 have z := do_c (c := c) (x := x) hS0 h.ok h.ad (by omega) (h.sz.ss hn) h1 h2 h3 hxf
 have o := h.ok.do_ c x
 have s := h.sz.do_ c x
 rw [e] at z o s
 exact Calls.mono z fun e W' ⟨v, e1, A', sa, sc, e2, q, hA⟩ => ⟨v, e1, A', sa, sc, e2, q, ⟨o, s, hA⟩⟩
open Go.WideShapes Go.ChangeShapes Go.Deep in
theorem open_callV {H : Type} {enc : TypeId × Value → H} {W : World} {base base' : Nat} {spare : Nat → Bool} {held : Bool} {v : Value} {d : DataW H} {p : List MemPlace}
  (hv : Value.okWide Tryz.prog W .any base' 30 v) (h : DataW.Trod enc Tryz.prog W base spare held 30 v d p) : ∃ x : CallM, v = .agg (cL x).toArray ∧ wfX x := by
 obtain ⟨cs, rfl, hsz⟩ := okWide_struct Tryz.underlying30 hv
 have k8 : Tryz.prog.cellsOf 30 = 8 := by kernel_rfl
 have k1 : Tryz.prog.cellsOf 3 = 1 := by kernel_rfl
 have k2 : Tryz.prog.cellsOf 9 = 1 := by kernel_rfl
 obtain ⟨fuel, hf⟩ := h
 obtain ⟨ys, n, _, hx, hl, hyl, hg⟩ := DataW.trod_struct Tryz.underlying30 hf
 have hyl' : ys.length = 8 := hyl
 have h8 : cs.toList.length = 8 := by rw [Array.length_toList]; exact hsz.trans k8
 obtain ⟨L, rfl⟩ : ∃ L : List Value, cs = L.toArray := ⟨cs.toList, rfl⟩
 have h8' : L.length = 8 := by simpa using h8
 match L, h8' with
 | [u0, u1, u2, u3, u4, u5, u6, u7], _ =>
  have g0 := hg 0 _ rfl
  have g1 := hg 1 _ rfl
  have g2 := hg 2 _ rfl
  have g3 := hg 3 _ rfl
  have g4 := hg 4 _ rfl
  have g5 := hg 5 _ rfl
  have g6 := hg 6 _ rfl
  have g7 := hg 7 _ rfl
  simp [Value.cells, k1, k2] at g0 g1 g2 g3 g4 g5 g6 g7
  rw [List.getElem?_eq_getElem (by omega)] at g0 g1 g2 g3 g4 g5 g6 g7
  obtain ⟨t0, e0, _, w0⟩ := DataW.trod_int Tryz.underlying3 g0
  obtain ⟨t1, e1, _⟩ := DataW.trod_string Tryz.underlying9 g1
  obtain ⟨t2, e2, _⟩ := DataW.trod_string Tryz.underlying9 g2
  obtain ⟨t3, e3, _, w3⟩ := DataW.trod_int Tryz.underlying3 g3
  obtain ⟨t4, e4, _, w4⟩ := DataW.trod_int Tryz.underlying3 g4
  obtain ⟨t5, e5, _, w5⟩ := DataW.trod_int Tryz.underlying3 g5
  obtain ⟨t6, e6, _, w6⟩ := DataW.trod_int Tryz.underlying3 g6
  obtain ⟨t7, e7, _⟩ := DataW.trod_string Tryz.underlying9 g7
  simp only [List.cons.injEq, and_true] at e0 e1 e2 e3 e4 e5 e6 e7
  subst e0 e1 e2 e3 e4 e5 e6 e7
  exact ⟨⟨t0, t1.data.toList, t2.data.toList, t3, t4, t5, t6, t7.data.toList⟩, rfl, w0, w3, w4, w5, w6⟩
theorem wfF {j : Nat} (h : j < 8) : (Lit.int .i64 (j : Int)).wf = true := wf_i64 (by omega) (by omega)


set_option maxHeartbeats 4000000 in
theorem PosixFds_walk (W : World) (a0 : Option Addr) (n0 c0 : Nat) (f : Nat → AskV) (rb : AsksIn W a0 n0 c0 f) (cli : Int) (hcl : (Lit.int .i64 cli).wf = true) (x : CallM) (hx : wfX x) :
  Calls Tryz.prog 8 #[.slice a0 n0 c0, .int .i64 cli, .agg (cL x).toArray] W fun e W' => e = .returned (.bool true) ∧ Below W.heap.size W W' := by
 have hS : Sep W [oldC W W.heap.size] := Sep.start W
 suffices hZ : CallsR Tryz.prog 8 #[.slice a0 n0 c0, .int .i64 cli, .agg (cL x).toArray] W (fun v W' => v = .bool true ∧ Below W.heap.size W W') from Calls.mono hZ fun e W' ⟨v, e1, e2, h⟩ => ⟨by rw [e1, e2], h⟩
 refine enterR Tryz.func8 rfl (N := 54) Tryz.ntmps8 (by show 3 ≤ 54; decide) [(0, .slice a0 n0 c0), (1, .int .i64 cli), (2, .agg (cL x).toArray)] rfl fun _ h1 => sqr fun _ hK3 => so (wanted_none rfl) fun _ hK1 => xbox h1 rfl rfl rfl rfl rfl (z := (cL x)) rfl hS fun _ g4 w7 h5 s8 _ _ => hK1 _ _ ?_
 refine mv h5 rfl fun _ h2 => wpList_nil <| hK3 _ _ <| sqr fun _ hK2 => mv h2 rfl fun _ h3 => cl h3 rfl cz_commonslaw06_played (playedF_s (most := 30) (s8.pk [1,0] rfl) rb (by decide)) fun _ v1 w1 r2 h4 => ?_
 obtain ⟨cf, ob, F, Ax17, df, nax18, ncx19, eax20, ecx21, oax22, ocx23, rfl, s1, hA28⟩ := r2
 have hz : SmF F := (hA28.sz.ss (by omega)).sm
 refine mvs 7 h4 rfl fun _ h6 => h6.sn [9,8,7,6,5,0,1,2] rfl fun h7 => hK2 _ _ <| sq fun _ hK4 => sqr fun _ hK5 => mvs 2 h7 rfl fun _ h8 => h8.sn [21,9,8,7,6,5,0,1,2] rfl fun h9 => hK5 _ _ <| wcF h9 rfl rfl <| h9.sk [9,8,7,6,5,0,1,2] rfl fun h10 => wp_skip <| hK4 _ _ ?_
 refine sqr fun _ hK6 => mvs 2 h10 rfl fun _ h11 => sw1 h11 rfl (v := .agg (cL x).toArray) (rld h11 rfl rfl (ldA Tryz.underlying30 rfl (n := 8) (by kernel_rfl) (s1.get 8 rfl : Blk _ _ _ _) rfl rfl)) fun _ h12 => cl h12 rfl cz_commonslaw06_cut (cut_s s1 x) fun _ v2 w2 r3 h13 => ?_
 obtain ⟨rfl, s2⟩ := r3
 obtain ⟨G, r1, hG⟩ : ∃ G r, doF F cli (cutX x) = (G, r) := ⟨_, _, rfl⟩
 have hO : ∀ k fd, k ≠ cli → lookO G.O k fd = lookO F.O k fd := fun k fd hk => by have z := do_fds F cli (cutX x) fd hk; rw [hG] at z; exact z
 refine cl h13 rfl cz_posix_Fs_Do (doQ_c (cf := cf) (A := Ax17) (F := F) (n := 30) (x := (cutX x)) (G := G) (r := r1) s2 hA28 (by omega) (Nat.le_trans (cut_p1 _) (by omega)) (Nat.le_trans (cut_p2 _) (by omega)) (Nat.le_trans (cut_d _) (by omega)) hx.2.2.1 hG) fun _ v3 w3 r4 h14 => ?_
 obtain ⟨Ax68, sax69, scx70, rfl, s3, hA75⟩ := r4
 refine h14.sn [9,8,7,6,5,0,1,2] rfl fun h15 => hK6 _ _ <| sq fun _ hK7 => sqr fun _ hK8 => mv h15 rfl fun _ h16 => wpList_nil <| hK8 _ _ <| wp_block ?_
 refine wp_loop3 (fun (k : Nat) (A : AdM) (m : Nat) a' w' => Kn 54 [(10, .int .i64 (k : Int)), (9, .bool true), (8, .pointer (some ⟨df, 0, none⟩)), (7, .pointer (some ⟨cf, 0, none⟩)), (6, .bool false), (5, .pointer (some ⟨g4, 0, none⟩)), (0, .slice a0 n0 c0), (1, .int .i64 cli), (2, .agg (cL x).toArray)] a' ∧ Sep w' [blkC cf 65 [.pointer (some ⟨(A.ad 0), 0, none⟩), .map (some ob)], nodX G A, mapC KO ob A.C (opG G A), blkC df 51 [.slice nax18 F.N.length ncx19, .slice eax20 F.E.length ecx21, .slice oax22 F.O.length ocx23], ownC 0 88 3 nax18 F.N.length ncx19 (F.N.flatMap nodC), ownC 0 114 3 eax20 F.E.length ecx21 (F.E.flatMap entC), ownC 0 93 3 oax22 F.O.length ocx23 (F.O.flatMap opnC), oldC W W.heap.size, blkC g4 30 (cL x)] ∧ (FsA G A m) ∧ (1 ≤ k ∧ k ≤ 9) ∧ (m ≤ 23 + 8 * k)) (fun (k : Nat) (A : AdM) (m : Nat) => 9 - k) 1 Ax68 31 ⟨h16.subs rfl, (s3.pk [1,2,3,4,5,6,7,8,9] rfl), hA75, by omega, by omega⟩ ?_
 rintro k1 A92 m1 a1 w4 ⟨h17, s4, hA88, hk89, hn90⟩ K1 hK9
 refine sq fun _ hK10 => sqr fun _ hK11 => mv h17 rfl fun _ h18 => bv h18 (z := .bool (decide ((k1 : Int) ≤ 8))) rfl (cLe _ _ _ _ rfl) fun _ h19 => h19.sn [28,10,9,8,7,6,5,0,1,2] rfl fun h20 => hK11 _ _ ?_
 rcases bC (decide ((k1 : Int) ≤ 8)) with hc1 | hc1
 ·skip
  have hp1 : (k1 : Int) ≤ 8 := (dT hc1)
  refine wcT h20 rfl hc1 <| h20.sk [10,9,8,7,6,5,0,1,2] rfl fun h21 => wp_skip <| hK10 _ _ <| sq fun _ hK12 => wp_block ?_
  refine sq fun _ hK13 => sqr fun _ hK14 => mvs 2 h21 rfl fun _ h22 => bv h22 (z := .bool (decide ((k1 : Int) = cli))) rfl (cEq _ _ _ _ rfl) fun _ h23 => h23.sn [33,10,9,8,7,6,5,0,1,2] rfl fun h24 => hK14 _ _ ?_
  rcases bC (decide ((k1 : Int) = cli)) with hc2 | hc2
  ·skip
   have hp2 : (k1 : Int) = cli := (dT hc2)
   refine wcT h24 rfl hc2 <| h24.sk [10,9,8,7,6,5,0,1,2] rfl fun h25 => wp_exit ?_
   refine hK12 _ _ ?_
   refine wp_region_lit <| mv h25 rfl fun _ h26 => bv h26 (z := .int .i64 ((k1 + 1 : Nat) : Int)) rfl (bAdd _ _ _ (by omega) (by omega) (by omega)) fun _ h27 => h27.sk [30,29,9,8,7,6,5,0,1,2] rfl fun h28 => mv h28 rfl fun _ h29 => h29.sk [10,9,8,7,6,5,0,1,2] rfl fun h30 => wpList_nil ?_
   exact hK9 (k1 + 1) A92 m1 _ _ ⟨h30.subs rfl, s4, hA88, by omega, by omega⟩ (by omega)
  ·skip
   have hp3 : ¬ ((k1 : Int) = cli) := (dF hc2)
   refine wcF h24 rfl hc2 <| h24.sk [10,9,8,7,6,5,0,1,2] rfl fun h31 => wp_skip <| hK13 _ _ <| sqr fun _ hK15 => mv h31 rfl fun _ h32 => wpList_nil <| hK15 _ _ <| wp_block ?_
   refine wp_loop3 (fun (j : Nat) (A : AdM) (m : Nat) a' w' => Kn 54 [(11, .int .i64 (j : Int)), (10, .int .i64 (k1 : Int)), (9, .bool true), (8, .pointer (some ⟨df, 0, none⟩)), (7, .pointer (some ⟨cf, 0, none⟩)), (6, .bool false), (5, .pointer (some ⟨g4, 0, none⟩)), (0, .slice a0 n0 c0), (1, .int .i64 cli), (2, .agg (cL x).toArray)] a' ∧ Sep w' [blkC cf 65 [.pointer (some ⟨(A.ad 0), 0, none⟩), .map (some ob)], nodX G A, mapC KO ob A.C (opG G A), blkC df 51 [.slice nax18 F.N.length ncx19, .slice eax20 F.E.length ecx21, .slice oax22 F.O.length ocx23], ownC 0 88 3 nax18 F.N.length ncx19 (F.N.flatMap nodC), ownC 0 114 3 eax20 F.E.length ecx21 (F.E.flatMap entC), ownC 0 93 3 oax22 F.O.length ocx23 (F.O.flatMap opnC), oldC W W.heap.size, blkC g4 30 (cL x)] ∧ (FsA G A m) ∧ (j ≤ 8) ∧ (m ≤ 23 + 8 * k1 + j)) (fun (j : Nat) (A : AdM) (m : Nat) => 8 - j) 0 A92 m1 ⟨h32.subs rfl, s4, hA88, by omega, by omega⟩ ?_
   rintro j138 A139 m2 a2 w5 ⟨h33, s5, hA135, hj136, hn137⟩ K2 hK16
   refine sq fun _ hK17 => sqr fun _ hK18 => mv h33 rfl fun _ h34 => bv h34 (z := .bool (decide ((j138 : Int) < 8))) rfl (cLt _ _ _ _ rfl) fun _ h35 => h35.sn [35,11,10,9,8,7,6,5,0,1,2] rfl fun h36 => hK18 _ _ ?_
   rcases bC (decide ((j138 : Int) < 8)) with hc3 | hc3
   ·skip
    have hp4 : (j138 : Int) < 8 := (dT hc3)
    refine wcT h36 rfl hc3 <| h36.sk [11,10,9,8,7,6,5,0,1,2] rfl fun h37 => wp_skip <| hK17 _ _ <| sq fun _ hK19 => wp_block ?_
    refine sqr fun _ hK20 => mvs 3 h37 rfl fun _ h38 => ?_
    rcases bC ((lookO F.O (k1 : Int) (j138 : Int)).isSome) with hc4 | hc4
    ·skip
     obtain ⟨m3, hm1⟩ := Option.isSome_iff_exists.1 hc4
     refine cl h38 rfl cz_commonsref06_Fs_Of (ofYes_s (F := F) (s5.pk [3,4,5,6,0,1,2,7,8] rfl) hz hm1) fun _ v4 w6 r5 h39 => ?_
     obtain ⟨rfl, s6⟩ := r5
     refine mv h39 rfl fun _ h40 => h40.sn [12,11,10,9,8,7,6,5,0,1,2] rfl fun h41 => hK20 _ _ <| sqr fun _ hK21 => mvs 3 h41 rfl fun _ h42 => bu h42 (v := .agg #[.int .i64 6, .string (strB []), .string (strB []), .int .i64 0, .int .i64 (j138 : Int), .int .i64 0, .int .i64 0, .string (strB [])]) rfl (fun w => by kernel_rfl) fun _ h43 => cl h43 rfl cz_posix_Fs_Do (doQ_c (cf := cf) (A := A139) (F := G) (n := m2) (x := (⟨6, [], [], 0, (j138 : Int), 0, 0, []⟩ : CallM)) (G := G) (r := (errR 0)) (s6.pk [4,5,6,0,1,2,3,7,8] rfl) hA135 (by omega) (Nat.zero_le _) (Nat.zero_le _) (Nat.zero_le _) (wfF (by omega)) (doSync_y (by omega) ((hO (k1 : Int) (j138 : Int) (by omega)).trans hm1))) fun _ v5 w8 r6 h44 => ?_
     obtain ⟨Ax182, sax183, scx184, rfl, s7, hA189⟩ := r6
     refine so (wanted_none rfl) fun _ hK22 => xalloc h44 rfl rfl rfl rfl (z := zL) (fun _ => rfl) s7 fun _ g1 w9 h45 s9 _ _ => hK22 _ _ ?_
     refine stA h45 s9 0 rfl rfl rfl (by kernel_rfl) rfl rfl rfl rfl fun _ w10 h46 s10 _ => h46.sn [13,12,11,10,9,8,7,6,5,0,1,2] rfl fun h47 => hK21 _ _ <| sqr fun _ hK23 => fav h47 rfl (fz_api_Reply_0 _ _) fun _ h48 => ldv h48 s10 0 Tryz.underlying32 rfl rfl rfl rfl fun _ h49 => bv h49 (z := .bool true) rfl (cEq _ _ _ _ rfl) fun _ h50 => mv h50 rfl fun _ h51 => bv h51 (z := .bool true) rfl (cGe _ _ _ _ (decide_eq_true (by omega))) fun _ h52 => bv h52 (z := .bool false) rfl (bSameN _ Tryz.underlying4 _ _ _) fun _ h53 => ?_
     refine h53.sn [52,13,12,11,10,9,8,7,6,5,0,1,2] rfl fun h54 => hK23 _ _ <| wcF h54 rfl rfl <| h54.sk [13,12,11,10,9,8,7,6,5,0,1,2] rfl fun h55 => wp_skip <| hK19 _ _ <| wp_region_lit <| mv h55 rfl fun _ h56 => bv h56 (z := .int .i64 ((j138 + 1 : Nat) : Int)) rfl (bAdd _ _ _ (by omega) (by omega) (by omega)) fun _ h57 => h57.sk [37,36,13,12,10,9,8,7,6,5,0,1,2] rfl fun h58 => mv h58 rfl fun _ h59 => ?_
     refine h59.sk [11,13,12,10,9,8,7,6,5,0,1,2] rfl fun h60 => wpList_nil ?_
     exact hK16 (j138 + 1) Ax182 (m2 + 1) _ _ ⟨h60.subs rfl, (s10.pk [2,3,4,5,6,7,8,9,10] rfl), hA189, by omega, by omega⟩ (by omega)
    ·skip
     have hm2 := isNone_of hc4
     refine cl h38 rfl cz_commonsref06_Fs_Of (ofNo_s (F := F) (s5.pk [3,4,5,6,0,1,2,7,8] rfl) hz hm2) fun _ v6 w11 r7 h61 => ?_
     obtain ⟨rfl, s11⟩ := r7
     refine mv h61 rfl fun _ h62 => h62.sn [12,11,10,9,8,7,6,5,0,1,2] rfl fun h63 => hK20 _ _ <| sqr fun _ hK24 => mvs 3 h63 rfl fun _ h64 => bu h64 (v := .agg #[.int .i64 6, .string (strB []), .string (strB []), .int .i64 0, .int .i64 (j138 : Int), .int .i64 0, .int .i64 0, .string (strB [])]) rfl (fun w => by kernel_rfl) fun _ h65 => cl h65 rfl cz_posix_Fs_Do (doQ_c (cf := cf) (A := A139) (F := G) (n := m2) (x := (⟨6, [], [], 0, (j138 : Int), 0, 0, []⟩ : CallM)) (G := G) (r := (errR 16)) (s11.pk [4,5,6,0,1,2,3,7,8] rfl) hA135 (by omega) (Nat.zero_le _) (Nat.zero_le _) (Nat.zero_le _) (wfF (by omega)) (doSync_n (by omega) ((hO (k1 : Int) (j138 : Int) (by omega)).trans hm2))) fun _ v7 w12 r8 h66 => ?_
     obtain ⟨Ax251, sax252, scx253, rfl, s12, hA258⟩ := r8
     refine so (wanted_none rfl) fun _ hK25 => xalloc h66 rfl rfl rfl rfl (z := zL) (fun _ => rfl) s12 fun _ g2 w13 h67 s13 _ _ => hK25 _ _ ?_
     refine stA h67 s13 0 rfl rfl rfl (by kernel_rfl) rfl rfl rfl rfl fun _ w14 h68 s14 _ => h68.sn [13,12,11,10,9,8,7,6,5,0,1,2] rfl fun h69 => hK24 _ _ <| sqr fun _ hK26 => fav h69 rfl (fz_api_Reply_0 _ _) fun _ h70 => ldv h70 s14 0 Tryz.underlying32 rfl rfl rfl rfl fun _ h71 => bv h71 (z := .bool false) rfl (cEq _ _ _ _ rfl) fun _ h72 => mv h72 rfl fun _ h73 => bv h73 (z := .bool false) rfl (cGe _ _ _ _ rfl) fun _ h74 => bv h74 (z := .bool false) rfl (bSameN _ Tryz.underlying4 _ _ _) fun _ h75 => ?_
     refine h75.sn [52,13,12,11,10,9,8,7,6,5,0,1,2] rfl fun h76 => hK26 _ _ <| wcF h76 rfl rfl <| h76.sk [13,12,11,10,9,8,7,6,5,0,1,2] rfl fun h77 => wp_skip <| hK19 _ _ <| wp_region_lit <| mv h77 rfl fun _ h78 => bv h78 (z := .int .i64 ((j138 + 1 : Nat) : Int)) rfl (bAdd _ _ _ (by omega) (by omega) (by omega)) fun _ h79 => h79.sk [37,36,13,12,10,9,8,7,6,5,0,1,2] rfl fun h80 => mv h80 rfl fun _ h81 => ?_
     refine h81.sk [11,13,12,10,9,8,7,6,5,0,1,2] rfl fun h82 => wpList_nil ?_
     exact hK16 (j138 + 1) Ax251 (m2 + 1) _ _ ⟨h82.subs rfl, (s14.pk [2,3,4,5,6,7,8,9,10] rfl), hA258, by omega, by omega⟩ (by omega)
   ·skip
    have hp5 : ¬ ((j138 : Int) < 8) := (dF hc3)
    refine wcF h36 rfl hc3 <| h36.sk [11,10,9,8,7,6,5,0,1,2] rfl fun h83 => wp_exit ?_
    refine hK12 _ _ ?_
    refine wp_region_lit <| mv h83 rfl fun _ h84 => bv h84 (z := .int .i64 ((k1 + 1 : Nat) : Int)) rfl (bAdd _ _ _ (by omega) (by omega) (by omega)) fun _ h85 => h85.sk [30,29,11,9,8,7,6,5,0,1,2] rfl fun h86 => mv h86 rfl fun _ h87 => h87.sk [10,11,9,8,7,6,5,0,1,2] rfl fun h88 => wpList_nil ?_
    exact hK9 (k1 + 1) A139 m2 _ _ ⟨h88.subs rfl, s5, hA135, by omega, by omega⟩ (by omega)
 ·skip
  have hp6 : ¬ ((k1 : Int) ≤ 8) := (dF hc1)
  refine wcF h20 rfl hc1 <| h20.sk [10,9,8,7,6,5,0,1,2] rfl fun h89 => wp_exit ?_
  refine hK7 _ _ ?_
  refine sqr fun _ hK27 => cl h89 rfl cz_commonslaw06_lives (lives_s s4) fun _ v8 w15 r9 h90 => ?_
  obtain ⟨rfl, s15⟩ := r9
  refine h90.sk [53,10,9,8,7,5,0,1,2] rfl fun h91 => mv h91 rfl fun _ h92 => h92.sn [6,10,9,8,7,5,0,1,2] rfl fun h93 => hK27 _ _ <| wp_ret ?_
  try simp only [Exit.then, Exit.inBlock]
  refine retR (v := .bool true) (res1 h93 rfl rfl) h93.defs ?_
  exact ⟨rfl, (s15.get 7 rfl : Below _ _ _ ∧ _).1⟩

end Go.Proofs.YtcanemamnmmbcaaGreatDoor
