/- PosixReads (sx/ptM.py) -/
import Derived.Test.YtcanemamnmmbcaaGreatDoorPyO
import Derived.Test.YtcanemamnmmbcaaGreatDoorPxZ
import Derived.Test.YtcanemamnmmbcaaGreatDoorSxU
namespace Go.Proofs.YtcanemamnmmbcaaGreatDoor
open Go.RowKit
set_option linter.unusedSimpArgs false
set_option linter.unusedVariables false
set_option maxRecDepth 100000

abbrev unlX : CallM := ⟨10, [47, 122, 122], [], 0, 0, 0, 0, []⟩
abbrev opnX : CallM := ⟨1, [47, 122, 122], [], 3, 0, 0, 0, []⟩
abbrev wrX (off : Int) (D : List UInt8) : CallM := ⟨4, [], [], 0, 0, off, 0, D⟩
abbrev rdX (off n : Int) : CallM := ⟨3, [], [], 0, 0, off, n, []⟩
theorem dropQ_c {w : World} {cf ob n : Nat} {F G : FsM} {A : AdM} {R : List Ch} {c : Int} (hS0 : Sep w ((cP cf ob F A) ++ R)) (h : FsA F A n) (hc : (Lit.int .i64 c).wf = true) (e : dropF F c = G) :
  CallsR Tryz.prog 20 #[.pointer (some ⟨cf, 0, none⟩), .int .i64 c] w (fun v w' => v = .tuple #[] ∧ Sep w' ((cP cf ob G A) ++ R) ∧ FsA G A (n + 1)) := by
 subst e
 exact Calls.mono (drop_c (c := c) hS0 h.ok.toFsC hc) fun e W' ⟨v, e1, e2, q⟩ => ⟨v, e1, e2, q, ⟨h.ok.drop_ c, h.sz.drop_ c, h.ad.drop c⟩⟩
theorem drop_none (F : FsM) (c fd : Int) : lookO (dropF F c).O c fd = none := by
 show lookO (dropO F.O c) c fd = none
 rw [lookO_drop, if_pos rfl]
theorem free0 {F : FsM} (hn : ∀ fd, lookO F.O 1 fd = none) : freeF F 1 = some 0 := by
 unfold freeF
 rw [show List.range 8 = [0, 1, 2, 3, 4, 5, 6, 7] from rfl, List.find?_cons, hn]; rfl
theorem reads_openY {F : FsM} (hf : (findF F [47, 122, 122]).1 = 0) : doF F 1 opnX = (F, errR 11) := by
 show openF F 1 [47, 122, 122] 3 = _
 unfold openF
 rw [if_pos (.inr (.inr rfl)), if_pos hf, if_pos rfl]
theorem reads_openN {F : FsM} (h : FsOk F) (hn : ∀ fd, lookO F.O 1 fd = none) (hf : ¬ (findF F [47, 122, 122]).1 = 0) :
  ∃ G k, doF F 1 opnX = (G, fdR 0) ∧ lookO G.O 1 0 = some k ∧ (G.at k).data = [] ∧ k < G.N.length := by
 have hp : pathO [47, 122, 122] = some ([] ++ [strB [122, 122]]) := by decide +kernel
 have h0 := h.toFsC.n0.2
 have hpl : placeF F [47, 122, 122] = (0, 0, strB [122, 122]) := by
  rw [placeF_snoc hp]; unfold placeL
  rw [show walkF F 0 [] = (0, 0) from rfl, if_pos rfl, if_pos h0]
 have hfd := find_place (F := F) (X := [47, 122, 122]) (by rw [hpl])
 have hf10 : (findF F [47, 122, 122]).1 = 10 := by
  rw [hpl] at hfd
  cases hl : lookE F.E 0 (strB [122, 122]) with
  | none => rw [show lookE F.E (0, 0, strB [122, 122]).2.1 ((0 : Int), (0 : Nat), strB [122, 122]).2.2 = none from hl] at hfd; rw [hfd]
  | some m => rw [show lookE F.E (0, 0, strB [122, 122]).2.1 ((0 : Int), (0 : Nat), strB [122, 122]).2.2 = some m from hl] at hfd; rw [hfd] at hf; exact absurd rfl hf
 refine ⟨fdF (putF (nodeF F false) 0 (strB [122, 122]) F.N.length) 1 0 F.N.length, F.N.length, ?_, ?_, ?_, ?_⟩
 ·show openF F 1 [47, 122, 122] 3 = _
  unfold openF
  rw [if_pos (.inr (.inr rfl)), if_neg hf, if_pos ⟨hf10, by rw [hpl], by decide⟩, free0 hn, hpl]
  rfl
 ·show lookO (F.O ++ [⟨1, 0, F.N.length⟩]) 1 0 = _
  rw [lookO_app, hn, if_pos ⟨rfl, rfl⟩]; rfl
 ·show ((nodeF F false).at F.N.length).data = []
  rw [nodeF_at, if_pos rfl]
 ·show F.N.length < (nodeF F false).N.length
  rw [nodeF_len]; omega
/-- what a write comes to -/
theorem write_out {F G : FsM} {r : RepM} {k : Nat} {W D : List UInt8} {off : Int} (hl : lookO F.O 1 0 = some k) (hd : (F.at k).data = W) (hk : k < F.N.length) (hD : D.length ≤ 64) (e : doF F 1 (wrX off D) = (G, r)) :
  (lookO G.O 1 0 = some k ∧ k < G.N.length) ∧ ((r.e = 0 ∧ D ≠ [] ∧ (0 ≤ off ∧ off + (D.length : Int) ≤ 256) ∧ (G.at k).data = wrote W off.toNat D) ∨ (¬ (r.e = 0 ∧ D ≠ []) ∧ (G.at k).data = W)) := by
 have e' : writeF F 1 0 off D = (G, r) := e
 unfold writeF at e'
 rw [hl] at e'
 dsimp only at e'
 by_cases h1 : off < 0 ∨ D.length > 64
 ·rw [if_pos h1] at e'; cases e'
  exact ⟨⟨hl, hk⟩, .inr ⟨fun q => absurd q.1 (by decide), hd⟩⟩
 ·rw [if_neg h1] at e'
  by_cases h2 : D.length = 0
  ·rw [if_pos h2] at e'; cases e'
   exact ⟨⟨hl, hk⟩, .inr ⟨fun q => q.2 (List.eq_nil_of_length_eq_zero h2), hd⟩⟩
  ·rw [if_neg h2] at e'
   by_cases h3 : off + D.length > 256
   ·rw [if_pos h3] at e'; cases e'
    exact ⟨⟨hl, hk⟩, .inr ⟨fun q => absurd q.1 (by decide), hd⟩⟩
   ·rw [if_neg h3] at e'; cases e'
    refine ⟨⟨hl, by show k < (F.N.set k _).length; rw [List.length_set]; exact hk⟩, .inl ⟨rfl, fun q => h2 (by rw [q]; rfl), by omega, ?_⟩⟩
    rw [dataF_at hk, if_pos rfl, hd]
theorem read_out {F : FsM} {k : Nat} {W : List UInt8} {off n : Int} (hl : lookO F.O 1 0 = some k) (hd : (F.at k).data = W) : ∃ r, doF F 1 (rdX off n) = (F, r) ∧ (off < 0 ∨ n < 0 ∨ n > 64 → r.e = 15) ∧ (¬ (off < 0 ∨ n < 0 ∨ n > 64) → r.e = 0 ∧ r.data = (W.drop off.toNat).take n.toNat) := by
 by_cases h : off < 0 ∨ n < 0 ∨ n > 64
 ·refine ⟨errR 15, ?_, fun _ => rfl, fun q => absurd h q⟩
  show readF F 1 0 off n = _
  unfold readF; rw [hl]; exact if_pos h
 ·refine ⟨dataR ((W.drop off.toNat).take n.toNat), ?_, fun q => absurd q h, fun _ => ⟨rfl, rfl⟩⟩
  show readF F 1 0 off n = _
  unfold readF; rw [hl, hd.symm]; exact if_neg h
theorem wrote_nil (n : Nat) (D : List UInt8) : wrote [] n D = sized [] n ++ D := by unfold wrote; rw [List.drop_nil, List.append_nil]
theorem FsOk.data_le {F : FsM} (h : FsOk F) {k : Nat} (hk : k < F.N.length) {W : List UInt8} (hd : (F.at k).data = W) : W.length ≤ 256 := by rw [← hd]; exact (h.toFsC.k k hk).1


set_option maxHeartbeats 4000000 in
theorem PosixReads_walkL (W : World) (a0 : Option Addr) (n0 c0 : Nat) (f : Nat → AskV) (rb : AsksIn W a0 n0 c0 f) (off : Int) (hoff : (Lit.int .i64 off).wf = true) (s : List UInt8) (pt : Int) (hpt : (Lit.int .i64 pt).wf = true) (t : List UInt8) (fro : Int) (hfro : (Lit.int .i64 fro).wf = true) (n : Int) (hn : (Lit.int .i64 n).wf = true) :
  Calls Tryz.prog 7 #[.slice a0 n0 c0, .int .i64 off, .string (strB s), .int .i64 pt, .string (strB t), .int .i64 fro, .int .i64 n] W fun e W' => e = .returned (.bool true) ∧ Below W.heap.size W W' := by
 have hS : Sep W [oldC W W.heap.size] := Sep.start W
 suffices hZ : CallsR Tryz.prog 7 #[.slice a0 n0 c0, .int .i64 off, .string (strB s), .int .i64 pt, .string (strB t), .int .i64 fro, .int .i64 n] W (fun v W' => v = .bool true ∧ Below W.heap.size W W') from Calls.mono hZ fun e W' ⟨v, e1, e2, h⟩ => ⟨by rw [e1, e2], h⟩
 have hoff : -9223372036854775808 ≤ off ∧ off ≤ 9223372036854775807 := i64_bd hoff
 have hpt : -9223372036854775808 ≤ pt ∧ pt ≤ 9223372036854775807 := i64_bd hpt
 have hfro : -9223372036854775808 ≤ fro ∧ fro ≤ 9223372036854775807 := i64_bd hfro
 have hn : -9223372036854775808 ≤ n ∧ n ≤ 9223372036854775807 := i64_bd hn
 refine enterR Tryz.func7 rfl (N := 160) Tryz.ntmps7 (by show 7 ≤ 160; decide) [(0, .slice a0 n0 c0), (1, .int .i64 off), (2, .string (strB s)), (3, .int .i64 pt), (4, .string (strB t)), (5, .int .i64 fro), (6, .int .i64 n)] rfl fun _ h1 => sqr fun _ hK3 => mv h1 rfl fun _ h4 => wpList_nil <| hK3 _ _ <| sqr fun _ hK6 => mv h4 rfl fun _ h7 => cl h7 rfl cz_commonslaw06_played (playedF_s (most := 30) hS rb (by decide)) fun _ v3 w1 r1 h5 => ?_
 obtain ⟨cf, ob, F, Ax9, df, nax10, ncx11, eax12, ecx13, oax14, ocx15, rfl, s1, hA20⟩ := r1
 refine mvs 7 h5 rfl fun _ h8 => h8.sn [17,15,14,0,1,2,3,4,5,6] rfl fun h9 => hK6 _ _ <| sq fun _ hK1 => sqr fun _ hK2 => mvs 2 h9 rfl fun _ h10 => h10.sn [32,17,15,14,0,1,2,3,4,5,6] rfl fun h11 => hK2 _ _ <| wcF h11 rfl rfl <| h11.sk [17,15,14,0,1,2,3,4,5,6] rfl fun h12 => wp_skip <| hK1 _ _ ?_
 refine sqr fun _ hK4 => mv h12 rfl fun _ h13 => ?_
 obtain ⟨F1, hF1⟩ : ∃ G, dropF F 1 = G := ⟨_, rfl⟩
 refine cl h13 rfl cz_posix_Fs_Drop (dropQ_c (A := Ax9) (F := F) (n := 30) (c := 1) s1 hA20 (by decide) hF1) fun _ v4 w2 r3 h14 => ?_
 obtain ⟨rfl, s2, hA53⟩ := r3
 refine h14.sn [17,15,14,0,1,2,3,4,5,6] rfl fun h15 => hK4 _ _ <| sqr fun _ hK5 => mv h15 rfl fun _ h16 => bu h16 (v := .agg #[.int .i64 10, .string (strB [47, 122, 122]), .string (strB []), .int .i64 0, .int .i64 0, .int .i64 0, .int .i64 0, .string (strB [])]) rfl (fun w => by kernel_rfl) fun _ h17 => ?_
 obtain ⟨F2, r2, h2⟩ : ∃ G r, doF F1 2 unlX = (G, r) := ⟨_, _, rfl⟩
 have hN2 : ∀ fd, lookO F2.O 1 fd = none := fun fd => by have z := do_fds F1 2 unlX (k := 1) fd (by decide); rw [h2] at z; rw [z, ← hF1]; exact drop_none F 1 fd
 refine cl h17 rfl cz_posix_Fs_Do (doQ_c (cf := cf) (A := Ax9) (F := F1) (n := 31) (x := (⟨10, [47, 122, 122], [], 0, 0, 0, 0, []⟩ : CallM)) (G := F2) (r := r2) s2 hA53 (by omega) (by decide) (by decide) (by decide) (by decide) h2) fun _ v5 w3 r4 h18 => ?_
 obtain ⟨Ax62, sax63, scx64, rfl, s3, hA69⟩ := r4
 refine h18.sn [17,15,14,0,1,2,3,4,5,6] rfl fun h19 => hK5 _ _ <| sqr fun _ hK7 => mv h19 rfl fun _ h20 => bu h20 (v := .agg #[.int .i64 1, .string (strB [47, 122, 122]), .string (strB []), .int .i64 3, .int .i64 0, .int .i64 0, .int .i64 0, .string (strB [])]) rfl (fun w => by kernel_rfl) fun _ h21 => ?_
 rcases bC (decide ((findF F2 [47, 122, 122]).1 = 0)) with hc1 | hc1
 ·skip
  have hp1 : (findF F2 [47, 122, 122]).1 = 0 := (dT hc1)
  refine cl h21 rfl cz_posix_Fs_Do (doQ_c (cf := cf) (A := Ax62) (F := F2) (n := 32) (x := (⟨1, [47,122,122], [], 3, 0, 0, 0, []⟩ : CallM)) (G := F2) (r := (errR 11)) (s3.pk [1,2,3,0,4,5,6,7,8] rfl) hA69 (by omega) (by decide) (by decide) (by decide) (by decide) (reads_openY (dT hc1))) fun _ v6 w4 r5 h22 => ?_
  obtain ⟨Ax80, sax81, scx82, rfl, s4, hA87⟩ := r5
  refine so (wanted_none rfl) fun _ hK8 => xalloc h22 rfl rfl rfl rfl (z := zL) (fun _ => rfl) s4 fun _ g1 w5 h23 s5 _ _ => hK8 _ _ ?_
  refine stA h23 s5 0 rfl rfl rfl (by kernel_rfl) rfl rfl rfl rfl fun _ w6 h24 s6 _ => h24.sn [18,17,15,14,0,1,2,3,4,5,6] rfl fun h25 => hK7 _ _ <| sq fun _ hK9 => sqr fun _ hK10 => fav h25 rfl (fz_api_Reply_0 _ _) fun _ h26 => ldv h26 (v := .int .i64 11) s6 0 Tryz.underlying32 rfl rfl rfl rfl fun _ h27 => bv h27 rfl (cNe _ _ _ _ rfl) fun _ h28 => h28.sn [43,18,17,15,14,0,1,2,3,4,5,6] rfl fun h29 => hK10 _ _ <| wcT h29 rfl rfl ?_
  refine h29.sk [18,17,15,14,0,1,2,3,4,5,6] rfl fun h30 => sqr fun _ hK11 => fav h30 rfl (fz_api_Reply_0 _ _) fun _ h31 => ldv h31 (v := .int .i64 11) s6 0 Tryz.underlying32 rfl rfl rfl rfl fun _ h32 => bv h32 rfl (cEq _ _ _ _ rfl) fun _ h33 => mv h33 rfl fun _ h34 => su h34 (wF h34 (E := true) rfl rfl rfl) rfl rfl rfl fun _ h35 => su h35 (wF h35 (E := true) rfl rfl rfl) rfl rfl rfl fun _ h36 => su h36 (wF h36 (E := true) rfl rfl rfl) rfl rfl rfl fun _ h37 => sv1 h37 rfl (v := .bool true) (rpick h37 rfl rfl rfl) fun _ h38 => ?_
  refine mv h38 rfl fun _ h39 => so (wT h39 (E := true) rfl rfl rfl) fun _ hK12 => xcall h39 rfl rfl rfl (xs := []) rfl cz_commonslaw06_lives rfl (vs := []) rfl (args := #[]) rfl (lives_s s6) fun _ v7 w7 r7 h40 => hK12 _ _ ?_
  obtain ⟨rfl, s7⟩ := r7
  refine sv1 h40 rfl (v := .bool true) (rpick h40 rfl rfl rfl) fun _ h41 => h41.sk [54,53,52,51,50,49,48,47,46,45,44,18,17,15,0,1,2,3,4,5,6] rfl fun h42 => mv h42 rfl fun _ h43 => h43.sn [14,18,17,15,0,1,2,3,4,5,6] rfl fun h44 => hK11 _ _ <| wp_ret ?_
  try simp only [Exit.then, Exit.inBlock]
  refine retR (v := .bool true) (res1 h44 rfl rfl) h44.defs ?_
  exact ⟨rfl, (s7.get 10 rfl : Below _ _ _ ∧ _).1⟩
 ·skip
  have hp2 : ¬ ((findF F2 [47, 122, 122]).1 = 0) := (dF hc1)
  obtain ⟨F3, k, h3, hl3, hd3, hk3⟩ := reads_openN hA69.ok hN2 (dF hc1)
  refine cl h21 rfl cz_posix_Fs_Do (doQ_c (cf := cf) (A := Ax62) (F := F2) (n := 32) (x := (⟨1, [47,122,122], [], 3, 0, 0, 0, []⟩ : CallM)) (G := F3) (r := (fdR 0)) (s3.pk [1,2,3,0,4,5,6,7,8] rfl) hA69 (by omega) (by decide) (by decide) (by decide) (by decide) h3) fun _ v8 w8 r8 h45 => ?_
  obtain ⟨Ax148, sax149, scx150, rfl, s8, hA155⟩ := r8
  refine so (wanted_none rfl) fun _ hK13 => xalloc h45 rfl rfl rfl rfl (z := zL) (fun _ => rfl) s8 fun _ g2 w9 h46 s9 _ _ => hK13 _ _ ?_
  refine stA h46 s9 0 rfl rfl rfl (by kernel_rfl) rfl rfl rfl rfl fun _ w10 h47 s10 _ => h47.sn [18,17,15,14,0,1,2,3,4,5,6] rfl fun h48 => hK7 _ _ <| sq fun _ hK14 => sqr fun _ hK15 => fav h48 rfl (fz_api_Reply_0 _ _) fun _ h49 => ldv h49 (v := .int .i64 0) s10 0 Tryz.underlying32 rfl rfl rfl rfl fun _ h50 => bv h50 rfl (cNe _ _ _ _ rfl) fun _ h51 => h51.sn [43,18,17,15,14,0,1,2,3,4,5,6] rfl fun h52 => hK15 _ _ <| wcF h52 rfl rfl ?_
  refine h52.sk [18,17,15,14,0,1,2,3,4,5,6] rfl fun h53 => wp_skip <| hK14 _ _ <| sq fun K1 hK16 => ?_
  have hJ184 : ∀ (D : List UInt8) a' w', Kn 160 [(18, .pointer (some ⟨g2, 0, none⟩)), (17, .bool true), (15, .pointer (some ⟨cf, 0, none⟩)), (14, .bool false), (0, .slice a0 n0 c0), (1, .int .i64 off), (2, .string (strB D)), (3, .int .i64 pt), (4, .string (strB t)), (5, .int .i64 fro), (6, .int .i64 n)] a' → Sep w' [blkC g2 37 [.int .i64 0, .int .i64 0, .string (strB []), .slice sax149 (([] : List ByteArray).length) scx150, .int .i64 0, .int .i64 0, .int .i64 0], ownC 0 9 1 sax149 ([] : List ByteArray).length scx150 (([] : List ByteArray).flatMap sE), blkC cf 65 [.pointer (some ⟨(Ax148.ad 0), 0, none⟩), .map (some ob)], nodX F3 Ax148, mapC KO ob Ax148.C (opG F3 Ax148), ownC 0 9 1 sax63 r2.names.length scx64 (r2.names.flatMap sE), blkC df 51 [.slice nax10 F.N.length ncx11, .slice eax12 F.E.length ecx13, .slice oax14 F.O.length ocx15], ownC 0 88 3 nax10 F.N.length ncx11 (F.N.flatMap nodC), ownC 0 114 3 eax12 F.E.length ecx13 (F.E.flatMap entC), ownC 0 93 3 oax14 F.O.length ocx15 (F.O.flatMap opnC), oldC W W.heap.size] → (D.length ≤ 64) → K1 a' w' := by
   intro D a1 w11 h54 s11 hD
   refine hK16 _ _ ?_
   refine sq fun K2 hK17 => ?_
   have hJ190 : ∀ (M : List UInt8) a' w', Kn 160 [(18, .pointer (some ⟨g2, 0, none⟩)), (17, .bool true), (15, .pointer (some ⟨cf, 0, none⟩)), (14, .bool false), (0, .slice a0 n0 c0), (1, .int .i64 off), (2, .string (strB D)), (3, .int .i64 pt), (4, .string (strB M)), (5, .int .i64 fro), (6, .int .i64 n)] a' → Sep w' [blkC g2 37 [.int .i64 0, .int .i64 0, .string (strB []), .slice sax149 (([] : List ByteArray).length) scx150, .int .i64 0, .int .i64 0, .int .i64 0], ownC 0 9 1 sax149 ([] : List ByteArray).length scx150 (([] : List ByteArray).flatMap sE), blkC cf 65 [.pointer (some ⟨(Ax148.ad 0), 0, none⟩), .map (some ob)], nodX F3 Ax148, mapC KO ob Ax148.C (opG F3 Ax148), ownC 0 9 1 sax63 r2.names.length scx64 (r2.names.flatMap sE), blkC df 51 [.slice nax10 F.N.length ncx11, .slice eax12 F.E.length ecx13, .slice oax14 F.O.length ocx15], ownC 0 88 3 nax10 F.N.length ncx11 (F.N.flatMap nodC), ownC 0 114 3 eax12 F.E.length ecx13 (F.E.flatMap entC), ownC 0 93 3 oax14 F.O.length ocx15 (F.O.flatMap opnC), oldC W W.heap.size] → (M.length ≤ 64) → K2 a' w' := by
    intro M a2 w12 h55 s12 hM
    refine hK17 _ _ ?_
    refine sqr fun _ hK18 => mv h55 rfl fun _ h56 => wpList_nil <| hK18 _ _ <| sqr fun _ hK19 => mvs 3 h56 rfl fun _ h57 => bu h57 (v := .agg #[.int .i64 4, .string (strB []), .string (strB []), .int .i64 0, .int .i64 0, .int .i64 off, .int .i64 0, .string (strB D)]) rfl (fun w => by kernel_rfl) fun _ h58 => ?_
    obtain ⟨F4, rF4, hF4⟩ : ∃ G r, doF F3 1 (wrX off D) = (G, r) := ⟨_, _, rfl⟩
    obtain ⟨⟨hlF4, hkF4⟩, hwF4⟩ := write_out (W := []) hl3 hd3 hk3 (by omega) hF4
    refine cl h58 rfl cz_posix_Fs_Do (doQ_c (cf := cf) (A := Ax148) (F := F3) (n := 33) (x := (⟨4, [], [], 0, 0, off, 0, D⟩ : CallM)) (G := F4) (r := rF4) (s12.pk [2,3,4,0,1,5,6,7,8,9,10] rfl) hA155 (by omega) (Nat.zero_le _) (Nat.zero_le _) (Nat.le_trans hD (by decide)) wf0 hF4) fun _ v9 w13 r9 h59 => ?_
    obtain ⟨Ax207, sax208, scx209, rfl, s13, hA214⟩ := r9
    refine so (wanted_none rfl) fun _ hK20 => xalloc h59 rfl rfl rfl rfl (z := zL) (fun _ => rfl) s13 fun _ g3 w14 h60 s14 _ _ => hK20 _ _ ?_
    refine stA h60 s14 0 rfl rfl rfl (by kernel_rfl) rfl rfl rfl rfl fun _ w15 h61 s15 _ => h61.sn [20,19,18,17,15,14,0,1,2,3,4,5,6] rfl fun h62 => hK19 _ _ <| sq fun K3 hK21 => ?_
    have hJ233 : ∀ (P : List UInt8) a' w', Kn 160 [(20, .pointer (some ⟨g3, 0, none⟩)), (19, .string (strB P)), (18, .pointer (some ⟨g2, 0, none⟩)), (17, .bool true), (15, .pointer (some ⟨cf, 0, none⟩)), (14, .bool false), (0, .slice a0 n0 c0), (1, .int .i64 off), (2, .string (strB D)), (3, .int .i64 pt), (4, .string (strB M)), (5, .int .i64 fro), (6, .int .i64 n)] a' → Sep w' [blkC g3 37 [.int .i64 rF4.e, .int .i64 rF4.fd, .string (strB rF4.data), .slice sax208 rF4.names.length scx209, .int .i64 rF4.kind, .int .i64 rF4.links, .int .i64 rF4.size], ownC 0 9 1 sax208 rF4.names.length scx209 (rF4.names.flatMap sE), blkC cf 65 [.pointer (some ⟨(Ax207.ad 0), 0, none⟩), .map (some ob)], nodX F4 Ax207, mapC KO ob Ax207.C (opG F4 Ax207), blkC g2 37 [.int .i64 0, .int .i64 0, .string (strB []), .slice sax149 (([] : List ByteArray).length) scx150, .int .i64 0, .int .i64 0, .int .i64 0], ownC 0 9 1 sax149 ([] : List ByteArray).length scx150 (([] : List ByteArray).flatMap sE), ownC 0 9 1 sax63 r2.names.length scx64 (r2.names.flatMap sE), blkC df 51 [.slice nax10 F.N.length ncx11, .slice eax12 F.E.length ecx13, .slice oax14 F.O.length ocx15], ownC 0 88 3 nax10 F.N.length ncx11 (F.N.flatMap nodC), ownC 0 114 3 eax12 F.E.length ecx13 (F.E.flatMap entC), ownC 0 93 3 oax14 F.O.length ocx15 (F.O.flatMap opnC), oldC W W.heap.size] → ((F4.at k).data = P) → K3 a' w' := by
     intro P a3 w16 h63 s16 hP
     have hlP : P.length ≤ 256 := hA214.ok.data_le hkF4 hP
     refine hK21 _ _ ?_
     refine sqr fun _ hK22 => mvs 3 h63 rfl fun _ h64 => bu h64 (v := .agg #[.int .i64 4, .string (strB []), .string (strB []), .int .i64 0, .int .i64 0, .int .i64 pt, .int .i64 0, .string (strB M)]) rfl (fun w => by kernel_rfl) fun _ h65 => ?_
     obtain ⟨F5, rF5, hF5⟩ : ∃ G r, doF F4 1 (wrX pt M) = (G, r) := ⟨_, _, rfl⟩
     obtain ⟨⟨hlF5, hkF5⟩, hwF5⟩ := write_out (W := P) hlF4 hP hkF4 (by omega) hF5
     refine cl h65 rfl cz_posix_Fs_Do (doQ_c (cf := cf) (A := Ax207) (F := F4) (n := 34) (x := (⟨4, [], [], 0, 0, pt, 0, M⟩ : CallM)) (G := F5) (r := rF5) (s16.pk [2,3,4,0,1,5,6,7,8,9,10,11,12] rfl) hA214 (by omega) (Nat.zero_le _) (Nat.zero_le _) (Nat.le_trans hM (by decide)) wf0 hF5) fun _ v10 w17 r10 h66 => ?_
     obtain ⟨Ax247, sax248, scx249, rfl, s17, hA254⟩ := r10
     refine so (wanted_none rfl) fun _ hK23 => xalloc h66 rfl rfl rfl rfl (z := zL) (fun _ => rfl) s17 fun _ g4 w18 h67 s18 _ _ => hK23 _ _ ?_
     refine stA h67 s18 0 rfl rfl rfl (by kernel_rfl) rfl rfl rfl rfl fun _ w19 h68 s19 _ => h68.sn [21,20,19,18,17,15,14,0,1,2,3,4,5,6] rfl fun h69 => hK22 _ _ <| sq fun K4 hK24 => ?_
     have hJ273 : ∀ (Q : List UInt8) a' w', Kn 160 [(21, .pointer (some ⟨g4, 0, none⟩)), (20, .pointer (some ⟨g3, 0, none⟩)), (19, .string (strB Q)), (18, .pointer (some ⟨g2, 0, none⟩)), (17, .bool true), (15, .pointer (some ⟨cf, 0, none⟩)), (14, .bool false), (0, .slice a0 n0 c0), (1, .int .i64 off), (2, .string (strB D)), (3, .int .i64 pt), (4, .string (strB M)), (5, .int .i64 fro), (6, .int .i64 n)] a' → Sep w' [blkC g4 37 [.int .i64 rF5.e, .int .i64 rF5.fd, .string (strB rF5.data), .slice sax248 rF5.names.length scx249, .int .i64 rF5.kind, .int .i64 rF5.links, .int .i64 rF5.size], ownC 0 9 1 sax248 rF5.names.length scx249 (rF5.names.flatMap sE), blkC cf 65 [.pointer (some ⟨(Ax247.ad 0), 0, none⟩), .map (some ob)], nodX F5 Ax247, mapC KO ob Ax247.C (opG F5 Ax247), blkC g3 37 [.int .i64 rF4.e, .int .i64 rF4.fd, .string (strB rF4.data), .slice sax208 rF4.names.length scx209, .int .i64 rF4.kind, .int .i64 rF4.links, .int .i64 rF4.size], ownC 0 9 1 sax208 rF4.names.length scx209 (rF4.names.flatMap sE), blkC g2 37 [.int .i64 0, .int .i64 0, .string (strB []), .slice sax149 (([] : List ByteArray).length) scx150, .int .i64 0, .int .i64 0, .int .i64 0], ownC 0 9 1 sax149 ([] : List ByteArray).length scx150 (([] : List ByteArray).flatMap sE), ownC 0 9 1 sax63 r2.names.length scx64 (r2.names.flatMap sE), blkC df 51 [.slice nax10 F.N.length ncx11, .slice eax12 F.E.length ecx13, .slice oax14 F.O.length ocx15], ownC 0 88 3 nax10 F.N.length ncx11 (F.N.flatMap nodC), ownC 0 114 3 eax12 F.E.length ecx13 (F.E.flatMap entC), ownC 0 93 3 oax14 F.O.length ocx15 (F.O.flatMap opnC), oldC W W.heap.size] → ((F5.at k).data = Q) → K4 a' w' := by
      intro Q a4 w20 h70 s20 hQ
      have hlQ : Q.length ≤ 256 := hA254.ok.data_le hkF5 hQ
      refine hK24 _ _ ?_
      refine sqr fun _ hK25 => mvs 3 h70 rfl fun _ h71 => bu h71 (v := .agg #[.int .i64 3, .string (strB []), .string (strB []), .int .i64 0, .int .i64 0, .int .i64 fro, .int .i64 n, .string (strB [])]) rfl (fun w => by kernel_rfl) fun _ h72 => ?_
      obtain ⟨r6, h6, v11, v0⟩ := read_out (off := fro) (n := n) hlF5 hQ
      refine cl h72 rfl cz_posix_Fs_Do (doQ_c (cf := cf) (A := Ax247) (F := F5) (n := 35) (x := (⟨3, [], [], 0, 0, fro, n, []⟩ : CallM)) (G := F5) (r := r6) (s20.pk [2,3,4,0,1,5,6,7,8,9,10,11,12,13,14] rfl) hA254 (by omega) (Nat.zero_le _) (Nat.zero_le _) (Nat.zero_le _) wf0 h6) fun _ v12 w21 r11 h73 => ?_
      obtain ⟨Ax287, sax288, scx289, rfl, s21, hA294⟩ := r11
      refine so (wanted_none rfl) fun _ hK26 => xalloc h73 rfl rfl rfl rfl (z := zL) (fun _ => rfl) s21 fun _ g5 w22 h74 s22 _ _ => hK26 _ _ ?_
      refine stA h74 s22 0 rfl rfl rfl (by kernel_rfl) rfl rfl rfl rfl fun _ w23 h75 s23 _ => h75.sn [23,21,20,19,18,17,15,14,0,1,2,3,4,5,6] rfl fun h76 => hK25 _ _ <| sq fun _ hK27 => sqr fun _ hK28 => mv h76 rfl fun _ h77 => bv h77 (z := .bool (decide (fro < 0))) rfl (cLt _ _ _ _ rfl) fun _ h78 => mv h78 rfl fun _ h79 => sg h79 (wF h79 rfl rfl rfl) rfl rfl rfl (v := .int .i64 n) (fun hC1 => by have hq := (dF (notT hC1)); exact rmove h79 rfl rfl _) fun _ h80 => sg h80 (wF h80 rfl rfl rfl) rfl rfl rfl (v := .bool (decide (n < 0))) (fun hC2 => by have hq := (dF (notT hC2)); exact rbin h80 rfl (opg rfl hC2) rfl (cLt _ _ _ _ rfl) _) fun _ h81 => sv1 h81 rfl (v := .bool ((decide (fro < 0)) || (decide (n < 0)))) (rpickO h81 rfl (E := (decide (fro < 0))) (F := (decide (n < 0))) rfl rfl rfl (fun e => if_pos (by rw [e]; try rfl))) fun _ h82 => ?_
      refine mv h82 rfl fun _ h83 => sg h83 (wF h83 rfl rfl rfl) rfl rfl rfl (v := .int .i64 n) (fun hC3 => by have hq := (And.intro (dF (orF (notT hC3)).1) (dF (orF (notT hC3)).2)); exact rmove h83 rfl rfl _) fun _ h84 => sg h84 (wF h84 rfl rfl rfl) rfl rfl rfl (v := .bool (decide (n > 64))) (fun hC4 => by have hq := (And.intro (dF (orF (notT hC4)).1) (dF (orF (notT hC4)).2)); exact rbin h84 rfl (opg rfl hC4) rfl (cGt _ _ _ _ rfl) _) fun _ h85 => sv1 h85 rfl (v := .bool (((decide (fro < 0)) || (decide (n < 0))) || (decide (n > 64)))) (rpickO h85 rfl (E := ((decide (fro < 0)) || (decide (n < 0)))) (F := (decide (n > 64))) rfl rfl rfl (fun e => if_pos (by rw [e]; try rfl))) fun _ h86 => h86.sn [127,23,21,20,19,18,17,15,14,0,1,2,3,4,5,6] rfl fun h87 => hK28 _ _ ?_
      rcases bC (((decide (fro < 0)) || (decide (n < 0))) || (decide (n > 64))) with hc2 | hc2
      ·skip
       have hp3 : ((fro < 0) ∨ (n < 0)) ∨ (n > 64) := ((orT hc2).imp (fun q => ((orT q).imp (fun q => (dT q)) (fun q => (dT q)))) (fun q => (dT q)))
       have v1 : r6.e = 15 := v11 (by omega)
       refine wcT h87 rfl hc2 <| h87.sk [23,21,20,19,18,17,15,14,0,1,2,3,4,5,6] rfl fun h88 => sqr fun _ hK29 => fav h88 rfl (fz_api_Reply_0 _ _) fun _ h89 => ldv h89 (v := .int .i64 r6.e) s23 0 Tryz.underlying32 rfl rfl rfl rfl fun _ h90 => bv h90 rfl (cEq _ _ _ _ (decide_eq_true (by omega))) fun _ h91 => mv h91 rfl fun _ h92 => so (wT h92 (E := true) rfl rfl rfl) fun _ hK30 => xcall h92 rfl rfl rfl (xs := []) rfl cz_commonslaw06_lives rfl (vs := []) rfl (args := #[]) rfl (lives_s s23) fun _ v13 w24 r12 h93 => hK30 _ _ ?_
       obtain ⟨rfl, s24⟩ := r12
       refine sv1 h93 rfl (v := .bool true) (rpick h93 rfl rfl rfl) fun _ h94 => h94.sk [133,132,131,130,129,128,23,21,20,19,18,17,15,0,1,2,3,4,5,6] rfl fun h95 => mv h95 rfl fun _ h96 => h96.sn [14,23,21,20,19,18,17,15,0,1,2,3,4,5,6] rfl fun h97 => hK29 _ _ <| wp_ret ?_
       try simp only [Exit.then, Exit.inBlock]
       refine retR (v := .bool true) (res1 h97 rfl rfl) h97.defs ?_
       exact ⟨rfl, (s24.get 16 rfl : Below _ _ _ ∧ _).1⟩
      ·skip
       have hp4 : ((¬ (fro < 0)) ∧ (¬ (n < 0))) ∧ (¬ (n > 64)) := (And.intro (And.intro (dF (orF (orF hc2).1).1) (dF (orF (orF hc2).1).2)) (dF (orF hc2).2))
       obtain ⟨v1, v2⟩ := v0 (by omega)
       refine wcF h87 rfl hc2 <| h87.sk [23,21,20,19,18,17,15,14,0,1,2,3,4,5,6] rfl fun h98 => wp_skip <| hK27 _ _ <| sqr fun _ hK31 => mv h98 rfl fun _ h99 => wpList_nil <| hK31 _ _ <| sq fun _ hK32 => sqr fun _ hK33 => mvs 2 h99 rfl fun _ h100 => sv1 h100 rfl (v := .int .i64 (Q.length : Int)) (rlenT h100 rfl rfl Tryz.underlying9) fun _ h101 => bv h101 (z := .bool (decide (fro < (Q.length : Int)))) rfl (cLt _ _ _ _ rfl) fun _ h102 => ?_
       refine h102.sn [137,24,23,21,20,19,18,17,15,14,0,1,2,3,4,5,6] rfl fun h103 => hK33 _ _ ?_
       rcases bC (decide (fro < (Q.length : Int))) with hc3 | hc3
       ·skip
        have hp5 : fro < (Q.length : Int) := (dT hc3)
        refine wcT h103 rfl hc3 <| h103.sk [24,23,21,20,19,18,17,15,14,0,1,2,3,4,5,6] rfl fun h104 => wp_region_lit <| mvs 2 h104 rfl fun _ h105 => sv1 h105 rfl (v := .string (strB (Q.drop ((fro).toNat)))) (rslT h105 rfl rfl (vl := (some (.int .i64 fro))) (vh := none) rfl rfl (fun w => (fun w => ((slT 9 Tryz.underlying9 Q (a := (fro).toNat) (b := Q.length) (.inr ⟨_, rfl, (by omega)⟩) (.inl ⟨rfl, rfl⟩) (by omega) (by omega)) w).trans (by rw [List.take_length])) w)) fun _ h106 => h106.sk [140,139,138,23,21,20,19,18,17,15,14,0,1,2,3,4,5,6] rfl fun h107 => mv h107 rfl fun _ h108 => h108.sn [24,23,21,20,19,18,17,15,14,0,1,2,3,4,5,6] rfl fun h109 => hK32 _ _ <| sq fun _ hK34 => sq fun _ hK35 => wp_region_lit ?_
        refine mv h109 rfl fun _ h110 => sv1 h110 rfl (v := .int .i64 (((Q.drop ((fro).toNat)).length : Nat) : Int)) (rlenT h110 rfl rfl Tryz.underlying9) fun _ h111 => mv h111 rfl fun _ h112 => bv h112 (z := .bool (decide ((((Q.drop ((fro).toNat)).length : Nat) : Int) > n))) rfl (cGt _ _ _ _ rfl) fun _ h113 => h113.sn [144,24,23,21,20,19,18,17,15,14,0,1,2,3,4,5,6] rfl fun h114 => hK35 _ _ ?_
        rcases bC (decide ((((Q.drop ((fro).toNat)).length : Nat) : Int) > n)) with hc4 | hc4
        ·skip
         have hp6 : (((Q.drop ((fro).toNat)).length : Nat) : Int) > n := (dT hc4)
         refine wcT h114 rfl hc4 <| h114.sk [24,23,21,20,19,18,17,15,14,0,1,2,3,4,5,6] rfl fun h115 => wp_region_lit <| mvs 2 h115 rfl fun _ h116 => sv1 h116 rfl (v := .string (strB ((Q.drop ((fro).toNat)).take ((n).toNat)))) (rslT h116 rfl rfl (vl := none) (vh := (some (.int .i64 n))) rfl rfl (fun w => (fun w => ((slT 9 Tryz.underlying9 (Q.drop ((fro).toNat)) (a := 0) (b := (n).toNat) (.inl ⟨rfl, rfl⟩) (.inr ⟨_, rfl, (by omega)⟩) (by omega) (by omega)) w).trans (by rw [List.drop_zero])) w)) fun _ h117 => h117.sk [147,146,145,23,21,20,19,18,17,15,14,0,1,2,3,4,5,6] rfl fun h118 => mv h118 rfl fun _ h119 => h119.sn [24,23,21,20,19,18,17,15,14,0,1,2,3,4,5,6] rfl fun h120 => hK34 _ _ <| sq fun _ hK36 => ?_
         have hv418 : r6.data = (Q.drop ((fro).toNat)).take ((n).toNat) := v2.trans (by first | rfl | exact (rd_all (by omega) (by omega)).symm | (rw [List.drop_eq_nil_of_le (by omega)] <;> simp))
         refine wp_region_lit <| fav h120 rfl (fz_api_Reply_0 _ _) fun _ h121 => ldv h121 (v := .int .i64 r6.e) s23 0 Tryz.underlying32 rfl rfl rfl rfl fun _ h122 => bv h122 rfl (cEq _ _ _ _ (decide_eq_true (by omega))) fun _ h123 => mv h123 rfl fun _ h124 => sv h124 (wT h124 (E := true) rfl rfl rfl) rfl rfl rfl (v := .pointer (some ⟨g5, 2, none⟩)) (rfa h124 rfl rfl (fun w => fz_api_Reply_2 g5 0 w)) fun _ h125 => sw h125 (wT h125 (E := true) rfl rfl rfl) rfl rfl rfl (v := .string (strB r6.data)) (rld h125 rfl rfl (ldB Tryz.underlying9 rfl (s23.get 0 rfl : Blk _ _ _ _) rfl)) fun _ h126 => sv h126 (wT h126 (E := true) rfl rfl rfl) rfl rfl rfl (v := .string (strB ((Q.drop ((fro).toNat)).take ((n).toNat)))) (rmove h126 rfl rfl) fun _ h127 => sv h127 (wT h127 (E := true) rfl rfl rfl) rfl rfl rfl (v := .bool (decide (r6.data = (Q.drop ((fro).toNat)).take ((n).toNat)))) (rbin h127 rfl rfl rfl (bStrEqL _ _ _ r6.data ((Q.drop ((fro).toNat)).take ((n).toNat)) rfl)) fun _ h128 => sv1 h128 rfl (v := .bool (decide (r6.data = (Q.drop ((fro).toNat)).take ((n).toNat)))) (rpick h128 rfl rfl rfl) fun _ h129 => ?_
         refine mv h129 rfl fun _ h130 => so ((wT h130 rfl rfl rfl).trans (decide_eq_true hv418)) fun _ hK37 => xcall h130 rfl rfl rfl (xs := []) rfl cz_commonslaw06_lives rfl (vs := []) rfl (args := #[]) rfl (lives_s s23) fun _ v14 w25 r13 h131 => hK37 _ _ ?_
         obtain ⟨rfl, s25⟩ := r13
         refine sv1 h131 rfl (v := .bool true) (rpickE h131 rfl (E := (decide (r6.data = (Q.drop ((fro).toNat)).take ((n).toNat)))) (b := true) rfl (decide_eq_true hv418) rfl) fun _ h132 => h132.sk [159,158,157,156,155,154,153,152,151,150,149,148,24,23,21,20,19,18,17,15,0,1,2,3,4,5,6] rfl fun h133 => mv h133 rfl fun _ h134 => h134.sn [14,24,23,21,20,19,18,17,15,0,1,2,3,4,5,6] rfl fun h135 => hK36 _ _ <| wp_ret ?_
         try simp only [Exit.then, Exit.inBlock]
         refine retR (v := .bool true) (res1 h135 rfl rfl) h135.defs ?_
         exact ⟨rfl, (s25.get 16 rfl : Below _ _ _ ∧ _).1⟩
        ·skip
         have hp7 : ¬ ((((Q.drop ((fro).toNat)).length : Nat) : Int) > n) := (dF hc4)
         refine wcF h114 rfl hc4 <| h114.sk [24,23,21,20,19,18,17,15,14,0,1,2,3,4,5,6] rfl fun h136 => wp_skip <| hK34 _ _ <| sq fun _ hK38 => ?_
         have hv455 : r6.data = Q.drop ((fro).toNat) := v2.trans (by first | rfl | exact (rd_all (by omega) (by omega)).symm | (rw [List.drop_eq_nil_of_le (by omega)] <;> simp))
         refine wp_region_lit <| fav h136 rfl (fz_api_Reply_0 _ _) fun _ h137 => ldv h137 (v := .int .i64 r6.e) s23 0 Tryz.underlying32 rfl rfl rfl rfl fun _ h138 => bv h138 rfl (cEq _ _ _ _ (decide_eq_true (by omega))) fun _ h139 => mv h139 rfl fun _ h140 => sv h140 (wT h140 (E := true) rfl rfl rfl) rfl rfl rfl (v := .pointer (some ⟨g5, 2, none⟩)) (rfa h140 rfl rfl (fun w => fz_api_Reply_2 g5 0 w)) fun _ h141 => sw h141 (wT h141 (E := true) rfl rfl rfl) rfl rfl rfl (v := .string (strB r6.data)) (rld h141 rfl rfl (ldB Tryz.underlying9 rfl (s23.get 0 rfl : Blk _ _ _ _) rfl)) fun _ h142 => sv h142 (wT h142 (E := true) rfl rfl rfl) rfl rfl rfl (v := .string (strB (Q.drop ((fro).toNat)))) (rmove h142 rfl rfl) fun _ h143 => sv h143 (wT h143 (E := true) rfl rfl rfl) rfl rfl rfl (v := .bool (decide (r6.data = Q.drop ((fro).toNat)))) (rbin h143 rfl rfl rfl (bStrEqL _ _ _ r6.data (Q.drop ((fro).toNat)) rfl)) fun _ h144 => sv1 h144 rfl (v := .bool (decide (r6.data = Q.drop ((fro).toNat)))) (rpick h144 rfl rfl rfl) fun _ h145 => ?_
         refine mv h145 rfl fun _ h146 => so ((wT h146 rfl rfl rfl).trans (decide_eq_true hv455)) fun _ hK39 => xcall h146 rfl rfl rfl (xs := []) rfl cz_commonslaw06_lives rfl (vs := []) rfl (args := #[]) rfl (lives_s s23) fun _ v15 w26 r14 h147 => hK39 _ _ ?_
         obtain ⟨rfl, s26⟩ := r14
         refine sv1 h147 rfl (v := .bool true) (rpickE h147 rfl (E := (decide (r6.data = Q.drop ((fro).toNat)))) (b := true) rfl (decide_eq_true hv455) rfl) fun _ h148 => h148.sk [159,158,157,156,155,154,153,152,151,150,149,148,24,23,21,20,19,18,17,15,0,1,2,3,4,5,6] rfl fun h149 => mv h149 rfl fun _ h150 => h150.sn [14,24,23,21,20,19,18,17,15,0,1,2,3,4,5,6] rfl fun h151 => hK38 _ _ <| wp_ret ?_
         try simp only [Exit.then, Exit.inBlock]
         refine retR (v := .bool true) (res1 h151 rfl rfl) h151.defs ?_
         exact ⟨rfl, (s26.get 16 rfl : Below _ _ _ ∧ _).1⟩
       ·skip
        have hp8 : ¬ (fro < (Q.length : Int)) := (dF hc3)
        refine wcF h103 rfl hc3 <| h103.sk [24,23,21,20,19,18,17,15,14,0,1,2,3,4,5,6] rfl fun h152 => wp_skip <| hK32 _ _ <| sq fun _ hK40 => sqr fun _ hK41 => mv h152 rfl fun _ h153 => sv1 h153 rfl (v := .int .i64 (([].length : Nat) : Int)) (rlenT h153 rfl rfl Tryz.underlying9) fun _ h154 => mv h154 rfl fun _ h155 => bv h155 (z := .bool (decide ((([].length : Nat) : Int) > n))) rfl (cGt _ _ _ _ rfl) fun _ h156 => h156.sn [144,24,23,21,20,19,18,17,15,14,0,1,2,3,4,5,6] rfl fun h157 => hK41 _ _ ?_
        rcases bC (decide ((([].length : Nat) : Int) > n)) with hc5 | hc5
        ·skip
         have hp9 : (([].length : Nat) : Int) > n := (dT hc5)
         refine wcT h157 rfl hc5 <| h157.sk [24,23,21,20,19,18,17,15,14,0,1,2,3,4,5,6] rfl fun h158 => wp_region_lit <| mvs 2 h158 rfl fun _ h159 => sv1 h159 rfl (v := .string (strB ([].take ((n).toNat)))) (rslT h159 rfl rfl (vl := none) (vh := (some (.int .i64 n))) rfl rfl (fun w => (fun w => ((slT 9 Tryz.underlying9 [] (a := 0) (b := (n).toNat) (.inl ⟨rfl, rfl⟩) (.inr ⟨_, rfl, (by omega)⟩) (by omega) (by omega)) w).trans (by rw [List.drop_zero])) w)) fun _ h160 => h160.sk [147,146,145,23,21,20,19,18,17,15,14,0,1,2,3,4,5,6] rfl fun h161 => mv h161 rfl fun _ h162 => h162.sn [24,23,21,20,19,18,17,15,14,0,1,2,3,4,5,6] rfl fun h163 => hK40 _ _ <| sq fun _ hK42 => ?_
         have hv516 : r6.data = [].take ((n).toNat) := v2.trans (by first | rfl | exact (rd_all (by omega) (by omega)).symm | (rw [List.drop_eq_nil_of_le (by omega)] <;> simp))
         refine wp_region_lit <| fav h163 rfl (fz_api_Reply_0 _ _) fun _ h164 => ldv h164 (v := .int .i64 r6.e) s23 0 Tryz.underlying32 rfl rfl rfl rfl fun _ h165 => bv h165 rfl (cEq _ _ _ _ (decide_eq_true (by omega))) fun _ h166 => mv h166 rfl fun _ h167 => sv h167 (wT h167 (E := true) rfl rfl rfl) rfl rfl rfl (v := .pointer (some ⟨g5, 2, none⟩)) (rfa h167 rfl rfl (fun w => fz_api_Reply_2 g5 0 w)) fun _ h168 => sw h168 (wT h168 (E := true) rfl rfl rfl) rfl rfl rfl (v := .string (strB r6.data)) (rld h168 rfl rfl (ldB Tryz.underlying9 rfl (s23.get 0 rfl : Blk _ _ _ _) rfl)) fun _ h169 => sv h169 (wT h169 (E := true) rfl rfl rfl) rfl rfl rfl (v := .string (strB ([].take ((n).toNat)))) (rmove h169 rfl rfl) fun _ h170 => sv h170 (wT h170 (E := true) rfl rfl rfl) rfl rfl rfl (v := .bool (decide (r6.data = [].take ((n).toNat)))) (rbin h170 rfl rfl rfl (bStrEqL _ _ _ r6.data ([].take ((n).toNat)) rfl)) fun _ h171 => sv1 h171 rfl (v := .bool (decide (r6.data = [].take ((n).toNat)))) (rpick h171 rfl rfl rfl) fun _ h172 => ?_
         refine mv h172 rfl fun _ h173 => so ((wT h173 rfl rfl rfl).trans (decide_eq_true hv516)) fun _ hK43 => xcall h173 rfl rfl rfl (xs := []) rfl cz_commonslaw06_lives rfl (vs := []) rfl (args := #[]) rfl (lives_s s23) fun _ v16 w27 r15 h174 => hK43 _ _ ?_
         obtain ⟨rfl, s27⟩ := r15
         refine sv1 h174 rfl (v := .bool true) (rpickE h174 rfl (E := (decide (r6.data = [].take ((n).toNat)))) (b := true) rfl (decide_eq_true hv516) rfl) fun _ h175 => h175.sk [159,158,157,156,155,154,153,152,151,150,149,148,24,23,21,20,19,18,17,15,0,1,2,3,4,5,6] rfl fun h176 => mv h176 rfl fun _ h177 => h177.sn [14,24,23,21,20,19,18,17,15,0,1,2,3,4,5,6] rfl fun h178 => hK42 _ _ <| wp_ret ?_
         try simp only [Exit.then, Exit.inBlock]
         refine retR (v := .bool true) (res1 h178 rfl rfl) h178.defs ?_
         exact ⟨rfl, (s27.get 16 rfl : Below _ _ _ ∧ _).1⟩
        ·skip
         have hp10 : ¬ ((([].length : Nat) : Int) > n) := (dF hc5)
         refine wcF h157 rfl hc5 <| h157.sk [24,23,21,20,19,18,17,15,14,0,1,2,3,4,5,6] rfl fun h179 => wp_skip <| hK40 _ _ <| sq fun _ hK44 => ?_
         have hv553 : r6.data = [] := v2.trans (by first | rfl | exact (rd_all (by omega) (by omega)).symm | (rw [List.drop_eq_nil_of_le (by omega)] <;> simp))
         refine wp_region_lit <| fav h179 rfl (fz_api_Reply_0 _ _) fun _ h180 => ldv h180 (v := .int .i64 r6.e) s23 0 Tryz.underlying32 rfl rfl rfl rfl fun _ h181 => bv h181 rfl (cEq _ _ _ _ (decide_eq_true (by omega))) fun _ h182 => mv h182 rfl fun _ h183 => sv h183 (wT h183 (E := true) rfl rfl rfl) rfl rfl rfl (v := .pointer (some ⟨g5, 2, none⟩)) (rfa h183 rfl rfl (fun w => fz_api_Reply_2 g5 0 w)) fun _ h184 => sw h184 (wT h184 (E := true) rfl rfl rfl) rfl rfl rfl (v := .string (strB r6.data)) (rld h184 rfl rfl (ldB Tryz.underlying9 rfl (s23.get 0 rfl : Blk _ _ _ _) rfl)) fun _ h185 => sv h185 (wT h185 (E := true) rfl rfl rfl) rfl rfl rfl (v := .string (strB [])) (rmove h185 rfl rfl) fun _ h186 => sv h186 (wT h186 (E := true) rfl rfl rfl) rfl rfl rfl (v := .bool (decide (r6.data = []))) (rbin h186 rfl rfl rfl (bStrEqL _ _ _ r6.data [] rfl)) fun _ h187 => sv1 h187 rfl (v := .bool (decide (r6.data = []))) (rpick h187 rfl rfl rfl) fun _ h188 => ?_
         refine mv h188 rfl fun _ h189 => so ((wT h189 rfl rfl rfl).trans (decide_eq_true hv553)) fun _ hK45 => xcall h189 rfl rfl rfl (xs := []) rfl cz_commonslaw06_lives rfl (vs := []) rfl (args := #[]) rfl (lives_s s23) fun _ v17 w28 r16 h190 => hK45 _ _ ?_
         obtain ⟨rfl, s28⟩ := r16
         refine sv1 h190 rfl (v := .bool true) (rpickE h190 rfl (E := (decide (r6.data = []))) (b := true) rfl (decide_eq_true hv553) rfl) fun _ h191 => h191.sk [159,158,157,156,155,154,153,152,151,150,149,148,24,23,21,20,19,18,17,15,0,1,2,3,4,5,6] rfl fun h192 => mv h192 rfl fun _ h193 => h193.sn [14,24,23,21,20,19,18,17,15,0,1,2,3,4,5,6] rfl fun h194 => hK44 _ _ <| wp_ret ?_
         try simp only [Exit.then, Exit.inBlock]
         refine retR (v := .bool true) (res1 h194 rfl rfl) h194.defs ?_
         exact ⟨rfl, (s28.get 16 rfl : Below _ _ _ ∧ _).1⟩
     refine sqr fun _ hK46 => fav h69 rfl (fz_api_Reply_0 _ _) fun _ h195 => ldv h195 (v := .int .i64 rF5.e) s19 0 Tryz.underlying32 rfl rfl rfl rfl fun _ h196 => bv h196 (z := .bool (decide (rF5.e = 0))) rfl (cEq _ _ _ _ rfl) fun _ h197 => mv h197 rfl fun _ h198 => sg h198 (wT h198 rfl rfl rfl) rfl rfl rfl (v := .string (strB M)) (fun hC5 => by have hq := (dT hC5); exact rmove h198 rfl rfl _) fun _ h199 => sg h199 (wT h199 rfl rfl rfl) rfl rfl rfl (v := .bool (decide (M ≠ []))) (fun hC6 => by have hq := (dT hC6); exact rbin h199 rfl (opg rfl hC6) rfl (bStrNeL _ _ _ M [] rfl) _) fun _ h200 => sv1 h200 rfl (v := .bool ((decide (rF5.e = 0)) && (decide (M ≠ [])))) (rpickA h200 rfl (E := (decide (rF5.e = 0))) (F := (decide (M ≠ []))) rfl rfl rfl (fun e => if_pos (by rw [e]; try rfl))) fun _ h201 => h201.sn [92,21,20,19,18,17,15,14,0,1,2,3,4,5,6] rfl fun h202 => hK46 _ _ ?_
     rcases bC ((decide (rF5.e = 0)) && (decide (M ≠ []))) with hc6 | hc6
     ·skip
      have hp11 : (rF5.e = 0) ∧ (M ≠ []) := (And.intro (dT (andT hc6).1) (dT (andT hc6).2))
      obtain ⟨_, _, u607b, u607⟩ := hwF5.resolve_right (fun q => q.1 ⟨dT (andT hc6).1, dT (andT hc6).2⟩)
      refine wcT h202 rfl hc6 <| h202.sk [21,20,19,18,17,15,14,0,1,2,3,4,5,6] rfl fun h203 => sqr fun _ hK47 => mv h203 rfl fun _ h204 => wpList_nil <| hK47 _ _ <| sq fun _ hK48 => sqr fun _ hK49 => mv h204 rfl fun _ h205 => sv1 h205 rfl (v := .int .i64 (P.length : Int)) (rlenT h205 rfl rfl Tryz.underlying9) fun _ h206 => mvs 2 h206 rfl fun _ h207 => sv1 h207 rfl (v := .int .i64 (M.length : Int)) (rlenT h207 rfl rfl Tryz.underlying9) fun _ h208 => ?_
      refine bv h208 (z := .int .i64 (pt + (M.length : Int))) rfl (bAdd _ _ _ (by omega) (by omega) (by omega)) fun _ h209 => bv h209 (z := .bool (decide ((P.length : Int) > pt + (M.length : Int)))) rfl (cGt _ _ _ _ rfl) fun _ h210 => h210.sn [99,22,21,20,19,18,17,15,14,0,1,2,3,4,5,6] rfl fun h211 => hK49 _ _ ?_
      rcases bC (decide ((P.length : Int) > pt + (M.length : Int))) with hc7 | hc7
      ·skip
       have hp12 : (P.length : Int) > pt + (M.length : Int) := (dT hc7)
       refine wcT h211 rfl hc7 <| h211.sk [22,21,20,19,18,17,15,14,0,1,2,3,4,5,6] rfl fun h212 => wp_region_lit <| mvs 3 h212 rfl fun _ h213 => sv1 h213 rfl (v := .int .i64 (M.length : Int)) (rlenT h213 rfl rfl Tryz.underlying9) fun _ h214 => bv h214 (z := .int .i64 (pt + (M.length : Int))) rfl (bAdd _ _ _ (by omega) (by omega) (by omega)) fun _ h215 => sv1 h215 rfl (v := .string (strB (P.drop ((pt + (M.length : Int)).toNat)))) (rslT h215 rfl rfl (vl := (some (.int .i64 (pt + (M.length : Int))))) (vh := none) rfl rfl (fun w => (fun w => ((slT 9 Tryz.underlying9 P (a := (pt + (M.length : Int)).toNat) (b := P.length) (.inr ⟨_, rfl, (by omega)⟩) (.inl ⟨rfl, rfl⟩) (by omega) (by omega)) w).trans (by rw [List.take_length])) w)) fun _ h216 => h216.sk [105,104,103,102,101,100,21,20,19,18,17,15,14,0,1,2,3,4,5,6] rfl fun h217 => mv h217 rfl fun _ h218 => h218.sk [22,21,20,19,18,17,15,14,0,1,2,3,4,5,6] rfl fun h219 => ?_
       refine wpList_nil <| hK48 _ _ <| wp_region_lit <| mvs 2 h219 rfl fun _ h220 => cl h220 rfl cz_commonsref06_Sized ((by have z := sized_s s19 P (n := (pt).toNat) (by omega) (by omega); rw [show (((pt).toNat : Nat) : Int) = pt by omega] at z; exact z)) fun _ v18 w29 r17 h221 => ?_
       obtain ⟨rfl, s29⟩ := r17
       have hs659 := sized_len P ((pt).toNat)
       refine mv h221 rfl fun _ h222 => bv h222 (z := .string (strB ((sized P ((pt).toNat)) ++ M))) rfl (bStrAdd _ _ _ (sized P ((pt).toNat)) M (by (try simp only [List.length_append, List.length_take, List.length_drop, List.length_cons, List.length_nil]); omega)) fun _ h223 => mv h223 rfl fun _ h224 => bv h224 (z := .string (strB (((sized P ((pt).toNat)) ++ M) ++ (P.drop ((pt + (M.length : Int)).toNat))))) rfl (bStrAdd _ _ _ ((sized P ((pt).toNat)) ++ M) (P.drop ((pt + (M.length : Int)).toNat)) (by (try simp only [List.length_append, List.length_take, List.length_drop, List.length_cons, List.length_nil]); omega)) fun _ h225 => h225.sk [112,111,110,109,108,107,106,22,21,20,18,17,15,14,0,1,2,3,4,5,6] rfl fun h226 => mv h226 rfl fun _ h227 => h227.sk [19,22,21,20,18,17,15,14,0,1,2,3,4,5,6] rfl fun h228 => wpList_nil ?_
       exact hJ273 (((sized P ((pt).toNat)) ++ M) ++ (P.drop ((pt + (M.length : Int)).toNat))) _ _ (h228.subs rfl) s29 (u607.trans (wr_yes (by omega)).symm)
      ·skip
       have hp13 : ¬ ((P.length : Int) > pt + (M.length : Int)) := (dF hc7)
       refine wcF h211 rfl hc7 <| h211.sk [22,21,20,19,18,17,15,14,0,1,2,3,4,5,6] rfl fun h229 => wp_skip <| hK48 _ _ <| wp_region_lit <| mvs 2 h229 rfl fun _ h230 => cl h230 rfl cz_commonsref06_Sized ((by have z := sized_s s19 P (n := (pt).toNat) (by omega) (by omega); rw [show (((pt).toNat : Nat) : Int) = pt by omega] at z; exact z)) fun _ v19 w30 r18 h231 => ?_
       obtain ⟨rfl, s30⟩ := r18
       have hs685 := sized_len P ((pt).toNat)
       refine mv h231 rfl fun _ h232 => bv h232 (z := .string (strB ((sized P ((pt).toNat)) ++ M))) rfl (bStrAdd _ _ _ (sized P ((pt).toNat)) M (by (try simp only [List.length_append, List.length_take, List.length_drop, List.length_cons, List.length_nil]); omega)) fun _ h233 => mv h233 rfl fun _ h234 => bv h234 (z := .string (strB (((sized P ((pt).toNat)) ++ M) ++ []))) rfl (bStrAdd _ _ _ ((sized P ((pt).toNat)) ++ M) [] (by (try simp only [List.length_append, List.length_take, List.length_drop, List.length_cons, List.length_nil]); omega)) fun _ h235 => h235.sk [112,111,110,109,108,107,106,22,21,20,18,17,15,14,0,1,2,3,4,5,6] rfl fun h236 => mv h236 rfl fun _ h237 => h237.sk [19,22,21,20,18,17,15,14,0,1,2,3,4,5,6] rfl fun h238 => wpList_nil ?_
       exact hJ273 (((sized P ((pt).toNat)) ++ M) ++ []) _ _ (h238.subs rfl) s30 (u607.trans (wr_no (by omega)).symm)
     ·skip
      have hp14 : (¬ (rF5.e = 0)) ∨ (¬ (M ≠ [])) := ((andF hc6).imp (fun q => (dF q)) (fun q => (dF q)))
      have u699 := (hwF5.resolve_left (fun q => by rw [decide_eq_true q.1, decide_eq_true q.2.1] at hc6; cases hc6)).2
      refine wcF h202 rfl hc6 <| h202.sk [21,20,19,18,17,15,14,0,1,2,3,4,5,6] rfl fun h239 => wp_skip ?_
      exact hJ273 P _ _ (h239.subs rfl) s19 u699
    refine sqr fun _ hK50 => fav h62 rfl (fz_api_Reply_0 _ _) fun _ h240 => ldv h240 (v := .int .i64 rF4.e) s15 0 Tryz.underlying32 rfl rfl rfl rfl fun _ h241 => bv h241 (z := .bool (decide (rF4.e = 0))) rfl (cEq _ _ _ _ rfl) fun _ h242 => mv h242 rfl fun _ h243 => sg h243 (wT h243 rfl rfl rfl) rfl rfl rfl (v := .string (strB D)) (fun hC7 => by have hq := (dT hC7); exact rmove h243 rfl rfl _) fun _ h244 => sg h244 (wT h244 rfl rfl rfl) rfl rfl rfl (v := .bool (decide (D ≠ []))) (fun hC8 => by have hq := (dT hC8); exact rbin h244 rfl (opg rfl hC8) rfl (bStrNeL _ _ _ D [] rfl) _) fun _ h245 => sv1 h245 rfl (v := .bool ((decide (rF4.e = 0)) && (decide (D ≠ [])))) (rpickA h245 rfl (E := (decide (rF4.e = 0))) (F := (decide (D ≠ []))) rfl rfl rfl (fun e => if_pos (by rw [e]; try rfl))) fun _ h246 => h246.sn [76,20,19,18,17,15,14,0,1,2,3,4,5,6] rfl fun h247 => hK50 _ _ ?_
    rcases bC ((decide (rF4.e = 0)) && (decide (D ≠ []))) with hc8 | hc8
    ·skip
     have hp15 : (rF4.e = 0) ∧ (D ≠ []) := (And.intro (dT (andT hc8).1) (dT (andT hc8).2))
     obtain ⟨_, _, u721b, u721⟩ := hwF4.resolve_right (fun q => q.1 ⟨dT (andT hc8).1, dT (andT hc8).2⟩)
     refine wcT h247 rfl hc8 <| h247.sk [20,19,18,17,15,14,0,1,2,3,4,5,6] rfl fun h248 => wp_region_lit <| mv h248 rfl fun _ h249 => cl h249 rfl cz_commonsref06_Sized ((by have z := sized_s s15 [] (n := (off).toNat) (Nat.zero_le _) (by omega); rw [show (((off).toNat : Nat) : Int) = off by omega] at z; exact z)) fun _ v20 w31 r19 h250 => ?_
     obtain ⟨rfl, s31⟩ := r19
     have hs732 := sized_len [] ((off).toNat)
     refine mv h250 rfl fun _ h251 => bv h251 (z := .string (strB ((sized [] ((off).toNat)) ++ D))) rfl (bStrAdd _ _ _ (sized [] ((off).toNat)) D (by (try simp only [List.length_append, List.length_take, List.length_drop, List.length_cons, List.length_nil]); omega)) fun _ h252 => h252.sk [80,79,78,77,20,18,17,15,14,0,1,2,3,4,5,6] rfl fun h253 => mv h253 rfl fun _ h254 => h254.sk [19,20,18,17,15,14,0,1,2,3,4,5,6] rfl fun h255 => wpList_nil ?_
     exact hJ233 ((sized [] ((off).toNat)) ++ D) _ _ (h255.subs rfl) s31 (u721.trans (wrote_nil _ _))
    ·skip
     have hp16 : (¬ (rF4.e = 0)) ∨ (¬ (D ≠ [])) := ((andF hc8).imp (fun q => (dF q)) (fun q => (dF q)))
     have u742 := (hwF4.resolve_left (fun q => by rw [decide_eq_true q.1, decide_eq_true q.2.1] at hc8; cases hc8)).2
     refine wcF h247 rfl hc8 <| h247.sk [20,19,18,17,15,14,0,1,2,3,4,5,6] rfl fun h256 => wp_skip ?_
     exact hJ233 [] _ _ (h256.subs rfl) s15 u742
   refine sqr fun _ hK51 => mv h54 rfl fun _ h257 => sv1 h257 rfl (v := .int .i64 (t.length : Int)) (rlenT h257 rfl rfl Tryz.underlying9) fun _ h258 => bv h258 (z := .bool (decide ((t.length : Int) > 64))) rfl (cGt _ _ _ _ rfl) fun _ h259 => h259.sn [62,18,17,15,14,0,1,2,3,4,5,6] rfl fun h260 => hK51 _ _ ?_
   rcases bC (decide ((t.length : Int) > 64)) with hc9 | hc9
   ·skip
    have hp17 : (t.length : Int) > 64 := (dT hc9)
    refine wcT h260 rfl hc9 <| h260.sk [18,17,15,14,0,1,2,3,4,5,6] rfl fun h261 => wp_region_lit <| mv h261 rfl fun _ h262 => sv1 h262 rfl (v := .string (strB (t.take 64))) (rslT h262 rfl rfl (vl := none) (vh := (some (.int .i64 64))) rfl rfl (fun w => (fun w => ((slT 9 Tryz.underlying9 t (a := 0) (b := 64) (.inl ⟨rfl, rfl⟩) (.inr ⟨_, rfl, rfl⟩) (by omega) (by omega)) w).trans (by rw [List.drop_zero])) w)) fun _ h263 => h263.sk [64,63,18,17,15,14,0,1,2,3,5,6] rfl fun h264 => mv h264 rfl fun _ h265 => h265.sk [4,18,17,15,14,0,1,2,3,5,6] rfl fun h266 => wpList_nil ?_
    exact hJ190 (t.take 64) _ _ (h266.subs rfl) s11 (by show (List.take 64 t).length ≤ 64; rw [List.length_take]; omega)
   ·skip
    have hp18 : ¬ ((t.length : Int) > 64) := (dF hc9)
    refine wcF h260 rfl hc9 <| h260.sk [18,17,15,14,0,1,2,3,4,5,6] rfl fun h267 => wp_skip ?_
    exact hJ190 t _ _ (h267.subs rfl) s11 (by omega)
  refine sqr fun _ hK52 => mv h53 rfl fun _ h268 => sv1 h268 rfl (v := .int .i64 (s.length : Int)) (rlenT h268 rfl rfl Tryz.underlying9) fun _ h269 => bv h269 (z := .bool (decide ((s.length : Int) > 64))) rfl (cGt _ _ _ _ rfl) fun _ h270 => h270.sn [57,18,17,15,14,0,1,2,3,4,5,6] rfl fun h271 => hK52 _ _ ?_
  rcases bC (decide ((s.length : Int) > 64)) with hc10 | hc10
  ·skip
   have hp19 : (s.length : Int) > 64 := (dT hc10)
   refine wcT h271 rfl hc10 <| h271.sk [18,17,15,14,0,1,2,3,4,5,6] rfl fun h272 => wp_region_lit <| mv h272 rfl fun _ h273 => sv1 h273 rfl (v := .string (strB (s.take 64))) (rslT h273 rfl rfl (vl := none) (vh := (some (.int .i64 64))) rfl rfl (fun w => (fun w => ((slT 9 Tryz.underlying9 s (a := 0) (b := 64) (.inl ⟨rfl, rfl⟩) (.inr ⟨_, rfl, rfl⟩) (by omega) (by omega)) w).trans (by rw [List.drop_zero])) w)) fun _ h274 => h274.sk [59,58,18,17,15,14,0,1,3,4,5,6] rfl fun h275 => mv h275 rfl fun _ h276 => h276.sk [2,18,17,15,14,0,1,3,4,5,6] rfl fun h277 => wpList_nil ?_
   exact hJ184 (s.take 64) _ _ (h277.subs rfl) s10 (by show (List.take 64 s).length ≤ 64; rw [List.length_take]; omega)
  ·skip
   have hp20 : ¬ ((s.length : Int) > 64) := (dF hc10)
   refine wcF h271 rfl hc10 <| h271.sk [18,17,15,14,0,1,2,3,4,5,6] rfl fun h278 => wp_skip ?_
   exact hJ184 s _ _ (h278.subs rfl) s10 (by omega)

theorem PosixReads_walk (W : World) (a0 : Option Addr) (n0 c0 : Nat) (f : Nat → AskV) (rb : AsksIn W a0 n0 c0 f) (off : Int) (hoff : (Lit.int .i64 off).wf = true) (s : ByteArray) (hs : s.size ≤ maxLen) (pt : Int) (hpt : (Lit.int .i64 pt).wf = true) (t : ByteArray) (ht : t.size ≤ maxLen) (fro : Int) (hfro : (Lit.int .i64 fro).wf = true) (n : Int) (hn : (Lit.int .i64 n).wf = true) : Calls Tryz.prog 7 #[.slice a0 n0 c0, .int .i64 off, .string s, .int .i64 pt, .string t, .int .i64 fro, .int .i64 n] W fun e W' => e = .returned (.bool true) ∧ Below W.heap.size W W' := PosixReads_walkL W a0 n0 c0 f rb off hoff s.data.toList pt hpt t.data.toList fro hfro n hn

end Go.Proofs.YtcanemamnmmbcaaGreatDoor
