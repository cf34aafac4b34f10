/- Parts of the proof. -/
import Derived.Test.YthiplgahhejmcaaGreatDoorQal
namespace Go.Proofs.YthiplgahhejmcaaGreatDoor
open Go.RowKit
open _root_.Go.Proofs.Tryz
set_option linter.unusedSimpArgs false
set_option linter.unusedVariables false
set_option linter.unusedSectionVars false
set_option maxRecDepth 100000
set_option maxHeartbeats 8000000
section
theorem Vq {W w:World} {B:Nat} {a:Ω} {c:Nat} {xs:Λ} (h:RowB W a c xs) (b:Below B W w∧B≤W.heap.size) (hB:B=W.heap.size):RowB w a c xs:=by subst hB;exact Row.mono h b.1
theorem Aaf:(Et (64:Int).toNat).V.length=64:=rfl
theorem XH:(Et (128:Int).toNat).V.length=128:=rfl
theorem VH {z:Int} {n:Nat} (h:0≤z) (hn:0<n):∃ k:Nat,z.tmod (n:Int)=(k:Int)∧k<n:=by
 obtain ⟨m,rfl⟩:∃ m:Nat,z=(m:Int):=⟨z.toNat,ω⟩
 exact ⟨m % n,rfl,Nat.mod_lt _ hn⟩
theorem Abc {w:World} {R:List Ch} {g v d p:Nat} {M M':MemM} (hS:Sep w (FH g v d p M::R)) {at_:Int} {a:Ω} {c n:Nat} {b:Λ} (hr:RowB w a c b) (hn:b.length=n) (ha:ET at_) (hM:M'=Vz M at_ b) :
  CallsR prog 18 #[pG g,ν at_,.slice a n c] w (fun x w'=>∃ er,x=ν er∧Sep w' (FH g v d p M'::R)):=by
 subst hn hM;exact Ado hS hr ha
theorem Abd {w:World} {R:List Ch} {g v d p:Nat} {M M':MemM} (hS:Sep w (FH g v d p M::R)) {a:Ω} {c:Nat} (hr:RowB w a c (List.replicate 8 0)) (hl:M.V.length=23168) (hM:M'=DQ M 2688 (List.replicate 8 0)) :
  CallsR prog 18 #[pG g,ν 2688,.slice a (List.replicate 8 (0:UInt8)).length c] w (fun x w'=>x=ν 0∧Sep w' (FH g v d p M'::R)):=by
 subst hM;exact Abf hS hr (by unfold inM;rw [decide_eq_true_iff,hl];decide) (by unfold ET;omega)
theorem UA {w:World} {R:List Ch} {mx:Nat} {K:VolK} {ta:Ω} {tc:Nat} {M:MemM} {P:List PtM} (hS0:Sep w ([Ab mx 99 [π K.tg],txP K ta tc M P]++R)) (hM:M.V.length=23168) {a:Int} (h:MU M P 8=a):CallsR prog 22 #[π mx] w (fun v w'=>∃ ta' tc',v=ν a∧Sep w' ([Ab mx 99 [π K.tg],txP K ta' tc' M (Dd M P 8)]++R)):=
 Calls.mono (Po hS0 hM) fun e w' z=>by rw [h] at z;exact z
theorem Acc {w:World} {R:List Ch} (hS:Sep w R):CallsR prog 14 #[.agg (Ai Aj)] w (fun v w'=>v=ν 0∧Sep w' R):=
 Calls.mono (Nd Aj w rfl) fun e w' z=>⟨_,z.1,by rw [show (DD Aj 128).length=0 by decide +kernel];rfl,hS.mono z.2⟩
theorem MFo {W w:World} {R:List Ch} {a0:Ω} {c0:Nat} {xs:Λ} {z0:Int} (hS0:Sep w ([Eu W W.heap.size]++R)) (hrow:RowB W a0 c0 xs) (hz0:-9223372036854775808≤z0∧z0≤9223372036854775807) :
  CallsR prog 5 #[.slice a0 xs.length c0,ν z0] w (fun v w'=>v=.bool true∧Sep w' ([Eu W W.heap.size]++R)):=by
 have hS:Sep w [Eu W W.heap.size,Ch.many R]:=Sep.tail_many (xs:=[_]) hS0;clear hS0
 have hxl:=DN hrow
 have hcp:xs.length≤c0:=hrow.2.1
 refine AG func5 rfl (N:=104) ntmps5 (by show 2≤104;decide) [(0,.slice a0 xs.length c0),(1,ν z0)] rfl fun _ h1=>sqr fun _ hK3=>mv h1 rfl fun _ h4=>wpList_nil<|hK3 _ _<|sqr fun _ hK6=>cl h4 rfl (cF func17) (XG hS) fun _ v1 w1 r1 h2=>?_
 obtain ⟨pgx7,pv_x8,pdx9,ppx10,rfl,s1⟩:=r1
 refine mv h2 rfl fun _ h3=>h3.sn [5,4,0,1] rfl fun h5=>hK6 _ _<|sq fun _ hK1=>sqr fun _ hK2=>mv h5 rfl fun _ h6=>bv h6 (z:=.bool false) rfl (OO _ υ33 _ _ ⟨pgx7,0,none⟩) fun _ h7=>h7.sn [16,5,4,0,1] rfl fun h8=>hK2 _ _<|wcF h8 rfl rfl<|h8.sk [5,4,0,1] rfl fun h9=>?_
 refine wp_skip<|hK1 _ _<|sq fun K1 hK4=>?_
 have hJ30:∀ (n9:Nat) a' w',Kn 104 [(5,π pgx7),(4,.bool false),(0,.slice a0 n9 c0),(1,ν z0)] a'→Sep w' [FH pgx7 pv_x8 pdx9 ppx10 (Et 23168),Eu W W.heap.size,Ch.many R]→(RowB W a0 c0 (xs.take n9)∧(xs.take n9).length=n9∧n9≤4000)→K1 a' w':=by
  intro n9 a1 w2 h10 s2 hr
  refine hK4 _ _ ?_
  refine sq fun K2 hK5=>?_
  have hJ36:∀ (z:Int) a' w',Kn 104 [(5,π pgx7),(4,.bool false),(0,.slice a0 n9 c0),(1,ν z)] a'→Sep w' [FH pgx7 pv_x8 pdx9 ppx10 (Et 23168),Eu W W.heap.size,Ch.many R]→(0≤z∧z≤9223372036854775807)→K2 a' w':=by
   intro z a2 w3 h11 s3 hz
   refine hK5 _ _ ?_
   refine sqr fun _ hK7=>mvs 2 h11 rfl fun _ h12=>?_
   obtain ⟨k,hk,hkl⟩:=VH (z:=z) (n:=23168) ω ω
   refine bv h12 (z:=ν (k:Int)) rfl (Afs _ _ _ ω hk) fun _ h13=>mv h13 rfl fun _ h14=>?_
   obtain ⟨M50,hM51e⟩:∃ M',M'=Vz (Et 23168) (k:Int) (xs.take n9):=⟨_,rfl⟩
   have hM51:M50.V.length=23168:=by rw [hM51e];exact YI FW ω
   refine cl h14 rfl (cF func18) (Abc s3 (Vq hr.1 (s3.get 1 rfl:Below _ _ _∧_) rfl) hr.2.1 (by unfold ET;omega) hM51e) fun _ v2 w4 r2 h15=>?_
   obtain ⟨erx52,rfl,s4⟩:=r2
   refine h15.sn [5,4,0,1] rfl fun h16=>hK7 _ _<|sqr fun _ hK8=>mv h16 rfl fun _ h17=>so (wn rfl) fun _ hK9=>Kc EK (by decide) h17 rfl rfl rfl rfl υ52 (z:=.int .u8 0) (n:=8) κ (m:=(0:UInt8)) rfl rfl rfl (by decide) s4 fun _ g1 w5 h18 s5 _ _=>hK9 _ _ ?_
   have s6:Sep _ [Bm 0 5 1 (some ⟨g1,0,none⟩) ((List.replicate 8 (0:UInt8))).length 8 (((List.replicate 8 (0:UInt8))).map Ac),FH pgx7 pv_x8 pdx9 ppx10 M50,Eu W W.heap.size,Ch.many R]:=EJ s5
   obtain ⟨M72,hM73e⟩:∃ M',M'=DQ M50 2688 (List.replicate 8 0):=⟨_,rfl⟩
   have hM73:=VA hM51;rw [← hM73e] at hM73
   have hv75:=Abl hM73.1 hM73.2
   refine cl h18 rfl (cF func18) (Abd (s6.pk [1,0,2,3] rfl) ((s6.get 0 rfl:Own _ _ _ _ _ _ _ _).row) hM51 hM73e) fun _ v3 w6 r3 h19=>?_
   obtain ⟨rfl,s7⟩:=r3
   refine h19.sn [5,4,0,1] rfl fun h20=>hK8 _ _<|sqr fun _ hK10=>mv h20 rfl fun _ h21=>cl h21 rfl (cF func19) (XF s7 hM73.1) fun _ v4 w7 r4 h22=>?_
   obtain ⟨lg_x87,rfl,s8⟩:=r4
   refine mv h22 rfl fun _ h23=>h23.sn [6,5,4,0,1] rfl fun h24=>hK10 _ _<|sq fun _ hK11=>sqr fun _ hK12=>mv h24 rfl fun _ h25=>bv h25 (z:=.bool false) rfl (OO _ υ55 _ _ ⟨lg_x87,0,none⟩) fun _ h26=>h26.sn [38,6,5,4,0,1] rfl fun h27=>hK12 _ _<|wcF h27 rfl rfl<|h27.sk [6,5,4,0,1] rfl fun h28=>?_
   refine wp_skip<|hK11 _ _<|sqr fun _ hK13=>mvs 2 h28 rfl fun _ h29=>cl h29 rfl (cF func20) (XJ s8 hM73.1) fun _ v5 w8 r5 h30=>?_
   obtain ⟨kk_x111,rfl,s9⟩:=r5
   refine mv h30 rfl fun _ h31=>h31.sn [7,6,5,4,0,1] rfl fun h32=>hK13 _ _<|sqr fun _ hK14=>mv h32 rfl fun _ h33=>cl h33 rfl (cF func21) (Nu (K:=kk_x111) s9 hM73.1) fun _ v6 w9 r6 h34=>?_
   obtain ⟨mx_x125,rfl,s10⟩:=r6
   refine mv h34 rfl fun _ h35=>h35.sn [8,7,6,5,4,0,1] rfl fun h36=>hK14 _ _<|sq fun _ hK15=>sqr fun _ hK16=>mv h36 rfl fun _ h37=>bv h37 (z:=.bool false) rfl (OO _ υ34 _ _ ⟨kk_x111.tg,0,none⟩) fun _ h38=>mv h38 rfl fun _ h39=>sv h39 (wF h39 (E:=false) rfl rfl rfl) rfl rfl rfl (v:=π mx_x125) (Au h39 rfl rfl) fun _ h40=>sv h40 (wF h40 (E:=false) rfl rfl rfl) rfl rfl rfl (v:=.bool false) (BR h40 rfl rfl rfl (OO _ υ35 _ _ ⟨mx_x125,0,none⟩)) fun _ h41=>sv1 h41 rfl (v:=.bool false) (BD h41 rfl rfl rfl) fun _ h42=>?_
   refine mv h42 rfl fun _ h43=>sv h43 (wF h43 (E:=false) rfl rfl rfl) rfl rfl rfl (v:=π mx_x125) (Au h43 rfl rfl) fun _ h44=>?_
   have hf154:=PE hv75 8 (Nat.le_refl _)
   refine so (wF h44 (E:=false) rfl rfl rfl) fun _ hK17=>Be h44 rfl rfl rfl (xs:=[.tmp 51]) rfl (cF func22) rfl (vs:=[π mx_x125]) rfl (args:=#[π mx_x125]) rfl (UA s10 hM73.1 hf154.1) fun _ v7 w10 r7 h45=>hK17 _ _ ?_
   obtain ⟨tax155,tcx156,rfl,s11⟩:=r7
   refine sv h45 (wF h45 (E:=false) rfl rfl rfl) rfl rfl rfl (v:=.bool false) (BR h45 rfl rfl rfl (cNe _ _ _ _ (show decide ((0:Int)≠0)=false from rfl))) fun _ h46=>sv1 h46 rfl (v:=.bool false) (BD h46 rfl rfl rfl) fun _ h47=>mv h47 rfl fun _ h48=>sv h48 (wF h48 (E:=false) rfl rfl rfl) rfl rfl rfl (v:=π kk_x111.tg) (Au h48 rfl rfl) fun _ h49=>?_
   have hv172:=Vol.com hf154.2 (by decide)
   obtain ⟨M173,he174⟩:∃ M',M'=cmM M72 (Dd M72 [] 8):=⟨_,rfl⟩
   rw [← he174] at hv172
   have hV:=hv172.2.2;have hF:=ZH hv75;have hM:=hV.m
   refine so (wF h49 (E:=false) rfl rfl rfl) fun _ hK18=>Be h49 rfl rfl rfl (xs:=[.tmp 56]) rfl (cF func23) rfl (vs:=[π kk_x111.tg]) rfl (args:=#[π kk_x111.tg]) rfl (Kd (s11.pk [1,0,2,3,4] rfl) hv172.1 hv172.2.1 he174) fun _ v8 w11 r8 h50=>hK18 _ _ ?_
   obtain ⟨tax175,tcx176,rfl,s12⟩:=r8
   refine sv h50 (wF h50 (E:=false) rfl rfl rfl) rfl rfl rfl (v:=.bool false) (BR h50 rfl rfl rfl (cNe _ _ _ _ (show decide ((0:Int)≠0)=false from rfl))) fun _ h51=>sv1 h51 rfl (v:=.bool false) (BD h51 rfl rfl rfl) fun _ h52=>h52.sn [59,8,7,6,5,4,0,1] rfl fun h53=>hK16 _ _<|wcF h53 rfl rfl<|h53.sk [8,7,6,5,4,0,1] rfl fun h54=>wp_skip<|hK15 _ _<|sqr fun _ hK19=>mvs 3 h54 rfl fun _ h55=>bu h55 (v:=.agg (prC (π pgx7) (π kk_x111.tg) (π mx_x125) (.pointer none)).toArray) rfl (fun w=>κ) fun _ h56=>?_
   refine so (wn rfl) fun _ hK20=>Gk h56 rfl rfl rfl rfl rfl (z:=(prC (π pgx7) (π kk_x111.tg) (π mx_x125) (.pointer none))) rfl s12 fun _ g2 w12 h57 s13 _ _=>hK20 _ _ ?_
   refine mv h57 rfl fun _ h58=>h58.sn [9,8,7,6,5,4,0,1] rfl fun h59=>hK19 _ _<|sqr fun _ hK21=>mv h59 rfl fun _ h60=>cl h60 rfl (cF func24) (ZP (s13.pk [2,1,0,3,4,5] rfl) hM hV hF) fun _ v9 w13 r9 h61=>?_
   obtain ⟨rfl,s14⟩:=r9
   refine mvs 5 h61 rfl fun _ h62=>h62.sn [11,10,9,8,7,6,5,4,0,1] rfl fun h63=>hK21 _ _<|sqr fun _ hK22=>mv h63 rfl fun _ h64=>cl h64 rfl (cF func25) (YH (s14.pk [2,0,1,3,4,5] rfl) hM hV hF) fun _ v10 w14 r10 h65=>?_
   obtain ⟨rfl,s15⟩:=r10
   refine mv h65 rfl fun _ h66=>h66.sn [12,11,10,9,8,7,6,5,4,0,1] rfl fun h67=>hK22 _ _<|sqr fun _ hK23=>cl h67 rfl (cF func17) (XI s15 (n:=64) (by unfold FL;decide)) fun _ v11 w15 r11 h68=>?_
   obtain ⟨pgx245,pv_x246,pdx247,ppx248,rfl,s16⟩:=r11
   refine cl h68 rfl (cF func17) (XI s16 (n:=128) (by unfold FL;decide)) fun _ v12 w16 r12 h69=>?_
   obtain ⟨pgx256,pv_x257,pdx258,ppx259,rfl,s17⟩:=r12
   refine cl h69 rfl (cF func19) (Aer s17 XH) fun _ v13 w17 r13 h70=>?_
   obtain ⟨lw_x267,rfl,s18⟩:=r13
   refine cl h70 rfl (cF func20) (Aes (lg:=lw_x267) (s18.pk [1,0,2,3,4,5,6,7] rfl)) fun _ v14 w18 r14 h71=>?_
   obtain ⟨tw_x275,rfl,s19⟩:=r14
   refine cl h71 rfl (cF func21) (RT s19 Aaf) fun _ v15 w19 r15 h72=>?_
   obtain ⟨rfl,s20⟩:=r15
   refine mv h72 rfl fun _ h73=>h73.sn [13,12,11,10,9,8,7,6,5,4,0,1] rfl fun h74=>hK23 _ _<|sqr fun _ hK24=>mvs 2 h74 rfl fun _ h75=>sv h75 (wT h75 (E:=true) rfl rfl rfl) rfl rfl rfl (v:=.slice none 0 0) (Au h75 rfl rfl) fun _ h76=>sv h76 (wT h76 (E:=true) rfl rfl rfl) rfl rfl rfl (v:=ν 0) (Jq h76 rfl rfl υ60) fun _ h77=>sv h77 (wT h77 (E:=true) rfl rfl rfl) rfl rfl rfl (v:=.bool true) (BR h77 rfl rfl rfl (cEq _ _ _ _ (show decide ((0:Int)=0)=true from rfl))) fun _ h78=>sv1 h78 rfl (v:=.bool true) (BD h78 rfl rfl rfl) fun _ h79=>mv h79 rfl fun _ h80=>?_
   refine sv h80 (wT h80 (E:=true) rfl rfl rfl) rfl rfl rfl (v:=ν 0) (Au h80 rfl rfl) fun _ h81=>sv h81 (wT h81 (E:=true) rfl rfl rfl) rfl rfl rfl (v:=.bool true) (BR h81 rfl rfl rfl (cEq _ _ _ _ (show decide ((0:Int)=0)=true from rfl))) fun _ h82=>sv1 h82 rfl (v:=.bool true) (BD h82 rfl rfl rfl) fun _ h83=>mv h83 rfl fun _ h84=>sv h84 (wT h84 (E:=true) rfl rfl rfl) rfl rfl rfl (v:=π mx_x125) (Au h84 rfl rfl) fun _ h85=>so (wT h85 (E:=true) rfl rfl rfl) fun _ hK25=>Be h85 rfl rfl rfl (xs:=[.tmp 88]) rfl (cF func11) rfl (vs:=[π mx_x125]) rfl (args:=#[π mx_x125]) rfl (XA (s20.pk [2,3,0,1,4,5,6] rfl) hM (YF hV hF)) fun _ v16 w20 r16 h86=>hK25 _ _ ?_
   obtain ⟨rfl,s21⟩:=r16
   refine so (wT h86 (E:=true) rfl rfl rfl) fun _ hK26=>Be h86 rfl rfl rfl (xs:=[.tmp 89]) rfl (cF func14) rfl (vs:=[.agg (Ai Aj)]) rfl (args:=#[.agg (Ai Aj)]) rfl (Acc s21) fun _ v17 w21 r17 h87=>hK26 _ _ ?_
   obtain ⟨rfl,s22⟩:=r17
   refine sv h87 (wT h87 (E:=true) rfl rfl rfl) rfl rfl rfl (v:=.bool true) (BR h87 rfl rfl rfl (cEq _ _ _ _ (show decide ((0:Int)=0)=true from rfl))) fun _ h88=>sv1 h88 rfl (v:=.bool true) (BD h88 rfl rfl rfl) fun _ h89=>mv h89 rfl fun _ h90=>sv h90 (wT h90 (E:=true) rfl rfl rfl) rfl rfl rfl (v:=.pointer none) (Au h90 rfl rfl) fun _ h91=>sv h91 (wT h91 (E:=true) rfl rfl rfl) rfl rfl rfl (v:=.bool true) (BR h91 rfl rfl rfl (MP _ υ35 _ _ _)) fun _ h92=>sv1 h92 rfl (v:=.bool true) (BD h92 rfl rfl rfl) fun _ h93=>mv h93 rfl fun _ h94=>so (wT h94 (E:=true) rfl rfl rfl) fun _ hK27=>Be h94 rfl rfl rfl (xs:=[.const (.pointer none)]) rfl (cF func21) rfl (vs:=[.pointer none]) rfl (args:=#[.pointer none]) rfl (RS s22) fun _ v18 w22 r18 h95=>hK27 _ _ ?_
   obtain ⟨rfl,s23⟩:=r18
   refine sv h95 (wT h95 (E:=true) rfl rfl rfl) rfl rfl rfl (v:=.bool true) (BR h95 rfl rfl rfl (MP _ υ35 _ _ _)) fun _ h96=>sv1 h96 rfl (v:=.bool true) (BD h96 rfl rfl rfl) fun _ h97=>mv h97 rfl fun _ h98=>so (wT h98 (E:=true) rfl rfl rfl) fun _ hK28=>Be h98 rfl rfl rfl (xs:=[]) rfl (cF func12) rfl (vs:=[]) rfl (args:=#[]) rfl (UF s23) fun _ v19 w23 r19 h99=>hK28 _ _ ?_
   obtain ⟨rfl,s24⟩:=r19
   refine sv1 h99 rfl (v:=.bool true) (BD h99 rfl rfl rfl) fun _ h100=>h100.sk [103,102,101,100,99,98,97,96,95,94,93,92,91,90,89,88,87,86,85,84,83,82,81,80,79,78,77,13,12,11,10,9,8,7,6,5,0,1] rfl fun h101=>mv h101 rfl fun _ h102=>h102.sn [4,13,12,11,10,9,8,7,6,5,0,1] rfl fun h103=>hK24 _ _<|wp_ret ?_
   try simp only [Exit.then,Exit.inBlock]
   refine By (v:=.bool true) (Cx h103 rfl rfl) h103.defs ?_
   exact ⟨congrArg Value.bool rfl,Sep.tail_un (xs:=[_]) (s24.pk [5,6] rfl)⟩
  refine sqr fun _ hK29=>mv h10 rfl fun _ h104=>bv h104 (z:=.bool (decide (z0<0))) rfl (cLt _ _ _ _ rfl) fun _ h105=>h105.sn [23,5,4,0,1] rfl fun h106=>hK29 _ _ ?_
  rcases bC (decide (z0<0)) with hc1 | hc1
  ·skip
   have hp1:z0<0:=(dT hc1)
   refine wcT h106 rfl hc1<|h106.sk [5,4,0,1] rfl fun h107=>wp_region_lit<|mv h107 rfl fun _ h108=>bv h108 (z:=ν (z0+1)) rfl (DE _ _ _ ω ω ω) fun _ h109=>sv1 h109 rfl (v:=ν (-(z0+1))) (Agf h109 rfl rfl rfl ω ω) fun _ h110=>h110.sk [26,25,24,5,4,0] rfl fun h111=>mv h111 rfl fun _ h112=>h112.sk [1,5,4,0] rfl fun h113=>wpList_nil ?_
   exact hJ36 (-(z0+1)) _ _ (h113.subs rfl) s2 ω
  ·skip
   have hp2:¬ (z0<0):=(dF hc1)
   refine wcF h106 rfl hc1<|h106.sk [5,4,0,1] rfl fun h114=>wp_skip ?_
   exact hJ36 z0 _ _ (h114.subs rfl) s2 ω
 refine sqr fun _ hK30=>mv h9 rfl fun _ h115=>sv1 h115 rfl (v:=ν (xs.length:Int)) (Jq h115 rfl rfl υ52) fun _ h116=>bv h116 (z:=.bool (decide ((xs.length:Int)>4000))) rfl (cGt _ _ _ _ rfl) fun _ h117=>h117.sn [19,5,4,0,1] rfl fun h118=>hK30 _ _ ?_
 rcases bC (decide ((xs.length:Int)>4000)) with hc2 | hc2
 ·skip
  have hp3:(xs.length:Int)>4000:=(dT hc2)
  refine wcT h118 rfl hc2<|h118.sk [5,4,0,1] rfl fun h119=>wp_region_lit<|mv h119 rfl fun _ h120=>sv1 h120 rfl (v:=.slice a0 4000 c0) (Agh h120 rfl rfl (vl:=none) (vh:=some (ν 4000)) rfl rfl (fun w=>slL 52 5 υ52 κ a0 xs.length c0 (b:=4000) ω w)) fun _ h121=>h121.sk [21,20,5,4,1] rfl fun h122=>mv h122 rfl fun _ h123=>h123.sk [0,5,4,1] rfl fun h124=>wpList_nil ?_
  have hr9:=EN hrow 4000
  exact hJ30 4000 _ _ (h124.subs rfl) s1 ⟨hr9,by rw [List.length_take];omega,ω⟩
 ·skip
  have hp4:¬ ((xs.length:Int)>4000):=(dF hc2)
  refine wcF h118 rfl hc2<|h118.sk [5,4,0,1] rfl fun h125=>wp_skip ?_
  have hr9:=EN hrow xs.length
  exact hJ30 xs.length _ _ (h125.subs rfl) s1 ⟨hr9,by rw [List.length_take];omega,ω⟩
theorem MetaFormats_walk (w:World) (a:Ω) (c:Nat) (xs:Λ) (ha:RowB w a c xs) (p:Int) (hp:(Lit.int IntKind.i64 p).wf=true):Calls prog 5 #[.slice a xs.length c,ν p] w fun e w'=>e=.returned (.bool true)∧Below w.heap.size w w':=by
 have hq:-9223372036854775808≤p∧p≤9223372036854775807:=by have z:=hp;simp [Lit.wf] at z;exact z
 refine Calls.mono (MFo (W:=w) (Sep.start w) ha hq) fun e w' ⟨v,e1,e2,h⟩=>⟨by rw [e1,e2],?_⟩
 have o:Below w.heap.size w w'∧_:=h.get 0 rfl
 exact o.1
end
end Go.Proofs.YthiplgahhejmcaaGreatDoor
