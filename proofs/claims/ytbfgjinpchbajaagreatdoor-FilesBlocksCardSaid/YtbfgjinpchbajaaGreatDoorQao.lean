/- Parts of the proof. -/
import Derived.Deep.Strs
import Derived.Test.YtbfgjinpchbajaaGreatDoorQan
namespace Go.Proofs.YtbfgjinpchbajaaGreatDoor
open Go.RowKit
set_option linter.unusedSimpArgs false
set_option linter.unusedVariables false
set_option linter.unusedSectionVars false
set_option maxRecDepth 100000
set_option maxHeartbeats 8000000
section
theorem FBl {W w:World} {R:List Ch} {la ma:Option Addr} {lc mc:Nat} {L L2:List ByteArray} (hS0:Sep w ([Je W W.heap.size]++R)) (rb:ExtA W la L.length lc 1 (fun k=>[.string (L.getD k ⟨#[]⟩)])) (rb2:ExtA W ma L2.length mc 1 (fun k=>[.string (L2.getD k ⟨#[]⟩)]))  :
  CallsR Tryz.prog 4 #[.slice la L.length lc,.slice ma L2.length mc] w (fun v w'=>v=.bool true∧Sep w' ([Je W W.heap.size]++R)):=by
 have hS:Sep w [Je W W.heap.size,Ch.many R]:=Sep.tail_many (xs:=[_]) hS0;clear hS0
 obtain ⟨bl,ol,hl⟩:=rb.at
 obtain ⟨bm,om,hm⟩:=rb2.at
 refine Bd Tryz.func4 rfl (N:=157) Tryz.ntmps4 (by show 2≤157;decide) [(0,.slice la L.length lc),(1,.slice ma L2.length mc)] rfl fun _ h1=>sqr fun _ hK3=>mv h1 rfl fun _ h4=>wpList_nil<|hK3 _ _<|sqr fun _ hK6=>cl h4 rfl (cF Tryz.func7) (Vk hS) fun _ v1 w2 r1 h2=>?_
 obtain ⟨kk_x7,tax8,tcx9,mv_x10,mx_x11,fx_x12,vx_x13,rfl,s1⟩:=r1
 refine mv h2 rfl fun _ h3=>h3.sn [5,4,0,1] rfl fun h5=>hK6 _ _<|sq fun _ hK1=>sqr fun _ hK2=>mv h5 rfl fun _ h6=>bv h6 (z:=.bool false) rfl (OO _ υ23 _ _ _) fun _ h7=>h7.sn [22,5,4,0,1] rfl fun h8=>hK2 _ _<|wcF h8 rfl rfl<|h8.sk [5,4,0,1] rfl fun h9=>?_
 refine wp_skip<|hK1 _ _<|sqr fun _ hK4=>mvs 2 h9 rfl fun _ h10=>fav h10 rfl (fQ 1) fun _ h11=>ldv h11 s1 0 υ31 rfl rfl rfl rfl fun _ h12=>cl h12 rfl (cF Tryz.func15) (Aet mv_x10 (s1.pk [2,3,0,1,4,5] rfl)) fun _ v2 w3 r2 h13=>?_
 obtain ⟨rfl,s2⟩:=r2
 refine mvs 3 h13 rfl fun _ h14=>so (wn rfl) fun _ hK5=>AW h14 rfl rfl rfl rfl (z:=[ν 0,ν 0,ν 0,ν 0,ν 0,ν 0,ν 0,ν 0,ν 0,ν 0,ν 0,ν 0,ν 0,ν 0,ν 0]) (fun _=>rfl) s2 fun _ g1 w4 h15 s3 _ _=>hK5 _ _ ?_
 refine stA h15 s3 0 rfl rfl rfl κ rfl rfl rfl rfl fun _ w5 h16 s4 _=>mv h16 rfl fun _ h17=>h17.sn [6,5,4,0,1] rfl fun h18=>hK4 _ _<|sqr fun _ hK7=>mv h18 rfl fun _ h19=>wpList_nil<|hK7 _ _<|sq fun _ hK8=>sqr fun _ hK9=>mv h19 rfl fun _ h20=>wpList_nil<|hK9 _ _ ?_
 refine wp_block ?_
 refine RQ (fun (k:Nat) (n:Int) a' w'=>Kn 157 [(9,ν (k:Int)),(8,ν n),(6,π g1),(5,π vx_x13),(4,.bool false),(0,.slice la L.length lc),(1,.slice ma L2.length mc)] a'∧Sep w' [Ae g1 45 (Ap IP),Ae mx_x11 103 [π kk_x7.tg],txP kk_x7 tax8 tcx9 mv_x10.M [],Ae vx_x13 34 [π kk_x7.tg,π mx_x11,π fx_x12],Ae fx_x12 83 [π kk_x7.tg,π mx_x11],Je W W.heap.size,Ch.many R]∧(k≤4)∧(n=Tl k)∧(0≤n∧n≤k)) (fun (k:Nat) (n:Int)=>4-k) 0 0 ⟨h20.subs rfl,s4,Nat.zero_le _,rfl,by decide⟩ ?_
 rintro k1 n87 a1 w6 ⟨h21,s5,hk83,hn84,hb85⟩ K1 hK10
 refine sq fun _ hK11=>sqr fun _ hK12=>mv h21 rfl fun _ h22=>bv h22 (z:=.bool (decide ((k1:Int)<4))) rfl (cLt _ _ _ _ rfl) fun _ h23=>h23.sn [32,9,8,6,5,4,0,1] rfl fun h24=>hK12 _ _ ?_
 rcases bC (decide ((k1:Int)<4)) with hc1 | hc1
 ·skip
  have hp1:(k1:Int)<4:=(dT hc1)
  refine wcT h24 rfl hc1<|h24.sk [9,8,6,5,4,0,1] rfl fun h25=>wp_skip<|hK11 _ _<|sq fun _ hK13=>wp_block ?_
  refine sqr fun _ hK14=>mv h25 rfl fun _ h26=>fav h26 rfl (fQ 3) fun _ h27=>sv1 h27 rfl (v:=.pointer (some ⟨g1,3+k1,none⟩)) (BS h27 rfl rfl rfl (fun w=>Lq g1 k1 ω ω w)) fun _ h28=>sw1 h28 rfl (v:=ν (IP.blk k1)) (rld h28 rfl rfl (ldB υ3 rfl (s5.get 0 rfl:Blk _ _ _ _) (Ee IP ω))) fun _ h29=>bv h29 (z:=.bool (decide (IP.blk k1≠0))) rfl (cNe _ _ _ _ rfl) fun _ h30=>h30.sn [39,9,8,6,5,4,0,1] rfl fun h31=>hK14 _ _ ?_
  rcases bC (decide (IP.blk k1≠0)) with hc2 | hc2
  ·skip
   have hp2:IP.blk k1≠0:=(dT hc2)
   refine wcT h31 rfl hc2<|h31.sk [9,8,6,5,4,0,1] rfl fun h32=>wp_region_lit<|mv h32 rfl fun _ h33=>bv h33 (z:=ν (n87+1)) rfl (CO _ _ _ ω ω ω) fun _ h34=>h34.sk [41,40,9,6,5,4,0,1] rfl fun h35=>mv h35 rfl fun _ h36=>h36.sn [8,9,6,5,4,0,1] rfl fun h37=>hK13 _ _<|wp_region_lit ?_
   refine mv h37 rfl fun _ h38=>bv h38 (z:=ν ((k1+1:Nat):Int)) rfl (CO _ _ _ ω ω ω) fun _ h39=>h39.sk [34,33,8,6,5,4,0,1] rfl fun h40=>mv h40 rfl fun _ h41=>h41.sk [9,8,6,5,4,0,1] rfl fun h42=>wpList_nil ?_
   exact hK10 (k1+1) (n87+1) _ _ ⟨h42.subs rfl,s5,ω,(by show _=Tl (k1+1);unfold Tl;rw [if_pos hp2];omega),ω⟩ ω
  ·skip
   have hp3:¬ (IP.blk k1≠0):=(dF hc2)
   refine wcF h31 rfl hc2<|h31.sk [9,8,6,5,4,0,1] rfl fun h43=>wp_skip<|hK13 _ _<|wp_region_lit<|mv h43 rfl fun _ h44=>bv h44 (z:=ν ((k1+1:Nat):Int)) rfl (CO _ _ _ ω ω ω) fun _ h45=>h45.sk [34,33,8,6,5,4,0,1] rfl fun h46=>mv h46 rfl fun _ h47=>h47.sk [9,8,6,5,4,0,1] rfl fun h48=>wpList_nil ?_
   exact hK10 (k1+1) n87 _ _ ⟨h48.subs rfl,s5,ω,(by show _=Tl (k1+1);unfold Tl;rw [if_neg hp3];omega),ω⟩ ω
 ·skip
  have hp4:¬ ((k1:Int)<4):=(dF hc1)
  refine wcF h24 rfl hc1<|h24.sk [9,8,6,5,4,0,1] rfl fun h49=>wp_exit ?_
  refine hK8 _ _ ?_
  refine sqr fun _ hK15=>so (wn rfl) fun _ hK16=>Do h49 rfl rfl rfl (E:=3) (xs:=[(0,.const (ν 0)),(1,.const (ν 0)),(2,.const (ν 0)),(3,.const (ν 0))]) rfl (vs:=[(0,ν 0),(1,ν 0),(2,ν 0),(3,ν 0)]) rfl (z:=[ν 0,ν 0,ν 0,ν 0]) (fun _=>κ) s5 fun _ g2 w7 h50 s6 _ _=>hK16 _ _ ?_
  refine mv h50 rfl fun _ h51=>h51.sn [10,9,8,6,5,4,0,1] rfl fun h52=>hK15 _ _<|sq fun _ hK17=>sqr fun _ hK18=>mv h52 rfl fun _ h53=>wpList_nil<|hK18 _ _<|wp_block ?_
  have hk9:k1=4:=ω
  rw [hk9] at hn84
  obtain rfl:n87=2:=hn84
  refine Ii (fun (i:Nat) (V:VolC) (ta2:Option Addr) (tc2:Nat) a' w'=>Kn 157 [(11,ν (i:Int)),(10,.slice (some ⟨g2,0,none⟩) 4 4),(8,ν 2),(6,π g1),(5,π vx_x13),(4,.bool false),(0,.slice la L.length lc),(1,.slice ma L2.length mc)] a'∧Sep w' [Ae g2 3 ((szL V.T).map iV),Ae mx_x11 103 [π kk_x7.tg],txP kk_x7 ta2 tc2 V.M [],Ae vx_x13 34 [π kk_x7.tg,π mx_x11,π fx_x12],Ae fx_x12 83 [π kk_x7.tg,π mx_x11],Je W W.heap.size,Ch.many R]∧(i≤8)) (fun (i:Nat) (V:VolC) (ta2:Option Addr) (tc2:Nat)=>8-i) 0 (ZG mv_x10) tax8 tcx9 ⟨h53.subs rfl,(show Sep _ [Ae g2 3 ((szL (ZG mv_x10).T).map iV),Ae mx_x11 103 [π kk_x7.tg],txP kk_x7 tax8 tcx9 ((ZG mv_x10).M) [],Ae vx_x13 34 [π kk_x7.tg,π mx_x11,π fx_x12],Ae fx_x12 83 [π kk_x7.tg,π mx_x11],Je W W.heap.size,Ch.many R] from (s6.pk [0,2,3,4,5,6,7] rfl)),Nat.zero_le _⟩ ?_
  rintro i1 V165 ta2166 tc2167 a2 w8 ⟨h54,s7,hi163⟩ K2 hK19
  refine sq fun _ hK20=>sqr fun _ hK21=>mv h54 rfl fun _ h55=>bv h55 (z:=.bool (decide ((i1:Int)<8))) rfl (cLt _ _ _ _ rfl) fun _ h56=>h56.sn [44,11,10,8,6,5,4,0,1] rfl fun h57=>hK21 _ _ ?_
  rcases bC (decide ((i1:Int)<8)) with hc3 | hc3
  ·skip
   have hp5:(i1:Int)<8:=(dT hc3)
   refine wcT h57 rfl hc3<|h57.sk [11,10,8,6,5,4,0,1] rfl fun h58=>wp_skip<|hK20 _ _<|sq fun _ hK22=>wp_block ?_
   refine sqr fun _ hK23=>mv h58 rfl fun _ h59=>wpList_nil<|hK23 _ _<|sqr fun _ hK24=>mv h59 rfl fun _ h60=>?_
   have hmd185:=Ad2 i1
   refine bv h60 (z:=ν ((md4 i1:Nat):Int)) rfl (Ag3 _ _ _ (by decide) (Ags _)) fun _ h61=>mv h61 rfl fun _ h62=>h62.sn [13,12,11,10,8,6,5,4,0,1] rfl fun h63=>hK24 _ _<|sq fun K3 hK25=>?_
   have hJ192:∀ (S9:List UInt8) a' w',Kn 157 [(13,ν ((md4 i1:Nat):Int)),(12,σ S9),(11,ν (i1:Int)),(10,.slice (some ⟨g2,0,none⟩) 4 4),(8,ν 2),(6,π g1),(5,π vx_x13),(4,.bool false),(0,.slice la L.length lc),(1,.slice ma L2.length mc)] a'→Sep w' [Ae g2 3 ((szL V165.T).map iV),Ae mx_x11 103 [π kk_x7.tg],txP kk_x7 ta2166 tc2167 V165.M [],Ae vx_x13 34 [π kk_x7.tg,π mx_x11,π fx_x12],Ae fx_x12 83 [π kk_x7.tg,π mx_x11],Je W W.heap.size,Ch.many R]→K3 a' w':=by
    intro S9 a3 w9 h64 s8
    refine hK25 _ _ ?_
    refine sq fun K4 hK26=>?_
    have hJ198:∀ (S9:List UInt8) a' w',Kn 157 [(13,ν ((md4 i1:Nat):Int)),(12,σ S9),(11,ν (i1:Int)),(10,.slice (some ⟨g2,0,none⟩) 4 4),(8,ν 2),(6,π g1),(5,π vx_x13),(4,.bool false),(0,.slice la L.length lc),(1,.slice ma L2.length mc)] a'→Sep w' [Ae g2 3 ((szL V165.T).map iV),Ae mx_x11 103 [π kk_x7.tg],txP kk_x7 ta2166 tc2167 V165.M [],Ae vx_x13 34 [π kk_x7.tg,π mx_x11,π fx_x12],Ae fx_x12 83 [π kk_x7.tg,π mx_x11],Je W W.heap.size,Ch.many R]→K4 a' w':=by
     intro S9 a4 w10 h65 s9
     refine hK26 _ _ ?_
     refine sq fun K5 hK27=>?_
     have hJ204:∀ (S8:List UInt8) a' w',Kn 157 [(13,ν ((md4 i1:Nat):Int)),(12,σ S8),(11,ν (i1:Int)),(10,.slice (some ⟨g2,0,none⟩) 4 4),(8,ν 2),(6,π g1),(5,π vx_x13),(4,.bool false),(0,.slice la L.length lc),(1,.slice ma L2.length mc)] a'→Sep w' [Ae g2 3 ((szL V165.T).map iV),Ae mx_x11 103 [π kk_x7.tg],txP kk_x7 ta2166 tc2167 V165.M [],Ae vx_x13 34 [π kk_x7.tg,π mx_x11,π fx_x12],Ae fx_x12 83 [π kk_x7.tg,π mx_x11],Je W W.heap.size,Ch.many R]→(S8.length≤256)→K5 a' w':=by
      intro S8 a5 w11 h66 s10 hS8
      refine hK27 _ _ ?_
      refine sq fun _ hK28=>sqr fun _ hK29=>mvs 2 h66 rfl fun _ h67=>fav h67 rfl (fQ 2) fun _ h68=>ldv h68 s10 3 υ32 rfl rfl rfl rfl fun _ h69=>mv h69 rfl fun _ h70=>bv h70 (z:=ν ((md4 i1+2:Nat):Int)) rfl (CO _ _ _ ω ω ω) fun _ h71=>mv h71 rfl fun _ h72=>cl h72 rfl (cF Tryz.func16) (Aez (k:=(md4 i1)) (S:=S8) V165 (s10.pk [4,1,2,0,3,5,6] rfl) ω ω ω) fun _ v3 w12 r3 h73=>?_
      obtain ⟨tax225,tcx226,vf_x227,rfl,s11,hT232⟩:=r3
      refine bv h73 (z:=.bool false) rfl (cNe _ _ _ _ rfl) fun _ h74=>mv h74 rfl fun _ h75=>sv h75 (wF h75 (E:=false) rfl rfl rfl) rfl rfl rfl (v:=π vx_x13) (AG h75 rfl rfl) fun _ h76=>sv h76 (wF h76 (E:=false) rfl rfl rfl) rfl rfl rfl (v:=π vx_x13) (Lt h76 rfl rfl) fun _ h77=>sv h77 (wF h77 (E:=false) rfl rfl rfl) rfl rfl rfl (v:=π vx_x13) (rfa h77 rfl rfl (fQ 0)) fun _ h78=>sw h78 (wF h78 (E:=false) rfl rfl rfl) rfl rfl rfl (v:=π kk_x7.tg) (rld h78 rfl rfl (ldB υ30 rfl (s11.get 4 rfl:Blk _ _ _ _) rfl)) fun _ h79=>so (wF h79 (E:=false) rfl rfl rfl) fun _ hK30=>BM h79 rfl rfl rfl (xs:=[.tmp 91]) rfl (cF Tryz.func12) rfl (vs:=[π kk_x7.tg]) rfl (args:=#[π kk_x7.tg]) rfl (Xz vf_x227 (s11.pk [2,0,1,3,4,5,6] rfl)) fun _ v4 w13 r4 h80=>hK30 _ _ ?_
      obtain ⟨tax247,tcx248,vc_x249,rfl,s12,hU254⟩:=r4
      refine sv h80 (wF h80 (E:=false) rfl rfl rfl) rfl rfl rfl (v:=.bool false) (Co h80 rfl rfl rfl (cNe _ _ _ _ rfl)) fun _ h81=>sv1 h81 rfl (v:=.bool false) (DM h81 rfl rfl rfl) fun _ h82=>h82.sn [94,13,12,11,10,8,6,5,4,0,1] rfl fun h83=>hK29 _ _<|wcF h83 rfl rfl<|h83.sk [13,12,11,10,8,6,5,4,0,1] rfl fun h84=>wp_skip<|hK28 _ _<|sq fun _ hK31=>?_
      have hsz264:(szL V165.T).length=4:=rfl
      refine wp_region_lit<|mvs 3 h84 rfl fun _ h85=>sv1 h85 rfl (v:=ν (S8.length:Int)) (FV h85 rfl rfl υ9) fun _ h86=>sv1 h86 rfl (v:=.pointer (some ⟨g2,md4 i1,none⟩)) (BS h86 rfl rfl rfl (fun w=>ixS υ48 κ (sz:=1) (j:=md4 i1) rfl ω (Nat.mul_one _) w)) fun _ h87=>so (wn rfl) fun _ hK32=>FH h87 rfl rfl s12 3 rfl rfl rfl [ν (S8.length:Int)] rfl κ rfl (by rw [List.length_map];show md4 i1+1≤_;omega) (L':=((szL V165.T).set (md4 i1) (S8.length:Int)).map iV) (Adw ω) (cs':=[txP kk_x7 tax247 tcx248 vc_x249.M [],Ae fx_x12 83 [π kk_x7.tg,π mx_x11],Ae mx_x11 103 [π kk_x7.tg],Ae g2 3 (((szL V165.T).set (md4 i1) (S8.length:Int)).map iV),Ae vx_x13 34 [π kk_x7.tg,π mx_x11,π fx_x12],Je W W.heap.size,Ch.many R]) rfl fun _ w14 h88 s13 _=>hK32 _ _ ?_
      refine h88.sn [13,12,11,10,8,6,5,4,0,1] rfl fun h89=>hK31 _ _<|sq fun _ hK33=>?_
      have hT283:vc_x249.T=RJ V165.T (md4 i1) S8:=hU254.trans hT232
      have s14:Sep w14 [txP kk_x7 tax247 tcx248 vc_x249.M [],Ae fx_x12 83 [π kk_x7.tg,π mx_x11],Ae mx_x11 103 [π kk_x7.tg],Ae g2 3 ((szL vc_x249.T).map iV),Ae vx_x13 34 [π kk_x7.tg,π mx_x11,π fx_x12],Je W W.heap.size,Ch.many R]:=by have z:=s13;rw [Acf _ ω,← hT283] at z;exact z
      have hsz285:(szL vc_x249.T).length=4:=rfl
      refine wp_region_lit<|mvs 2 h89 rfl fun _ h90=>h90.sn [14,13,12,11,10,8,6,5,4,0,1] rfl fun h91=>hK33 _ _<|sq fun _ hK34=>sqr fun _ hK35=>mv h91 rfl fun _ h92=>wpList_nil<|hK35 _ _<|wp_block ?_
      refine FD (fun (j:Nat) a' w'=>Kn 157 [(15,ν (j:Int)),(14,ν (Nl vc_x249.T j)),(13,ν ((md4 i1:Nat):Int)),(12,σ S8),(11,ν (i1:Int)),(10,.slice (some ⟨g2,0,none⟩) 4 4),(8,ν 2),(6,π g1),(5,π vx_x13),(4,.bool false),(0,.slice la L.length lc),(1,.slice ma L2.length mc)] a'∧Sep w' [txP kk_x7 tax247 tcx248 vc_x249.M [],Ae fx_x12 83 [π kk_x7.tg,π mx_x11],Ae mx_x11 103 [π kk_x7.tg],Ae g2 3 ((szL vc_x249.T).map iV),Ae vx_x13 34 [π kk_x7.tg,π mx_x11,π fx_x12],Je W W.heap.size,Ch.many R]∧(j≤4)∧(2≤Nl vc_x249.T j∧Nl vc_x249.T j≤2+4*(j:Int))) (fun (j:Nat)=>4-j) 0 ⟨h92.subs rfl,s14,Nat.zero_le _,(by unfold Nl;omega)⟩ ?_
      rintro j302 a6 w15 ⟨h93,s15,hj300,hb301⟩ K6 hK36
      refine sq fun _ hK37=>sqr fun _ hK38=>mv h93 rfl fun _ h94=>bv h94 (z:=.bool (decide ((j302:Int)<4))) rfl (cLt _ _ _ _ rfl) fun _ h95=>h95.sn [102,15,14,13,12,11,10,8,6,5,4,0,1] rfl fun h96=>hK38 _ _ ?_
      rcases bC (decide ((j302:Int)<4)) with hc4 | hc4
      ·skip
       have hp6:(j302:Int)<4:=(dT hc4)
       refine wcT h96 rfl hc4<|h96.sk [15,14,13,12,11,10,8,6,5,4,0,1] rfl fun h97=>wp_skip<|hK37 _ _<|sq fun _ hK39=>wp_block ?_
       refine sqr fun _ hK40=>mvs 2 h97 rfl fun _ h98=>fav h98 rfl (fQ 1) fun _ h99=>ldv h99 s15 4 υ31 rfl rfl rfl rfl fun _ h100=>mv h100 rfl fun _ h101=>bv h101 (z:=ν ((j302+2:Nat):Int)) rfl (CO _ _ _ ω ω ω) fun _ h102=>cl h102 rfl (cF Tryz.func15) (Aaz (k:=j302) vc_x249 (s15.pk [2,0,1,3,4,5,6] rfl) ω ω) fun _ v5 w16 r5 h103=>?_
       obtain ⟨x_x327,rfl,s16,hx332⟩:=r5
       refine mvs 3 h103 rfl fun _ h104=>so (wn rfl) fun _ hK41=>AW h104 rfl rfl rfl rfl (z:=[ν 0,ν 0,ν 0,ν 0,ν 0,ν 0,ν 0,ν 0,ν 0,ν 0,ν 0,ν 0,ν 0,ν 0,ν 0]) (fun _=>rfl) s16 fun _ g3 w17 h105 s17 _ _=>hK41 _ _ ?_
       refine stA h105 s17 0 rfl rfl rfl κ rfl rfl rfl rfl fun _ w18 h106 s18 _=>mv h106 rfl fun _ h107=>h107.sn [16,15,14,13,12,11,10,8,6,5,4,0,1] rfl fun h108=>hK40 _ _<|sq fun _ hK42=>sq fun _ hK43=>?_
       have hz360:=Zz vc_x249.T (ω:j302<4)
       have s19:=s18.drew
       refine wp_region_held_drew (S:=fun w'=>Sep w' [Ae g3 45 (Ap x_x327),Ae mx_x11 103 [π kk_x7.tg],txP kk_x7 tax247 tcx248 vc_x249.M [],Ae fx_x12 83 [π kk_x7.tg,π mx_x11],Ae g2 3 ((szL vc_x249.T).map iV),Ae vx_x13 34 [π kk_x7.tg,π mx_x11,π fx_x12],Je W W.heap.size,Ch.many R]) κ s19 (fun hq1=>?_)
       refine tv1 hq1 h108 0 rfl rfl (v:=.pointer (some ⟨g3,2,none⟩)) (fun w1 _=>(rfa h108 rfl rfl (fQ 2)) w1) fun _ h109=>?_
       refine tv1 hq1 h109 1 rfl rfl (v:=ν x_x327.s) (fun w1 hSw=>(rld h109 rfl rfl (ldB υ3 rfl (hSw.get 0 rfl:Blk _ _ _ _) rfl))) fun _ h110=>?_
       refine tv1 hq1 h110 2 rfl rfl (v:=.slice (some ⟨g2,0,none⟩) 4 4) (fun w1 _=>(AG h110 rfl rfl) w1) fun _ h111=>?_
       refine tv1 hq1 h111 3 rfl rfl (v:=ν (j302:Int)) (fun w1 _=>(AG h111 rfl rfl) w1) fun _ h112=>?_
       refine tv1 hq1 h112 4 rfl rfl (v:=.pointer (some ⟨g2,j302,none⟩)) (fun w1 _=>(BS h112 rfl rfl rfl (fun w=>ixS υ48 κ (sz:=1) (j:=j302) rfl ω (Nat.mul_one _) w)) w1) fun _ h113=>?_
       refine tv1 hq1 h113 5 rfl rfl (v:=ν ((szL vc_x249.T).getD j302 0)) (fun w1 hSw=>(rld h113 rfl rfl (ldB υ3 rfl (hSw.get 4 rfl:Blk _ _ _ _) (SS ω)))) fun _ h114=>?_
       refine tv1 hq1 h114 6 rfl rfl (v:=.bool false) (fun w1 _=>(Co h114 rfl rfl rfl (cNe _ _ _ _ (decide_eq_false ω))) w1) fun _ h115=>?_
       refine h115.sk [121,16,15,14,13,12,11,10,8,6,5,4,0,1] rfl fun h116=>?_
       refine wpAnyH_done κ ?_ _
       refine hK43 _ _ ?_
       refine wcF h116 rfl rfl<|h116.sk [16,15,14,13,12,11,10,8,6,5,4,0,1] rfl fun h117=>wp_skip<|hK42 _ _<|wp_region_lit<|mvs 3 h117 rfl fun _ h118=>sv1 h118 rfl (v:=.pointer (some ⟨g2,j302,none⟩)) (BS h118 rfl rfl rfl (fun w=>ixS υ48 κ (sz:=1) (j:=j302) rfl ω (Nat.mul_one _) w)) fun _ h119=>sw1 h119 rfl (v:=ν ((szL vc_x249.T).getD j302 0)) (rld h119 rfl rfl (ldB υ3 rfl (s19.get 4 rfl:Blk _ _ _ _) (SS ω))) fun _ h120=>?_
       have hn389:=vc_x249.nd (ω:j302<4)
       have hn390:=(vc_x249.h.s j302 ω).2
       refine cl h120 rfl (cF Tryz.func17) (GK s19 (vc_x249.nds ω) ω) fun _ v6 w19 r6 h121=>?_
       obtain ⟨rfl,s20⟩:=r6
       refine bv h121 (z:=ν (Nl vc_x249.T j302+((ndT vc_x249.T j302:Nat):Int))) rfl (CO _ _ _ ω ω ω) fun _ h122=>h122.sk [128,127,126,125,124,123,122,16,15,13,12,11,10,8,6,5,4,0,1] rfl fun h123=>mv h123 rfl fun _ h124=>h124.sn [14,16,15,13,12,11,10,8,6,5,4,0,1] rfl fun h125=>hK39 _ _<|wp_region_lit<|mv h125 rfl fun _ h126=>bv h126 (z:=ν ((j302+1:Nat):Int)) rfl (CO _ _ _ ω ω ω) fun _ h127=>h127.sk [104,103,14,16,13,12,11,10,8,6,5,4,0,1] rfl fun h128=>mv h128 rfl fun _ h129=>?_
       refine h129.sk [15,14,16,13,12,11,10,8,6,5,4,0,1] rfl fun h130=>wpList_nil ?_
       exact hK36 (j302+1) _ _ ⟨h130.subs rfl,(s20.pk [2,3,1,4,5,6,7] rfl),ω,(by show 2≤Nl vc_x249.T j302+_∧Nl vc_x249.T j302+_≤_;omega)⟩ ω
      ·skip
       have hp7:¬ ((j302:Int)<4):=(dF hc4)
       refine wcF h96 rfl hc4<|h96.sk [15,14,13,12,11,10,8,6,5,4,0,1] rfl fun h131=>wp_exit ?_
       refine hK34 _ _ ?_
       refine sqr fun _ hK44=>mvs 2 h131 rfl fun _ h132=>fav h132 rfl (fQ 2) fun _ h133=>ldv h133 s15 4 υ32 rfl rfl rfl rfl fun _ h134=>mv h134 rfl fun _ h135=>bv h135 (z:=ν ((md4 i1+2:Nat):Int)) rfl (CO _ _ _ ω ω ω) fun _ h136=>cl h136 rfl (cF Tryz.func13) (Aae (k:=md4 i1) (S:=S8) vc_x249.v vc_x249.h (s15.pk [1,2,0,3,4,5,6] rfl) ω ω (by rw [hT283];exact Ach _ _ _)) fun _ v7 w20 r7 h137=>?_
       obtain ⟨rfl,s21⟩:=r7
       refine mvs 5 h137 rfl fun _ h138=>h138.sn [19,18,15,14,13,12,11,10,8,6,5,4,0,1] rfl fun h139=>hK44 _ _<|sq fun _ hK45=>?_
       have hc5:((Dq (Aq vc_x249.M []) 128).length:Int)=Nl vc_x249.T j302:=by rw [show j302=4 by omega];exact vc_x249.cnt
       refine wp_region_lit<|mvs 2 h139 rfl fun _ h140=>bv h140 (z:=.bool false) rfl (Uj _ _ _ _ _ (decide_eq_false (fun q=>q rfl))) fun _ h141=>mv h141 rfl fun _ h142=>sv h142 (wF h142 (E:=false) rfl rfl rfl) rfl rfl rfl (v:=ν 0) (AG h142 rfl rfl) fun _ h143=>sv h143 (wF h143 (E:=false) rfl rfl rfl) rfl rfl rfl (v:=.bool false) (Co h143 rfl rfl rfl (cNe _ _ _ _ rfl)) fun _ h144=>sv1 h144 rfl (v:=.bool false) (DM h144 rfl rfl rfl) fun _ h145=>mv h145 rfl fun _ h146=>sv h146 (wF h146 (E:=false) rfl rfl rfl) rfl rfl rfl (v:=π vx_x13) (AG h146 rfl rfl) fun _ h147=>sv h147 (wF h147 (E:=false) rfl rfl rfl) rfl rfl rfl (v:=π vx_x13) (Lt h147 rfl rfl) fun _ h148=>?_
       refine sv h148 (wF h148 (E:=false) rfl rfl rfl) rfl rfl rfl (v:=.pointer (some ⟨vx_x13,1,none⟩)) (rfa h148 rfl rfl (fQ 1)) fun _ h149=>sw h149 (wF h149 (E:=false) rfl rfl rfl) rfl rfl rfl (v:=π mx_x11) (rld h149 rfl rfl (ldB υ31 rfl (s21.get 4 rfl:Blk _ _ _ _) rfl)) fun _ h150=>so (wF h150 (E:=false) rfl rfl rfl) fun _ hK46=>BM h150 rfl rfl rfl (xs:=[.tmp 150]) rfl (cF Tryz.func18) rfl (vs:=[π mx_x11]) rfl (args:=#[π mx_x11]) rfl (UE (s21.pk [1,2,0,3,4,5,6] rfl) vc_x249.v.m) fun _ v8 w21 r8 h151=>hK46 _ _ ?_
       obtain ⟨rfl,s22⟩:=r8
       refine so (wF h151 (E:=false) rfl rfl rfl) fun _ hK47=>BM h151 rfl rfl rfl (xs:=[.tmp 151]) rfl (cF Tryz.func19) rfl (vs:=[.agg (Ak (Aq vc_x249.M []))]) rfl (args:=#[.agg (Ak (Aq vc_x249.M []))]) rfl (Bl s22 (NR (Aq vc_x249.M []) _ (Ao _))) fun _ v9 w22 r9 h152=>hK47 _ _ ?_
       obtain ⟨rfl,s23⟩:=r9
       refine sv h152 (wF h152 (E:=false) rfl rfl rfl) rfl rfl rfl (v:=ν (Nl vc_x249.T j302)) (AG h152 rfl rfl) fun _ h153=>sv h153 (wF h153 (E:=false) rfl rfl rfl) rfl rfl rfl (v:=.bool false) (Co h153 rfl rfl rfl (cNe _ _ _ _ (decide_eq_false ω))) fun _ h154=>sv1 h154 rfl (v:=.bool false) (DM h154 rfl rfl rfl) fun _ h155=>h155.sn [155,19,18,15,14,13,12,11,10,8,6,5,4,0,1] rfl fun h156=>hK45 _ _<|wcF h156 rfl rfl<|h156.sk [19,18,15,14,13,12,11,10,8,6,5,4,0,1] rfl fun h157=>wp_skip<|hK22 _ _<|wp_region_lit<|mv h157 rfl fun _ h158=>?_
       refine bv h158 (z:=ν ((i1+1:Nat):Int)) rfl (CO _ _ _ ω ω ω) fun _ h159=>h159.sk [46,45,19,18,15,14,13,12,10,8,6,5,4,0,1] rfl fun h160=>mv h160 rfl fun _ h161=>h161.sk [11,19,18,15,14,13,12,10,8,6,5,4,0,1] rfl fun h162=>wpList_nil ?_
       exact hK19 (i1+1) vc_x249 tax247 tcx248 _ _ ⟨h162.subs rfl,(s23.pk [3,0,1,4,2,5,6] rfl),ω⟩ ω
     refine sqr fun _ hK48=>mv h65 rfl fun _ h163=>sv1 h163 rfl (v:=ν (S9.length:Int)) (FV h163 rfl rfl υ9) fun _ h164=>bv h164 (z:=.bool (decide ((S9.length:Int)>256))) rfl (cGt _ _ _ _ rfl) fun _ h165=>h165.sn [75,13,12,11,10,8,6,5,4,0,1] rfl fun h166=>hK48 _ _ ?_
     rcases bC (decide ((S9.length:Int)>256)) with hc6 | hc6
     ·skip
      have hp8:(S9.length:Int)>256:=(dT hc6)
      refine wcT h166 rfl hc6<|h166.sk [13,12,11,10,8,6,5,4,0,1] rfl fun h167=>wp_region_lit<|mv h167 rfl fun _ h168=>sv1 h168 rfl (v:=σ (S9.take 256)) (TA h168 rfl rfl (vl:=none) (vh:=(some (ν 256))) rfl rfl (fun w=>(fun w=>((slT 9 υ9 S9 (a:=0) (b:=256) (.inl ⟨rfl,rfl⟩) (.inr ⟨_,rfl,rfl⟩) ω ω) w).trans (by rw [List.drop_zero])) w)) fun _ h169=>h169.sk [77,76,13,11,10,8,6,5,4,0,1] rfl fun h170=>mv h170 rfl fun _ h171=>h171.sk [12,13,11,10,8,6,5,4,0,1] rfl fun h172=>wpList_nil ?_
      exact hJ204 (S9.take 256) _ _ (h172.subs rfl) s9 (by (try rw [List.length_take]);omega)
     ·skip
      have hp9:¬ ((S9.length:Int)>256):=(dF hc6)
      refine wcF h166 rfl hc6<|h166.sk [13,12,11,10,8,6,5,4,0,1] rfl fun h173=>wp_skip ?_
      exact hJ204 S9 _ _ (h173.subs rfl) s9 (by (try rw [List.length_take]);omega)
    refine sqr fun _ hK49=>mv h64 rfl fun _ h174=>bv h174 (z:=.bool (decide ((i1:Int)≥4))) rfl (cGe _ _ _ _ rfl) fun _ h175=>mv h175 rfl fun _ h176=>sg h176 (wT h176 rfl rfl rfl) rfl rfl rfl (v:=ν ((md4 i1:Nat):Int)) (fun hC1=>by have hq:=(dT hC1);exact AG h176 rfl rfl _) fun _ h177=>sg h177 (wT h177 rfl rfl rfl) rfl rfl rfl (v:=.slice ma L2.length mc) (fun hC2=>by have hq:=(dT hC2);exact AG h177 rfl rfl _) fun _ h178=>sg h178 (wT h178 rfl rfl rfl) rfl rfl rfl (v:=ν (L2.length:Int)) (fun hC3=>by have hq:=(dT hC3);exact Re h178 rfl (opg rfl hC3) υ25 _) fun _ h179=>sg h179 (wT h179 rfl rfl rfl) rfl rfl rfl (v:=.bool (decide (((md4 i1:Nat):Int)<(L2.length:Int)))) (fun hC4=>by have hq:=(dT hC4);exact Co h179 rfl (opg rfl hC4) (opg rfl hC4) (cLt _ _ _ _ rfl) _) fun _ h180=>sv1 h180 rfl (v:=.bool ((decide ((i1:Int)≥4))&&(decide (((md4 i1:Nat):Int)<(L2.length:Int))))) (Ew h180 rfl (E:=(decide ((i1:Int)≥4))) (F:=(decide (((md4 i1:Nat):Int)<(L2.length:Int)))) rfl rfl rfl (fun e=>if_pos (by rw [e];try rfl))) fun _ h181=>h181.sk [68,13,12,11,10,8,6,5,4,0,1] rfl fun h182=>?_
    refine wpList_nil<|hK49 _ _ ?_
    rcases bC ((decide ((i1:Int)≥4))&&(decide (((md4 i1:Nat):Int)<(L2.length:Int)))) with hc7 | hc7
    ·skip
     have hp10:((i1:Int)≥4)∧(((md4 i1:Nat):Int)<(L2.length:Int)):=(And.intro (dT (Ab hc7).1) (dT (Ab hc7).2))
     refine wcT h182 rfl hc7<|h182.sk [13,12,11,10,8,6,5,4,0,1] rfl fun h183=>wp_region_lit<|mvs 2 h183 rfl fun _ h184=>sv1 h184 rfl (v:=.pointer (some ⟨bm,om+(md4 i1)*1,none⟩)) (BS h184 rfl rfl rfl (fun w=>ixO υ25 κ (sz:=1) (hm ω).1 (j:=md4 i1) rfl ω rfl w)) fun _ h185=>sw1 h185 rfl (v:=.string (L2.getD (md4 i1) ⟨#[]⟩)) (rld h185 rfl rfl (Afu (sz:=1) (n:=L2.length) (f:=(fun k=>[.string (L2.getD k ⟨#[]⟩)])) υ9 rfl (hm ω).2 (Nat.le_refl _) (s8.get 5 rfl:Below _ _ _∧_) (j:=(md4 i1)) (i:=0) ω rfl rfl)) fun _ h186=>h186.sk [72,71,70,69,13,11,10,8,6,5,4,0,1] rfl fun h187=>mv h187 rfl fun _ h188=>h188.sk [12,13,11,10,8,6,5,4,0,1] rfl fun h189=>wpList_nil ?_
     exact hJ198 ((L2.getD (md4 i1) ⟨#[]⟩).data.toList) _ _ (h189.subs rfl) s8 
    ·skip
     have hp11:(¬ ((i1:Int)≥4))∨(¬ (((md4 i1:Nat):Int)<(L2.length:Int))):=((ZW hc7).imp (fun q=>(dF q)) (fun q=>(dF q)))
     refine wcF h182 rfl hc7<|h182.sk [13,12,11,10,8,6,5,4,0,1] rfl fun h190=>wp_skip ?_
     exact hJ198 S9 _ _ (h190.subs rfl) s8 
   refine sqr fun _ hK50=>mv h63 rfl fun _ h191=>bv h191 (z:=.bool (decide ((i1:Int)<4))) rfl (cLt _ _ _ _ rfl) fun _ h192=>mv h192 rfl fun _ h193=>sg h193 (wT h193 rfl rfl rfl) rfl rfl rfl (v:=ν ((md4 i1:Nat):Int)) (fun hC5=>by have hq:=(dT hC5);exact AG h193 rfl rfl _) fun _ h194=>sg h194 (wT h194 rfl rfl rfl) rfl rfl rfl (v:=.slice la L.length lc) (fun hC6=>by have hq:=(dT hC6);exact AG h194 rfl rfl _) fun _ h195=>sg h195 (wT h195 rfl rfl rfl) rfl rfl rfl (v:=ν (L.length:Int)) (fun hC7=>by have hq:=(dT hC7);exact Re h195 rfl (opg rfl hC7) υ25 _) fun _ h196=>sg h196 (wT h196 rfl rfl rfl) rfl rfl rfl (v:=.bool (decide (((md4 i1:Nat):Int)<(L.length:Int)))) (fun hC8=>by have hq:=(dT hC8);exact Co h196 rfl (opg rfl hC8) (opg rfl hC8) (cLt _ _ _ _ rfl) _) fun _ h197=>sv1 h197 rfl (v:=.bool ((decide ((i1:Int)<4))&&(decide (((md4 i1:Nat):Int)<(L.length:Int))))) (Ew h197 rfl (E:=(decide ((i1:Int)<4))) (F:=(decide (((md4 i1:Nat):Int)<(L.length:Int)))) rfl rfl rfl (fun e=>if_pos (by rw [e];try rfl))) fun _ h198=>h198.sk [56,13,12,11,10,8,6,5,4,0,1] rfl fun h199=>?_
   refine wpList_nil<|hK50 _ _ ?_
   rcases bC ((decide ((i1:Int)<4))&&(decide (((md4 i1:Nat):Int)<(L.length:Int)))) with hc8 | hc8
   ·skip
    have hp12:((i1:Int)<4)∧(((md4 i1:Nat):Int)<(L.length:Int)):=(And.intro (dT (Ab hc8).1) (dT (Ab hc8).2))
    refine wcT h199 rfl hc8<|h199.sk [13,12,11,10,8,6,5,4,0,1] rfl fun h200=>wp_region_lit<|mvs 2 h200 rfl fun _ h201=>sv1 h201 rfl (v:=.pointer (some ⟨bl,ol+(md4 i1)*1,none⟩)) (BS h201 rfl rfl rfl (fun w=>ixO υ25 κ (sz:=1) (hl ω).1 (j:=md4 i1) rfl ω rfl w)) fun _ h202=>sw1 h202 rfl (v:=.string (L.getD (md4 i1) ⟨#[]⟩)) (rld h202 rfl rfl (Afu (sz:=1) (n:=L.length) (f:=(fun k=>[.string (L.getD k ⟨#[]⟩)])) υ9 rfl (hl ω).2 (Nat.le_refl _) (s7.get 5 rfl:Below _ _ _∧_) (j:=(md4 i1)) (i:=0) ω rfl rfl)) fun _ h203=>h203.sk [60,59,58,57,13,11,10,8,6,5,4,0,1] rfl fun h204=>mv h204 rfl fun _ h205=>h205.sk [12,13,11,10,8,6,5,4,0,1] rfl fun h206=>wpList_nil ?_
    exact hJ192 ((L.getD (md4 i1) ⟨#[]⟩).data.toList) _ _ (h206.subs rfl) s7 
   ·skip
    have hp13:(¬ ((i1:Int)<4))∨(¬ (((md4 i1:Nat):Int)<(L.length:Int))):=((ZW hc8).imp (fun q=>(dF q)) (fun q=>(dF q)))
    refine wcF h199 rfl hc8<|h199.sk [13,12,11,10,8,6,5,4,0,1] rfl fun h207=>wp_skip ?_
    exact hJ192 [] _ _ (h207.subs rfl) s7 
  ·skip
   have hp14:¬ ((i1:Int)<8):=(dF hc3)
   refine wcF h57 rfl hc3<|h57.sk [11,10,8,6,5,4,0,1] rfl fun h208=>wp_exit ?_
   refine hK17 _ _ ?_
   refine sqr fun _ hK51=>cl h208 rfl (cF Tryz.func14) (Aa3 s7) fun _ v10 w23 r10 h209=>?_
   obtain ⟨rfl,s24⟩:=r10
   refine h209.sk [156,11,10,8,6,5,0,1] rfl fun h210=>mv h210 rfl fun _ h211=>h211.sn [4,11,10,8,6,5,0,1] rfl fun h212=>hK51 _ _<|wp_ret ?_
   try simp only [Exit.then,Exit.inBlock]
   refine BR (v:=.bool true) (Ef h212 rfl rfl) h212.defs ?_
   exact ⟨rfl,Sep.tail_un (xs:=[_]) (s24.pk [5,6] rfl)⟩
end
section
open Go.RowKit Go.WideShapes Go.ChangeShapes Go.Deep
theorem open_strL {H:Type} {enc:TypeId×Value→H} {W:World} {base:Nat} {held:Bool} {a:Option Addr} {n c:Nat} {d:DataW H} {p:List MemPlace}
    (h:DataW.Trod enc Tryz.prog W base (fun _=>true) held 25 (.slice a n c) d p):∃ L:List ByteArray,n=L.length∧Hg W a c L:=by
  obtain ⟨fuel,hf⟩:=h
  rcases open_strs υ25 υ9 κ hf with ⟨hcs,_⟩ | ⟨x,len,cap,m,Sx,hcs,_,hl,hm,hmm,_,hi⟩
  · simp [Value.cells] at hcs
    obtain ⟨rfl,rfl,rfl⟩:=hcs
    exact ⟨[],rfl,Row.nil _ _⟩
  · simp [Value.cells] at hcs
    obtain ⟨rfl,rfl,rfl⟩:=hcs
    have hnm:n≤m:=by rw [hmm];split<;>omega
    refine ⟨(List.range n).map Sx,by simp,by simp,by simpa using hl,hm,(fun h=>by cases h),fun hn=>?_⟩
    have hn':0<n:=by simpa using hn
    have hq:=(hi 0 ω).1
    rw [show x.add 0=x from by unfold Addr.add;simp] at hq
    have hsp:=Vq hq
    obtain ⟨b,off,sp⟩:=x
    simp at hsp
    subst hsp
    refine ⟨b,off,rfl,World.block_lt_of_cell? W _ hq,fun j u hu=>?_⟩
    have hj:=(List.getElem?_eq_some_iff.1 hu).1
    simp only [List.length_map,List.length_range] at hj
    have h1:=(hi j ω).1
    rw [add_plain] at h1
    simp only [List.getElem?_map,List.getElem?_range hj,Option.map_some,Option.some.injEq] at hu
    rw [h1,← hu];rfl
theorem Ri {W:World} {a:Option Addr} {c:Nat} {L:List ByteArray} (h:Hg W a c L):ExtA W a L.length c 1 (fun k=>[.string (L.getD k ⟨#[]⟩)]):=by
  refine ⟨h.2.1,h.2.2.1,fun hn=>?_⟩
  obtain ⟨b,off,e,hb,g⟩:=h.2.2.2.2 hn
  refine ⟨b,off,e,hb,fun i hi j v hv=>?_⟩
  match j with
  | 0=>
    have hv:Value.string (L.getD i ⟨#[]⟩)=v:=by simpa using hv
    rw [Nat.mul_one,Nat.add_zero]
    exact g i v (by rw [List.getElem?_map,List.getElem?_eq_getElem hi,← hv,List.getD_eq_getElem?_getD,List.getElem?_eq_getElem hi];rfl)
  | j+1=>simp at hv
end
section
theorem FilesBlocks_walk (w:World) (a0:Option Addr) (c0:Nat) (L0:List ByteArray) (r0:Hg w a0 c0 L0) (a1:Option Addr) (c1:Nat) (L1:List ByteArray) (r1:Hg w a1 c1 L1):Calls Tryz.prog 4 #[.slice a0 L0.length c0,.slice a1 L1.length c1] w fun e w'=>e=.returned (.bool true)∧Below w.heap.size w w':=by
  refine Calls.mono (FBl (W:=w) (R:=[]) (Sep.start w) (Ri r0) (Ri r1)) fun e w' ⟨v,e1,e2,h⟩=>⟨by rw [e1,e2],?_⟩
  have o:Below w.heap.size w w'∧_:=h.get 0 rfl
  exact o.1
end
end Go.Proofs.YtbfgjinpchbajaaGreatDoor
