/- Parts of the proof. -/
import Derived.Test.YtbfgjinpchbajaaGreatDoorQan
namespace Go.Proofs.YtbfgjinpchbajaaGreatDoor
open Go.RowKit
open _root_.Go.Proofs.Tryz
set_option linter.unusedSimpArgs false
set_option linter.unusedVariables false
set_option linter.unusedSectionVars false
set_option maxRecDepth 100000
set_option maxHeartbeats 8000000
section
theorem Zc {c i o:Int} {t:Bool} {d:Λ} (h:BX ⟨c,i,t,o,d⟩=true):o=((o.toNat:Nat):Int):=by
 unfold BX at h;simp only [Bool.and_eq_true,decide_eq_true_eq] at h;omega
theorem Af4 (T:TypeId) (x y:Operand) {i j r:Int} (e:i-j+18446744073709551616=r) (h1:-18446744073709551616≤i-j) (h2:i-j < -9223372036854775808) (w:World):(do eqGuard .sub T x y (ν i) (ν j);binOp .sub T (ν i) (ν j):Sem Value).run prog w=.ok (ν r) w:=
 bI .sub T x y .i64 i j (by subst e;show some (Value.int .i64 (IntKind.i64.wrap (i-j)))=_;congr 2;simp [IntKind.wrap,IntKind.bits,IntKind.signed];omega) w
def GF (S:Λ) (r:RecM):Int:=if BX r then Fa S r.t r.o.toNat r.d else 1
def Lz (S:Λ) (r:RecM):Λ:=if BX r then FN S r.t r.o.toNat r.d else []
theorem Rr (S:Λ) (r:RecM):0≤GF S r:=by unfold GF Fa;(repeat' split)<;>decide
theorem Ad6 {w:World} {R:List Ch} {K:VolK} {ta:Ω} {tc:Nat} {M M':MemM} {P:List PtM} (hS:Sep w (txP K ta tc M P::R)) (h:M=M') :
  CallsR prog 10 #[pG K.tg] w (fun x w'=>∃ y,x=y∧Sep w' (txP K none 0 M' []::R)):=by subst h;exact Pf hS
def VolC.up (V:VolC):VolF:=⟨V.M,[],V.s,0,V.X,V.T,V.v,ω,V.h,V.r⟩
theorem XD {w:World} {R:List Ch} {fx mx:Nat} {K:VolK} {ta:Ω} {tc:Nat} {c i o:Int} {t:Bool} {d:Λ} {k:Nat} {S:Λ} (V:VolC) (hS:Sep w ([Ab fx 83 [π K.tg,π mx],mtC mx K,txP K ta tc V.M []]++R)) (hk:k<4) (hi:i=(k:Int)+2) (hT:V.T k=S) (hd:d.length≤1000000) :
  CallsR prog 9 #[π fx,.agg #[ν c,ν i,.bool t,ν o,σ d],ν 0] w (fun v w'=>∃ ta' tc',∃ V':VolF,v=ν (GF S ⟨c,i,t,o,d⟩)∧Sep w' ([Ab fx 83 [π K.tg,π mx],mtC mx K,txP K ta' tc' V'.M V'.P]++R) ∧
   (GF S ⟨c,i,t,o,d⟩=0→V'.T=RW V.T k (Lz S ⟨c,i,t,o,d⟩))∧(GF S ⟨c,i,t,o,d⟩≠0→V'.M=V.M)):=by
 cases hm:BX ⟨c,i,t,o,d⟩ with
 | false=>
  have e1:GF S ⟨c,i,t,o,d⟩=1:=by unfold GF;rw [hm];rfl
  rw [e1]
  exact Calls.mono (Uv hS V.v.m hd hm) fun e w' ⟨v,q1,q2,s⟩=>⟨v,q1,ta,tc,V.up,q2,s,fun h=>absurd h (by decide),fun _=>rfl⟩
 | true=>
  have ho:=Zc hm
  have e1:GF S ⟨c,i,t,o,d⟩=Fa S t o.toNat d:=by unfold GF;rw [hm];rfl
  have e2:Lz S ⟨c,i,t,o,d⟩=FN S t o.toNat d:=by unfold Lz;rw [hm];rfl
  have p:=Rr S ⟨c,i,t,o,d⟩
  rw [e1,e2];rw [e1] at p
  generalize o.toNat=n at *
  subst ho
  by_cases h:Fa S t n d=0
  ·exact Calls.mono (Aax V hS hk hi hT hd hm h) fun e w' ⟨v,q1,a1,a2,V',q2,s,u⟩=>⟨v,q1,a1,a2,V',by rw [q2,h],s,fun _=>u,fun q=>absurd h q⟩
  ·exact Calls.mono (Aav V hS hk hi hT hd hm ω) fun e w' ⟨v,q1,q2,s⟩=>⟨v,q1,ta,tc,V.up,q2,s,fun q=>absurd q h,fun _=>rfl⟩
theorem WR {w:World} {R:List Ch} {L:Λ} {r:RecM} (hS:Sep w ([]++R)) (hL:L.length≤1000000) (hd:r.d.length≤1000000) :
  CallsR prog 11 #[σ L,.agg #[ν r.c,ν r.i,.bool r.t,ν r.o,σ r.d]] w (fun v w'=>v=.tuple #[σ (Lz L r),ν (GF L r)]∧Sep w' ([]++R)):=by
 obtain ⟨c,i,t,o,d⟩:=r
 dsimp only at *
 cases hm:BX ⟨c,i,t,o,d⟩ with
 | false=>
  have e1:GF L ⟨c,i,t,o,d⟩=1:=by unfold GF;rw [hm];rfl
  have e2:Lz L ⟨c,i,t,o,d⟩=[]:=by unfold Lz;rw [hm];rfl
  rw [e1,e2];exact TI hS hL hd hm
 | true=>
  have ho:=Zc hm
  have e1:GF L ⟨c,i,t,o,d⟩=Fa L t o.toNat d:=by unfold GF;rw [hm];rfl
  have e2:Lz L ⟨c,i,t,o,d⟩=FN L t o.toNat d:=by unfold Lz;rw [hm];rfl
  rw [e1,e2]
  generalize o.toNat=n at *
  subst ho
  exact TJ hS hL hd hm
theorem FPl {W w:World} {R:List Ch} {la:Ω} {n lc:Nat} {f:Nat→RecM} (hS0:Sep w ([Lx W W.heap.size]++R)) (rb:ExtA W la n lc 5 (fun k=>ZD (f k))) (hw:∀ k,k<n→-9223372036854775808≤(f k).i∧(f k).i≤9223372036854775807)  :
  CallsR prog 3 #[.slice la n lc] w (fun v w'=>v=.bool true∧Sep w' ([Lx W W.heap.size]++R)):=by
 have hS:Sep w [Lx W W.heap.size,Ch.many R]:=Sep.tail_many (xs:=[_]) hS0;clear hS0
 obtain ⟨bl,ol,hl⟩:=rb.at
 have hn9:=rb.lt;unfold maxLen at hn9
 refine AL func3 rfl (N:=109) ntmps3 (by show 1≤109;decide) [(0,.slice la n lc)] rfl fun _ h1=>sqr fun _ hK3=>mv h1 rfl fun _ h4=>wpList_nil<|hK3 _ _<|sqr fun _ hK6=>cl h4 rfl (cF func7) (VB hS) fun _ v1 w2 r1 h2=>?_
 obtain ⟨kk_x7,tax8,tcx9,mv_x10,mx_x11,fx_x12,vx_x13,rfl,s1⟩:=r1
 refine mv h2 rfl fun _ h3=>h3.sn [3,2,0] rfl fun h5=>hK6 _ _<|sq fun _ hK1=>sqr fun _ hK2=>mv h5 rfl fun _ h6=>bv h6 (z:=.bool false) rfl (OX _ υ23 _ _ _) fun _ h7=>h7.sn [16,3,2,0] rfl fun h8=>hK2 _ _<|wcF h8 rfl rfl<|h8.sk [3,2,0] rfl fun h9=>?_
 refine wp_skip<|hK1 _ _<|sqr fun _ hK4=>so (wn rfl) fun _ hK5=>Do h9 rfl rfl rfl (E:=9) (xs:=[(0,.const (σ [])),(1,.const (σ [])),(2,.const (σ [])),(3,.const (σ []))]) rfl (vs:=[(0,σ []),(1,σ []),(2,σ []),(3,σ [])]) rfl (z:=[σ [],σ [],σ [],σ []]) (fun _=>κ) s1 fun _ g1 w3 h10 s2 _ _=>hK5 _ _ ?_
 refine mv h10 rfl fun _ h11=>h11.sn [4,3,2,0] rfl fun h12=>hK4 _ _<|sq fun _ hK7=>sqr fun _ hK8=>mv h12 rfl fun _ h13=>wpList_nil<|hK8 _ _<|wp_block ?_
 refine Io (fun (k:Nat) (V:VolC) (ta2:Ω) (tc2:Nat) a' w'=>Kn 109 [(5,ν (k:Int)),(4,.slice (some ⟨g1,0,none⟩) 4 4),(3,π vx_x13),(2,.bool false),(0,.slice la n lc)] a'∧Sep w' [Ab g1 9 ((wtL V.T).flatMap slE),Ab vx_x13 34 [π kk_x7.tg,π mx_x11,π fx_x12],Ab fx_x12 83 [π kk_x7.tg,π mx_x11],Ab mx_x11 103 [π kk_x7.tg],txP kk_x7 ta2 tc2 V.M [],Lx W W.heap.size,Ch.many R]∧(k≤25)) (fun (k:Nat) (V:VolC) (ta2:Ω) (tc2:Nat)=>25-k) 0 (Aae mv_x10) tax8 tcx9 ⟨h13.subs rfl,(show Sep _ [Ab g1 9 ((wtL (Aae mv_x10).T).flatMap slE),Ab vx_x13 34 [π kk_x7.tg,π mx_x11,π fx_x12],Ab fx_x12 83 [π kk_x7.tg,π mx_x11],Ab mx_x11 103 [π kk_x7.tg],txP kk_x7 tax8 tcx9 ((Aae mv_x10).M) [],Lx W W.heap.size,Ch.many R] from s2),Nat.zero_le _⟩ ?_
 rintro k1 V55 ta256 tc257 a1 w4 ⟨h14,s3,hk53⟩ K1 hK9
 refine sq fun _ hK10=>sqr fun _ hK11=>mvs 2 h14 rfl fun _ h15=>sv1 h15 rfl (Ve h15 rfl rfl υ22) fun _ h16=>bv h16 (z:=.bool (decide ((k1:Int)<(n:Int)))) rfl (cLt _ _ _ _ rfl) fun _ h17=>mv h17 rfl fun _ h18=>sg h18 (wT h18 rfl rfl rfl) rfl rfl rfl (fun hC1=>AF h18 rfl rfl _) fun _ h19=>sg h19 (wT h19 rfl rfl rfl) rfl rfl rfl (fun hC2=>BN h19 rfl (opg rfl hC2) rfl (cLt _ _ _ _ rfl) _) fun _ h20=>sv1 h20 rfl (EY h20 rfl (E:=(decide ((k1:Int)<(n:Int)))) (F:=(decide ((k1:Int)<25))) rfl rfl rfl (fun e=>if_pos (by rw [e];try rfl))) fun _ h21=>h21.sn [25,5,4,3,2,0] rfl fun h22=>hK11 _ _ ?_
 rcases bC ((decide ((k1:Int)<(n:Int)))&&(decide ((k1:Int)<25))) with hc1 | hc1
 ·skip
  have hp1:((k1:Int)<(n:Int))∧((k1:Int)<25):=(And.intro (dT (LV hc1).1) (dT (LV hc1).2))
  refine wcT h22 rfl hc1<|h22.sk [5,4,3,2,0] rfl fun h23=>wp_skip<|hK10 _ _<|sq fun _ hK12=>wp_block ?_
  refine sqr fun _ hK13=>mvs 2 h23 rfl fun _ h24=>sv1 h24 rfl (Ci h24 rfl rfl rfl (fun w=>ixO υ22 κ (sz:=5) (hl ω).1 (j:=k1) rfl ω rfl w)) fun _ h25=>sw1 h25 rfl (rld h25 rfl rfl (ldX (sz:=5) (n:=n) (f:=(fun k=>ZD (f k))) υ27 rfl κ (fun _=>rfl) (hl ω).2 (Nat.le_refl _) (s3.get 5 rfl:Below _ _ _∧_) (j:=k1) ω rfl)) fun _ h26=>?_
  have hw92:=hw k1 ω
  refine cl h26 rfl (cF func8) (Ad5 (r:=(f k1)) s3) fun _ v2 w5 r2 h27=>?_
  obtain ⟨d_x93,rfl,s4,hd98⟩:=r2
  refine so (wn rfl) fun _ hK14=>AV h27 rfl rfl rfl rfl (z:=[ν 0,ν 0,.bool false,ν 0,σ []]) (fun _=>rfl) s4 fun _ g2 w6 h28 s5 _ _=>hK14 _ _ ?_
  refine stA h28 s5 0 rfl rfl rfl κ rfl rfl rfl rfl fun _ w7 h29 s6 _=>h29.sn [6,5,4,3,2,0] rfl fun h30=>hK13 _ _<|sq fun _ hK15=>?_
  have s7:=s6.drew
  refine wp_region_held_drew (S:=fun w'=>Sep w' [Ab g2 27 [ν ((f k1).c),ν ((f k1).i),.bool ((f k1).t),ν ((f k1).o),σ d_x93],Ab g1 9 ((wtL V55.T).flatMap slE),Ab vx_x13 34 [π kk_x7.tg,π mx_x11,π fx_x12],Ab fx_x12 83 [π kk_x7.tg,π mx_x11],Ab mx_x11 103 [π kk_x7.tg],Lx W W.heap.size,Ch.many R]) κ (s7.pk [0,1,2,3,4,6,7] rfl) (fun hq1=>?_)
  refine tv1 hq1 h30 0 rfl rfl (fun w1 _=>(AF h30 rfl rfl) w1) fun _ h31=>?_
  refine tv1 hq1 h31 1 rfl rfl (fun w1 _=>(Na h31 rfl rfl) w1) fun _ h32=>?_
  refine tv1 hq1 h32 2 rfl rfl (fun w1 _=>(rfa h32 rfl rfl (fQ 2)) w1) fun _ h33=>?_
  refine tv1 hq1 h33 3 rfl rfl (fun w1 hSw=>(rld h33 rfl rfl (ldB υ32 rfl (hSw.get 2 rfl:Blk _ _ _ _) rfl))) fun _ h34=>?_
  refine tv1 hq1 h34 4 rfl rfl (fun w1 hSw=>(rld h34 rfl rfl (ldA υ27 rfl (n:=5) κ (hSw.get 0 rfl:Blk _ _ _ _) rfl rfl))) fun _ h35=>?_
  rcases bC (decide ((f k1).i-2<0)) with hc2 | hc2
  ·skip
   have hp2:(f k1).i-2<0:=(dT hc2)
   refine to_ 5 rfl (wn rfl) κ fun _ hK16=>BI h35 rfl rfl rfl (xs:=[.tmp 36,.tmp 37,.const (ν 0)]) rfl (cF func9) rfl (vs:=[π fx_x12,.agg #[ν ((f k1).c),ν ((f k1).i),.bool ((f k1).t),ν ((f k1).o),σ d_x93],ν 0]) rfl (args:=#[π fx_x12,.agg #[ν ((f k1).c),ν ((f k1).i),.bool ((f k1).t),ν ((f k1).o),σ d_x93],ν 0]) rfl (NW V55 (s7.pk [3,4,5,0,1,2,6,7] rfl) ω ω) fun _ v3 w8 r3 h36=>?_
   obtain ⟨e_x132,rfl,s8,he137⟩:=r3
   refine hK16 _ _ (s8.pk [3,4,5,0,1,6,7] rfl) fun hq2=>?_
   refine tv1 hq2 h36 6 rfl rfl (fun w1 _=>(Be h36 rfl rfl) w1) fun _ h37=>?_
   refine h37.sk [7,6,5,4,3,2,0] rfl fun h38=>?_
   refine wpAnyH_done κ ?_ _
   refine hK15 _ _ ?_
   refine sq fun _ hK17=>?_
   have hsz144:(wtL V55.T).length=4:=rfl
   refine wp_region_lit<|fav h38 rfl (fQ 1) fun _ h39=>ldv h39 s8 3 υ3 rfl rfl rfl rfl fun _ h40=>?_
   rcases bC (decide ((f k1).i≥-9223372036854775806)) with hc3 | hc3
   ·skip
    have hp3:(f k1).i≥-9223372036854775806:=(dT hc3)
    refine bv h40 (z:=ν ((f k1).i-2)) rfl (Vz _ _ _ ω ω ω) fun _ h41=>mv h41 rfl fun _ h42=>h42.sn [8,7,6,5,4,3,2,0] rfl fun h43=>hK17 _ _<|sq fun _ hK18=>sqr fun _ hK19=>mv h43 rfl fun _ h44=>bv h44 (z:=.bool true) rfl (cLt _ _ _ _ (decide_eq_true ω)) fun _ h45=>mv h45 rfl fun _ h46=>su h46 (wF h46 (E:=true) rfl rfl rfl) rfl rfl rfl fun _ h47=>su h47 (wF h47 (E:=true) rfl rfl rfl) rfl rfl rfl fun _ h48=>?_
    refine sv1 h48 rfl (Dq h48 rfl rfl rfl) fun _ h49=>h49.sn [47,8,7,6,5,4,3,2,0] rfl fun h50=>hK19 _ _<|wcT h50 rfl rfl<|h50.sk [8,7,6,5,4,3,2,0] rfl fun h51=>sq fun _ hK20=>sqr fun _ hK21=>mv h51 rfl fun _ h52=>bv h52 (z:=.bool false) rfl (cEq _ _ _ _ (decide_eq_false ω)) fun _ h53=>h53.sn [49,8,7,6,5,4,3,2,0] rfl fun h54=>hK21 _ _ ?_
    refine wcF h54 rfl rfl<|h54.sk [8,7,6,5,4,3,2,0] rfl fun h55=>wp_skip<|hK20 _ _<|sqr fun _ hK22=>mvs 2 h55 rfl fun _ h56=>fav h56 rfl (fQ 0) fun _ h57=>ldv h57 s8 5 υ30 rfl rfl rfl rfl fun _ h58=>cl h58 rfl (cF func10) (Pf (s8.pk [2,0,1,3,4,5,6,7] rfl)) fun _ v4 w9 r4 h59=>?_
    obtain ⟨y_x189,rfl,s9⟩:=r4
    refine h59.sn [8,7,6,5,4,3,2,0] rfl fun h60=>hK22 _ _<|wp_exit ?_
    refine hK12 _ _ ?_
    refine wp_region_lit<|mv h60 rfl fun _ h61=>bv h61 (z:=ν ((k1+1:Nat):Int)) rfl (CP _ _ _ ω ω ω) fun _ h62=>h62.sk [27,26,8,7,6,4,3,2,0] rfl fun h63=>mv h63 rfl fun _ h64=>h64.sk [5,8,7,6,4,3,2,0] rfl fun h65=>wpList_nil ?_
    exact hK9 (k1+1) V55 none 0 _ _ ⟨h65.subs rfl,(s9.pk [4,5,1,2,0,6,7] rfl),ω⟩ ω
   ·skip
    have hp4:¬ ((f k1).i≥-9223372036854775806):=(dF hc3)
    refine bv h40 (z:=ν ((f k1).i+18446744073709551614)) rfl (Af4 _ _ _ ω ω ω) fun _ h66=>mv h66 rfl fun _ h67=>h67.sn [8,7,6,5,4,3,2,0] rfl fun h68=>hK17 _ _<|sq fun _ hK23=>sqr fun _ hK24=>mv h68 rfl fun _ h69=>bv h69 (z:=.bool false) rfl (cLt _ _ _ _ (decide_eq_false ω)) fun _ h70=>mv h70 rfl fun _ h71=>sv h71 (wF h71 (E:=false) rfl rfl rfl) rfl rfl rfl (AF h71 rfl rfl) fun _ h72=>sv h72 (wF h72 (E:=false) rfl rfl rfl) rfl rfl rfl (BN h72 rfl rfl rfl (cGt _ _ _ _ (decide_eq_true ω))) fun _ h73=>?_
    refine sv1 h73 rfl (Dq h73 rfl rfl rfl) fun _ h74=>h74.sn [47,8,7,6,5,4,3,2,0] rfl fun h75=>hK24 _ _<|wcT h75 rfl rfl<|h75.sk [8,7,6,5,4,3,2,0] rfl fun h76=>sq fun _ hK25=>sqr fun _ hK26=>mv h76 rfl fun _ h77=>bv h77 (z:=.bool false) rfl (cEq _ _ _ _ (decide_eq_false ω)) fun _ h78=>h78.sn [49,8,7,6,5,4,3,2,0] rfl fun h79=>hK26 _ _ ?_
    refine wcF h79 rfl rfl<|h79.sk [8,7,6,5,4,3,2,0] rfl fun h80=>wp_skip<|hK25 _ _<|sqr fun _ hK27=>mvs 2 h80 rfl fun _ h81=>fav h81 rfl (fQ 0) fun _ h82=>ldv h82 s8 5 υ30 rfl rfl rfl rfl fun _ h83=>cl h83 rfl (cF func10) (Pf (s8.pk [2,0,1,3,4,5,6,7] rfl)) fun _ v5 w10 r5 h84=>?_
    obtain ⟨y_x245,rfl,s10⟩:=r5
    refine h84.sn [8,7,6,5,4,3,2,0] rfl fun h85=>hK27 _ _<|wp_exit ?_
    refine hK12 _ _ ?_
    refine wp_region_lit<|mv h85 rfl fun _ h86=>bv h86 (z:=ν ((k1+1:Nat):Int)) rfl (CP _ _ _ ω ω ω) fun _ h87=>h87.sk [27,26,8,7,6,4,3,2,0] rfl fun h88=>mv h88 rfl fun _ h89=>h89.sk [5,8,7,6,4,3,2,0] rfl fun h90=>wpList_nil ?_
    exact hK9 (k1+1) V55 none 0 _ _ ⟨h90.subs rfl,(s10.pk [4,5,1,2,0,6,7] rfl),ω⟩ ω
  ·skip
   have hp5:¬ ((f k1).i-2<0):=(dF hc2)
   rcases bC (decide ((f k1).i-2>3)) with hc4 | hc4
   ·skip
    have hp6:(f k1).i-2>3:=(dT hc4)
    refine to_ 5 rfl (wn rfl) κ fun _ hK28=>BI h35 rfl rfl rfl (xs:=[.tmp 36,.tmp 37,.const (ν 0)]) rfl (cF func9) rfl (vs:=[π fx_x12,.agg #[ν ((f k1).c),ν ((f k1).i),.bool ((f k1).t),ν ((f k1).o),σ d_x93],ν 0]) rfl (args:=#[π fx_x12,.agg #[ν ((f k1).c),ν ((f k1).i),.bool ((f k1).t),ν ((f k1).o),σ d_x93],ν 0]) rfl (NW V55 (s7.pk [3,4,5,0,1,2,6,7] rfl) ω ω) fun _ v6 w11 r6 h91=>?_
    obtain ⟨e_x265,rfl,s11,he270⟩:=r6
    refine hK28 _ _ (s11.pk [3,4,5,0,1,6,7] rfl) fun hq2=>?_
    refine tv1 hq2 h91 6 rfl rfl (fun w1 _=>(Be h91 rfl rfl) w1) fun _ h92=>?_
    refine h92.sk [7,6,5,4,3,2,0] rfl fun h93=>?_
    refine wpAnyH_done κ ?_ _
    refine hK15 _ _ ?_
    refine sq fun _ hK29=>?_
    have hsz277:(wtL V55.T).length=4:=rfl
    refine wp_region_lit<|fav h93 rfl (fQ 1) fun _ h94=>ldv h94 s11 3 υ3 rfl rfl rfl rfl fun _ h95=>bv h95 (z:=ν ((f k1).i-2)) rfl (Vz _ _ _ ω ω ω) fun _ h96=>mv h96 rfl fun _ h97=>h97.sn [8,7,6,5,4,3,2,0] rfl fun h98=>hK29 _ _<|sq fun _ hK30=>sqr fun _ hK31=>mv h98 rfl fun _ h99=>bv h99 (z:=.bool false) rfl (cLt _ _ _ _ (decide_eq_false ω)) fun _ h100=>?_
    refine mv h100 rfl fun _ h101=>sv h101 (wF h101 (E:=false) rfl rfl rfl) rfl rfl rfl (AF h101 rfl rfl) fun _ h102=>sv h102 (wF h102 (E:=false) rfl rfl rfl) rfl rfl rfl (BN h102 rfl rfl rfl (cGt _ _ _ _ (decide_eq_true ω))) fun _ h103=>sv1 h103 rfl (Dq h103 rfl rfl rfl) fun _ h104=>h104.sn [47,8,7,6,5,4,3,2,0] rfl fun h105=>hK31 _ _<|wcT h105 rfl rfl<|h105.sk [8,7,6,5,4,3,2,0] rfl fun h106=>sq fun _ hK32=>sqr fun _ hK33=>mv h106 rfl fun _ h107=>?_
    refine bv h107 (z:=.bool false) rfl (cEq _ _ _ _ (decide_eq_false ω)) fun _ h108=>h108.sn [49,8,7,6,5,4,3,2,0] rfl fun h109=>hK33 _ _<|wcF h109 rfl rfl<|h109.sk [8,7,6,5,4,3,2,0] rfl fun h110=>wp_skip<|hK32 _ _<|sqr fun _ hK34=>mvs 2 h110 rfl fun _ h111=>fav h111 rfl (fQ 0) fun _ h112=>ldv h112 s11 5 υ30 rfl rfl rfl rfl fun _ h113=>?_
    refine cl h113 rfl (cF func10) (Pf (s11.pk [2,0,1,3,4,5,6,7] rfl)) fun _ v7 w12 r7 h114=>?_
    obtain ⟨y_x320,rfl,s12⟩:=r7
    refine h114.sn [8,7,6,5,4,3,2,0] rfl fun h115=>hK34 _ _<|wp_exit ?_
    refine hK12 _ _ ?_
    refine wp_region_lit<|mv h115 rfl fun _ h116=>bv h116 (z:=ν ((k1+1:Nat):Int)) rfl (CP _ _ _ ω ω ω) fun _ h117=>h117.sk [27,26,8,7,6,4,3,2,0] rfl fun h118=>mv h118 rfl fun _ h119=>h119.sk [5,8,7,6,4,3,2,0] rfl fun h120=>wpList_nil ?_
    exact hK9 (k1+1) V55 none 0 _ _ ⟨h120.subs rfl,(s12.pk [4,5,1,2,0,6,7] rfl),ω⟩ ω
   ·skip
    have hp7:¬ ((f k1).i-2>3):=(dF hc4)
    have hE338:=Rr ((wtL V55.T).getD (((f k1).i-2).toNat) []) ⟨(f k1).c,(f k1).i,(f k1).t,(f k1).o,d_x93⟩
    refine to_ 5 rfl (wn rfl) κ fun _ hK35=>BI h35 rfl rfl rfl (xs:=[.tmp 36,.tmp 37,.const (ν 0)]) rfl (cF func9) rfl (vs:=[π fx_x12,.agg #[ν ((f k1).c),ν ((f k1).i),.bool ((f k1).t),ν ((f k1).o),σ d_x93],ν 0]) rfl (args:=#[π fx_x12,.agg #[ν ((f k1).c),ν ((f k1).i),.bool ((f k1).t),ν ((f k1).o),σ d_x93],ν 0]) rfl (XD (k:=((f k1).i-2).toNat) V55 (s7.pk [3,4,5,0,1,2,6,7] rfl) ω ω (Un V55.T ω) ω) fun _ v8 w13 r8 h121=>?_
    obtain ⟨tax339,tcx340,vf_x341,rfl,s13,hT346,hM346⟩:=r8
    refine hK35 _ _ (s13.pk [3,4,5,0,1,6,7] rfl) fun hq2=>?_
    refine tv1 hq2 h121 6 rfl rfl (fun w1 _=>(Be h121 rfl rfl) w1) fun _ h122=>?_
    refine h122.sk [7,6,5,4,3,2,0] rfl fun h123=>?_
    refine wpAnyH_done κ ?_ _
    refine hK15 _ _ ?_
    refine sq fun _ hK36=>?_
    have hsz353:(wtL V55.T).length=4:=rfl
    refine wp_region_lit<|fav h123 rfl (fQ 1) fun _ h124=>ldv h124 s13 3 υ3 rfl rfl rfl rfl fun _ h125=>bv h125 (z:=ν ((f k1).i-2)) rfl (Vz _ _ _ ω ω ω) fun _ h126=>mv h126 rfl fun _ h127=>h127.sn [8,7,6,5,4,3,2,0] rfl fun h128=>hK36 _ _<|sq fun _ hK37=>sqr fun _ hK38=>mv h128 rfl fun _ h129=>bv h129 (z:=.bool false) rfl (cLt _ _ _ _ (decide_eq_false ω)) fun _ h130=>?_
    refine mv h130 rfl fun _ h131=>sv h131 (wF h131 (E:=false) rfl rfl rfl) rfl rfl rfl (AF h131 rfl rfl) fun _ h132=>sv h132 (wF h132 (E:=false) rfl rfl rfl) rfl rfl rfl (BN h132 rfl rfl rfl (cGt _ _ _ _ (decide_eq_false ω))) fun _ h133=>sv1 h133 rfl (Dq h133 rfl rfl rfl) fun _ h134=>h134.sn [47,8,7,6,5,4,3,2,0] rfl fun h135=>hK38 _ _<|wcF h135 rfl rfl<|h135.sk [8,7,6,5,4,3,2,0] rfl fun h136=>wp_skip<|hK37 _ _<|sq fun _ hK39=>?_
    have s14:=s13.drew
    refine wp_region_held_drew (S:=fun w'=>Sep w' [Ab fx_x12 83 [π kk_x7.tg,π mx_x11],Ab mx_x11 103 [π kk_x7.tg],txP kk_x7 tax339 tcx340 vf_x341.M vf_x341.P,Ab g2 27 [ν ((f k1).c),ν ((f k1).i),.bool ((f k1).t),ν ((f k1).o),σ d_x93],Ab g1 9 ((wtL V55.T).flatMap slE),Ab vx_x13 34 [π kk_x7.tg,π mx_x11,π fx_x12],Lx W W.heap.size,Ch.many R]) κ s14 (fun hq3=>?_)
    refine tv1 hq3 h136 0 rfl rfl (fun w1 _=>(AF h136 rfl rfl) w1) fun _ h137=>?_
    refine tv1 hq3 h137 1 rfl rfl (fun w1 _=>(AF h137 rfl rfl) w1) fun _ h138=>?_
    refine tv1 hq3 h138 2 rfl rfl (fun w1 _=>(Ci h138 rfl rfl rfl (fun w=>ixS υ25 κ (sz:=1) (j:=((f k1).i-2).toNat) ω ω (Nat.mul_one _) w)) w1) fun _ h139=>?_
    refine tv1 hq3 h139 3 rfl rfl (fun w1 hSw=>(rld h139 rfl rfl (ldB υ9 rfl (hSw.get 4 rfl:Blk _ _ _ _) ((Tj LP (j:=((f k1).i-2).toNat) (k:=0) [] ω (by decide) ω).trans rfl)))) fun _ h140=>?_
    refine tv1 hq3 h140 4 rfl rfl (fun w1 hSw=>(rld h140 rfl rfl (ldA υ27 rfl (n:=5) κ (hSw.get 3 rfl:Blk _ _ _ _) rfl rfl))) fun _ h141=>?_
    have hln393:((wtL V55.T).getD (((f k1).i-2).toNat) []).length≤256:=by rw [← Un _ (ω:((f k1).i-2).toNat<4)];exact (V55.h.s _ ω).2
    refine to_ 5 rfl (wn rfl) κ fun _ hK40=>BI h141 rfl rfl rfl (xs:=[.tmp 59,.tmp 60]) rfl (cF func11) rfl (vs:=[σ ((wtL V55.T).getD (((f k1).i-2).toNat) []),.agg #[ν ((f k1).c),ν ((f k1).i),.bool ((f k1).t),ν ((f k1).o),σ d_x93]]) rfl (args:=#[σ ((wtL V55.T).getD (((f k1).i-2).toNat) []),.agg #[ν ((f k1).c),ν ((f k1).i),.bool ((f k1).t),ν ((f k1).o),σ d_x93]]) rfl (WR (L:=((wtL V55.T).getD (((f k1).i-2).toNat) [])) (r:=⟨(f k1).c,(f k1).i,(f k1).t,(f k1).o,d_x93⟩) s14 ω (by show d_x93.length≤_;omega)) fun _ v9 w14 r9 h142=>?_
    obtain ⟨rfl,s15⟩:=r9
    refine hK40 _ _ s15 fun hq4=>?_
    refine tv1 hq4 h142 6 rfl rfl (fun w1 _=>(AF h142 rfl rfl) w1) fun _ h143=>?_
    refine tv1 hq4 h143 7 rfl rfl (fun w1 _=>(TK h143 rfl rfl rfl) w1) fun _ h144=>?_
    refine tv1 hq4 h144 8 rfl rfl (fun w1 _=>(TK h144 rfl rfl rfl) w1) fun _ h145=>?_
    refine tv1 hq4 h145 9 rfl rfl (fun w1 _=>(Be h145 rfl rfl) w1) fun _ h146=>?_
    refine tv1 hq4 h146 10 rfl rfl (fun w1 _=>(Be h146 rfl rfl) w1) fun _ h147=>?_
    refine h147.sk [10,9,8,7,6,5,4,3,2,0] rfl fun h148=>?_
    refine wpAnyH_done κ ?_ _
    refine hK39 _ _ ?_
    refine sq fun _ hK41=>sqr fun _ hK42=>mvs 2 h148 rfl fun _ h149=>bv h149 (z:=.bool false) rfl (cNe _ _ _ _ (decide_eq_false (fun h=>h rfl))) fun _ h150=>h150.sn [66,10,9,8,7,6,5,4,3,2,0] rfl fun h151=>hK42 _ _<|wcF h151 rfl rfl<|h151.sk [10,9,8,7,6,5,4,3,2,0] rfl fun h152=>wp_skip<|hK41 _ _<|sq fun _ hK43=>sqr fun _ hK44=>mv h152 rfl fun _ h153=>?_
    refine bv h153 (z:=.bool (decide (GF ((wtL V55.T).getD (((f k1).i-2).toNat) []) ⟨(f k1).c,(f k1).i,(f k1).t,(f k1).o,d_x93⟩≠0))) rfl (cNe _ _ _ _ rfl) fun _ h154=>h154.sn [68,10,9,8,7,6,5,4,3,2,0] rfl fun h155=>hK44 _ _ ?_
    rcases bC (decide (GF ((wtL V55.T).getD (((f k1).i-2).toNat) []) ⟨(f k1).c,(f k1).i,(f k1).t,(f k1).o,d_x93⟩≠0)) with hc5 | hc5
    ·skip
     have hp8:GF ((wtL V55.T).getD (((f k1).i-2).toNat) []) ⟨(f k1).c,(f k1).i,(f k1).t,(f k1).o,d_x93⟩≠0:=(dT hc5)
     refine wcT h155 rfl hc5<|h155.sk [10,9,8,7,6,5,4,3,2,0] rfl fun h156=>sqr fun _ hK45=>mvs 2 h156 rfl fun _ h157=>fav h157 rfl (fQ 0) fun _ h158=>ldv h158 s15 5 υ30 rfl rfl rfl rfl fun _ h159=>cl h159 rfl (cF func10) (Ad6 (s15.pk [2,0,1,3,4,5,6,7] rfl) (hM346 ω)) fun _ v10 w15 r10 h160=>?_
     obtain ⟨y_x441,rfl,s16⟩:=r10
     refine h160.sn [10,9,8,7,6,5,4,3,2,0] rfl fun h161=>hK45 _ _<|wp_exit ?_
     refine hK12 _ _ ?_
     refine wp_region_lit<|mv h161 rfl fun _ h162=>bv h162 (z:=ν ((k1+1:Nat):Int)) rfl (CP _ _ _ ω ω ω) fun _ h163=>h163.sk [27,26,10,9,8,7,6,4,3,2,0] rfl fun h164=>mv h164 rfl fun _ h165=>h165.sk [5,10,9,8,7,6,4,3,2,0] rfl fun h166=>wpList_nil ?_
     exact hK9 (k1+1) V55 none 0 _ _ ⟨h166.subs rfl,(s16.pk [4,5,1,2,0,6,7] rfl),ω⟩ ω
    ·skip
     have hp9:¬ (GF ((wtL V55.T).getD (((f k1).i-2).toNat) []) ⟨(f k1).c,(f k1).i,(f k1).t,(f k1).o,d_x93⟩≠0):=(dF hc5)
     refine wcF h155 rfl hc5<|h155.sk [10,9,8,7,6,5,4,3,2,0] rfl fun h167=>wp_skip<|hK43 _ _<|sqr fun _ hK46=>mvs 3 h167 rfl fun _ h168=>sv1 h168 rfl (Ci h168 rfl rfl rfl (fun w=>ixS υ25 κ (sz:=1) (j:=((f k1).i-2).toNat) ω ω (Nat.mul_one _) w)) fun _ h169=>so (wn rfl) fun _ hK47=>FI h169 rfl rfl s15 4 rfl rfl rfl (slE (Lz ((wtL V55.T).getD (((f k1).i-2).toNat) []) ⟨(f k1).c,(f k1).i,(f k1).t,(f k1).o,d_x93⟩)) rfl κ rfl (by rw [YX LP];show ((f k1).i-2).toNat+1≤_;omega) (L':=((wtL V55.T).set (((f k1).i-2).toNat) (Lz ((wtL V55.T).getD (((f k1).i-2).toNat) []) ⟨(f k1).c,(f k1).i,(f k1).t,(f k1).o,d_x93⟩)).flatMap slE) (Aeo LP ω ω) (cs':=[Ab fx_x12 83 [π kk_x7.tg,π mx_x11],Ab mx_x11 103 [π kk_x7.tg],txP kk_x7 tax339 tcx340 vf_x341.M vf_x341.P,Ab g2 27 [ν ((f k1).c),ν ((f k1).i),.bool ((f k1).t),ν ((f k1).o),σ d_x93],Ab g1 9 (((wtL V55.T).set (((f k1).i-2).toNat) (Lz ((wtL V55.T).getD (((f k1).i-2).toNat) []) ⟨(f k1).c,(f k1).i,(f k1).t,(f k1).o,d_x93⟩)).flatMap slE),Ab vx_x13 34 [π kk_x7.tg,π mx_x11,π fx_x12],Lx W W.heap.size,Ch.many R]) rfl fun _ w16 h170 s17 _=>hK47 _ _ ?_
     refine h170.sn [10,9,8,7,6,5,4,3,2,0] rfl fun h171=>hK46 _ _<|sq fun _ hK48=>sqr fun _ hK49=>mvs 2 h171 rfl fun _ h172=>fav h172 rfl (fQ 0) fun _ h173=>ldv h173 s17 5 υ30 rfl rfl rfl rfl fun _ h174=>cl h174 rfl (cF func12) (XW vf_x341 (s17.pk [2,0,1,3,4,5,6,7] rfl)) fun _ v11 w17 r11 h175=>?_
     obtain ⟨tax486,tcx487,vc_x488,rfl,s18,hU493⟩:=r11
     refine bv h175 (z:=.bool false) rfl (cNe _ _ _ _ rfl) fun _ h176=>h176.sn [83,10,9,8,7,6,5,4,3,2,0] rfl fun h177=>hK49 _ _<|wcF h177 rfl rfl<|h177.sk [10,9,8,7,6,5,4,3,2,0] rfl fun h178=>wp_skip<|hK48 _ _<|sq fun _ hK50=>?_
     have hT501:=hU493.trans (hT346 ω)
     have s19:Sep w17 [txP kk_x7 tax486 tcx487 vc_x488.M [],Ab fx_x12 83 [π kk_x7.tg,π mx_x11],Ab mx_x11 103 [π kk_x7.tg],Ab g2 27 [ν ((f k1).c),ν ((f k1).i),.bool ((f k1).t),ν ((f k1).o),σ d_x93],Ab g1 9 ((wtL vc_x488.T).flatMap slE),Ab vx_x13 34 [π kk_x7.tg,π mx_x11,π fx_x12],Lx W W.heap.size,Ch.many R]:=by have z:=s18;rw [Ac7 _ ω,← hT501] at z;exact z
     have hsz503:(wtL vc_x488.T).length=4:=rfl
     refine wp_region_lit<|mv h178 rfl fun _ h179=>wpList_nil<|hK50 _ _<|wp_block ?_
     refine FE (fun (j:Nat) a' w'=>Kn 109 [(11,ν (j:Int)),(10,ν (GF ((wtL V55.T).getD (((f k1).i-2).toNat) []) ⟨(f k1).c,(f k1).i,(f k1).t,(f k1).o,d_x93⟩)),(9,σ (Lz ((wtL V55.T).getD (((f k1).i-2).toNat) []) ⟨(f k1).c,(f k1).i,(f k1).t,(f k1).o,d_x93⟩)),(8,ν ((f k1).i-2)),(7,ν (GF ((wtL V55.T).getD (((f k1).i-2).toNat) []) ⟨(f k1).c,(f k1).i,(f k1).t,(f k1).o,d_x93⟩)),(6,π g2),(5,ν (k1:Int)),(4,.slice (some ⟨g1,0,none⟩) 4 4),(3,π vx_x13),(2,.bool false),(0,.slice la n lc)] a'∧Sep w' [txP kk_x7 tax486 tcx487 vc_x488.M [],Ab fx_x12 83 [π kk_x7.tg,π mx_x11],Ab mx_x11 103 [π kk_x7.tg],Ab g2 27 [ν ((f k1).c),ν ((f k1).i),.bool ((f k1).t),ν ((f k1).o),σ d_x93],Ab g1 9 ((wtL vc_x488.T).flatMap slE),Ab vx_x13 34 [π kk_x7.tg,π mx_x11,π fx_x12],Lx W W.heap.size,Ch.many R]∧(j≤4)) (fun (j:Nat)=>4-j) 0 ⟨h179.subs rfl,s19,Nat.zero_le _⟩ ?_
     rintro j512 a2 w18 ⟨h180,s20,hj511⟩ K2 hK51
     refine sq fun _ hK52=>sqr fun _ hK53=>mv h180 rfl fun _ h181=>bv h181 (z:=.bool (decide ((j512:Int)<4))) rfl (cLt _ _ _ _ rfl) fun _ h182=>h182.sn [85,11,10,9,8,7,6,5,4,3,2,0] rfl fun h183=>hK53 _ _ ?_
     rcases bC (decide ((j512:Int)<4)) with hc6 | hc6
     ·skip
      have hp10:(j512:Int)<4:=(dT hc6)
      refine wcT h183 rfl hc6<|h183.sk [11,10,9,8,7,6,5,4,3,2,0] rfl fun h184=>wp_skip<|hK52 _ _<|sq fun _ hK54=>wp_block ?_
      refine sqr fun _ hK55=>mvs 2 h184 rfl fun _ h185=>fav h185 rfl (fQ 2) fun _ h186=>ldv h186 s20 5 υ32 rfl rfl rfl rfl fun _ h187=>mv h187 rfl fun _ h188=>bv h188 (z:=ν ((j512+2:Nat):Int)) rfl (CP _ _ _ ω ω ω) fun _ h189=>cl h189 rfl (cF func13) (Pc (k:=j512) (S:=((wtL vc_x488.T).getD j512 [])) vc_x488.v vc_x488.h (s20.pk [1,2,0,3,4,5,6,7] rfl) ω ω (Un vc_x488.T ω)) fun _ v12 w19 r12 h190=>?_
      obtain ⟨rfl,s21⟩:=r12
      refine mvs 5 h190 rfl fun _ h191=>h191.sn [13,12,11,10,9,8,7,6,5,4,3,2,0] rfl fun h192=>hK55 _ _<|sqr fun _ hK56=>mvs 3 h192 rfl fun _ h193=>sv1 h193 rfl (Ci h193 rfl rfl rfl (fun w=>ixS υ25 κ (sz:=1) (j:=j512) rfl ω (Nat.mul_one _) w)) fun _ h194=>sw1 h194 rfl (rld h194 rfl rfl (ldB υ9 rfl (s21.get 4 rfl:Blk _ _ _ _) ((Tj LP (j:=j512) (k:=0) [] ω (by decide) ω).trans rfl))) fun _ h195=>bv h195 (z:=.bool false) rfl (OY _ _ _ _ _ (decide_eq_false (fun q=>q rfl))) fun _ h196=>mv h196 rfl fun _ h197=>sv h197 (wF h197 (E:=false) rfl rfl rfl) rfl rfl rfl (AF h197 rfl rfl) fun _ h198=>?_
      refine sv h198 (wF h198 (E:=false) rfl rfl rfl) rfl rfl rfl (BN h198 rfl rfl rfl (cNe _ _ _ _ rfl)) fun _ h199=>sv1 h199 rfl (Dq h199 rfl rfl rfl) fun _ h200=>h200.sn [107,13,12,11,10,9,8,7,6,5,4,3,2,0] rfl fun h201=>hK56 _ _<|wcF h201 rfl rfl<|h201.sk [13,12,11,10,9,8,7,6,5,4,3,2,0] rfl fun h202=>wp_skip<|hK54 _ _<|wp_region_lit<|mv h202 rfl fun _ h203=>bv h203 (z:=ν ((j512+1:Nat):Int)) rfl (CP _ _ _ ω ω ω) fun _ h204=>?_
      refine h204.sk [87,86,13,12,10,9,8,7,6,5,4,3,2,0] rfl fun h205=>mv h205 rfl fun _ h206=>h206.sk [11,13,12,10,9,8,7,6,5,4,3,2,0] rfl fun h207=>wpList_nil ?_
      exact hK51 (j512+1) _ _ ⟨h207.subs rfl,(s21.pk [2,0,1,3,4,5,6,7] rfl),ω⟩ ω
     ·skip
      have hp11:¬ ((j512:Int)<4):=(dF hc6)
      refine wcF h183 rfl hc6<|h183.sk [11,10,9,8,7,6,5,4,3,2,0] rfl fun h208=>wp_exit ?_
      refine hK12 _ _ ?_
      refine wp_region_lit<|mv h208 rfl fun _ h209=>bv h209 (z:=ν ((k1+1:Nat):Int)) rfl (CP _ _ _ ω ω ω) fun _ h210=>h210.sk [27,26,11,10,9,8,7,6,4,3,2,0] rfl fun h211=>mv h211 rfl fun _ h212=>h212.sk [5,11,10,9,8,7,6,4,3,2,0] rfl fun h213=>wpList_nil ?_
      exact hK9 (k1+1) vc_x488 tax486 tcx487 _ _ ⟨h213.subs rfl,(s20.pk [4,5,1,2,0,6,7] rfl),ω⟩ ω
 ·skip
  have hp12:(¬ ((k1:Int)<(n:Int)))∨(¬ ((k1:Int)<25)):=((Adx hc1).imp (fun q=>(dF q)) (fun q=>(dF q)))
  refine wcF h22 rfl hc1<|h22.sk [5,4,3,2,0] rfl fun h214=>wp_exit ?_
  refine hK7 _ _ ?_
  refine sqr fun _ hK57=>cl h214 rfl (cF func14) (Abt s3) fun _ v13 w20 r13 h215=>?_
  obtain ⟨rfl,s22⟩:=r13
  refine h215.sk [108,5,4,3,0] rfl fun h216=>mv h216 rfl fun _ h217=>h217.sn [2,5,4,3,0] rfl fun h218=>hK57 _ _<|wp_ret ?_
  try simp only [Exit.then,Exit.inBlock]
  refine Bj (v:=.bool true) (CV h218 rfl rfl) h218.defs ?_
  exact ⟨rfl,Sep.tail_un (xs:=[_]) (s22.pk [5,6] rfl)⟩
end
section
open Go.RowKit Go.WideShapes Go.ChangeShapes Go.Deep
def Xz (W:World) (a:Ω) (n c:Nat) (f:Nat→RecM):Prop:=ExtA W a n c 5 (fun k=>ZD (f k))∧∀ k,k<n→(Lit.int .i64 (f k).i).wf=true
theorem QT {H:Type} {enc:TypeId×Value→H} {W:World} {base:Nat} {held:Bool} (fuel:Nat) (cs:List Value) (z:DataW H×List MemPlace) (hlen:cs.length=5)
    (ht:DataW.trod enc prog W base (fun _=>true) held fuel 27 cs=some z):∃ r:RecM,cs=ZD r∧(Lit.int .i64 r.i).wf=true:=by
  have k1:prog.cellsOf 3=1:=κ
  have k2:prog.cellsOf 4=1:=κ
  have k3:prog.cellsOf 9=1:=κ
  obtain ⟨ys,r,_,_,_,hyl,hg⟩:=DataW.trod_struct υ27 ht
  have hyl':ys.length=5:=hyl
  match cs,hlen with
  | [u0,u1,u2,u3,u4],_=>
    have g0:=hg 0 _ rfl
    have g1:=hg 1 _ rfl
    have g2:=hg 2 _ rfl
    have g3:=hg 3 _ rfl
    have g4:=hg 4 _ rfl
    simp [k1,k2,k3] at g0 g1 g2 g3 g4
    rw [List.getElem?_eq_getElem ω] at g0 g1 g2 g3 g4
    obtain ⟨t0,e0,_,w0⟩:=DataW.trod_int υ3 g0
    obtain ⟨t1,e1,_,w1⟩:=DataW.trod_int υ3 g1
    obtain ⟨t2,e2,_⟩:=DataW.trod_bool υ4 g2
    obtain ⟨t3,e3,_,w3⟩:=DataW.trod_int υ3 g3
    obtain ⟨t4,e4,_⟩:=DataW.trod_string υ9 g4
    simp only [List.cons.injEq,and_true] at e0 e1 e2 e3 e4
    subst e0 e1 e2 e3 e4
    exact ⟨⟨t0,t1,t2,t3,t4.data.toList⟩,rfl,w1⟩
theorem open_recs15 {H:Type} {enc:TypeId×Value→H} {W:World} {base:Nat} {held:Bool} {a:Ω} {n c:Nat} {d:DataW H} {p:List MemPlace}
    (h:DataW.Trod enc prog W base (fun _=>true) held 22 (.slice a n c) d p):∃ f,Xz W a n c f:=
  Zn ⟨0,0,false,0,[]⟩ ZD (fun r=>(Lit.int .i64 r.i).wf=true) υ22 κ (by decide) (fun fuel cs x hlen ht=>QT fuel cs x hlen ht) h
theorem FilesPlays_walk (w:World) (a0:Ω) (n0 c0:Nat) (f:Nat→RecM) (rb:Xz w a0 n0 c0 f):Calls prog 3 #[.slice a0 n0 c0] w fun e w'=>e=.returned (.bool true)∧Below w.heap.size w w':=by
  refine Calls.mono (FPl (W:=w) (R:=[]) (Sep.start w) rb.1 (fun k hk=>by have z:=rb.2 k hk;simp [Lit.wf] at z;exact z)) fun e w' ⟨v,e1,e2,h⟩=>⟨by rw [e1,e2],?_⟩
  have o:Below w.heap.size w w'∧_:=h.get 0 rfl
  exact o.1
end
end Go.Proofs.YtbfgjinpchbajaaGreatDoor
