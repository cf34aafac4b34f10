/- Parts of the proof. -/
import Derived.Test.YthiplgahhejmcaaGreatDoorQal
namespace Go.Proofs.YthiplgahhejmcaaGreatDoor
open Go.RowKit
open _root_.Go.Proofs.Tryz
set_option linter.unusedSimpArgs false
set_option linter.unusedVariables false
set_option linter.unusedSectionVars false
set_option maxRecDepth 100000
set_option maxHeartbeats 8000000
section
theorem Aec {A B:Prop} [Decidable A] [Decidable B] (h:(decide A == decide B)=true):A↔B:=by
 rw [beq_iff_eq] at h;exact decide_eq_decide.1 h
theorem Aeb {A B:Prop} [Decidable A] [Decidable B] (h:(decide A == decide B)=false) (e:A↔B):False:=by
 rw [decide_eq_decide.2 e,beq_self_eq_true] at h;cases h
def noD (x:InoT) (k:Nat):Prop:=∀ a b,a<b→b<k→¬ (x.blk a≠0∧x.blk a=x.blk b)
theorem Ad4 {x:InoT} {k j:Nat} (h:noD x k) (hi:∀ q,q<j→¬ (x.blk q≠0∧x.blk q=x.blk k)) (hj:k≤j):noD x (k+1):=fun a b h1 h2=>by
 rcases Nat.lt_succ_iff_lt_or_eq.1 h2 with q | q
 ·exact h a b h1 q
 ·rw [q];exact hi a ω
theorem RF {x:InoT}:EO x↔∀ q,q<4→0≤x.blk q∧x.blk q≤128:=by
 constructor
 ·intro h q hq
  unfold EO at h
  rcases (ω:q=0∨q=1∨q=2∨q=3) with rfl | rfl | rfl | rfl
  ·exact h.1
  ·exact h.2.1
  ·exact h.2.2.1
  ·exact h.2.2.2
 ·intro h
  exact ⟨h 0 ω,h 1 ω,h 2 ω,h 3 ω⟩
theorem RG {x:InoT}:KF x↔noD x 4:=by
 constructor
 ·intro h a b h1 h2
  unfold KF at h
  obtain ⟨h3,h4,h5,h6,h7,h8⟩:=h
  rcases (ω:(a=0∧b=1)∨(a=0∧b=2)∨(a=1∧b=2)∨(a=0∧b=3)∨(a=1∧b=3)∨(a=2∧b=3)) with ⟨rfl,rfl⟩ | ⟨rfl,rfl⟩ | ⟨rfl,rfl⟩ | ⟨rfl,rfl⟩ | ⟨rfl,rfl⟩ | ⟨rfl,rfl⟩
  ·exact h3
  ·exact h4
  ·exact h5
  ·exact h6
  ·exact h7
  ·exact h8
 ·intro h
  exact ⟨h 0 1 ω ω,h 0 2 ω ω,h 1 2 ω ω,h 0 3 ω ω,h 1 3 ω ω,h 2 3 ω ω⟩
theorem RH {x:InoT}:GT x↔∀ q,q<8→Ci x.k (x.opn q):=by
 constructor
 ·intro h q hq
  unfold GT at h
  rcases (ω:q=0∨q=1∨q=2∨q=3∨q=4∨q=5∨q=6∨q=7) with rfl | rfl | rfl | rfl | rfl | rfl | rfl | rfl
  ·exact h.1
  ·exact h.2.1
  ·exact h.2.2.1
  ·exact h.2.2.2.1
  ·exact h.2.2.2.2.1
  ·exact h.2.2.2.2.2.1
  ·exact h.2.2.2.2.2.2.1
  ·exact h.2.2.2.2.2.2.2
 ·intro h
  exact ⟨h 0 ω,h 1 ω,h 2 ω,h 3 ω,h 4 ω,h 5 ω,h 6 ω,h 7 ω⟩
theorem Xk {x:InoT}:PJ x↔∀ q:Nat,q<4→DW (64*(q:Int)) (x.blk q) x.s:=by
 constructor
 ·intro h q hq
  unfold PJ at h
  rcases (ω:q=0∨q=1∨q=2∨q=3) with rfl | rfl | rfl | rfl
  ·exact h.1
  ·exact h.2.1
  ·exact h.2.2.1
  ·exact h.2.2.2
 ·intro h
  exact ⟨h 0 ω,h 1 ω,h 2 ω,h 3 ω⟩
theorem OK {x:InoT} (h:(∀ q,q<4→0≤x.blk q∧x.blk q≤128)→noD x 4→(∀ q,q<8→Ci x.k (x.opn q))→(x.k=1→∀ q:Nat,q<4→DW (64*(q:Int)) (x.blk q) x.s)→False):AS x=false:=by
 cases hm:AS x with
 | false=>rfl
 | true=>
  obtain ⟨a,b,c,d⟩:=Kl hm
  exact (h (RF.1 a) (RG.1 b) (RH.1 c) (fun e=>Xk.1 (d e))).elim
theorem XU {x:InoT} (hk:x.k=1) (hB:∀ q,q<4→0≤x.blk q∧x.blk q≤128) (hD:noD x 4) (hO:∀ q,q<8→Ci x.k (x.opn q)) (hF:∀ q:Nat,q<4→DW (64*(q:Int)) (x.blk q) x.s):AS x=decide (0≤x.l∧x.l≤20∧0≤x.s∧x.s≤256):=by
 rw [Bool.eq_iff_iff,decide_eq_true_eq,Kj hk]
 exact ⟨fun h=>h.1,fun h=>⟨h,RF.2 hB,RG.2 hD,RH.2 hO,Xk.2 hF⟩⟩
theorem Aaf {x:InoT} (hk:x.k=2) (hB:∀ q,q<4→0≤x.blk q∧x.blk q≤128) (hD:noD x 4) (hO:∀ q,q<8→Ci x.k (x.opn q)):AS x=decide (x.l=1∧0≤x.s∧x.s≤16):=by
 rw [Bool.eq_iff_iff,decide_eq_true_eq,Mg hk]
 exact ⟨fun h=>h.1,fun h=>⟨h,RF.2 hB,RG.2 hD,RH.2 hO⟩⟩
theorem GA {w:World} {R:List Ch} {x:InoT} (hS0:Sep w ([]++R)) :
  CallsR prog 7 #[.agg (Ah x).toArray] w (fun v w'=>v=.bool (AS x)∧Sep w' ([]++R)):=by
 have hS:Sep w [Ch.many R]:=Sep.tail_many (xs:=[]) hS0;clear hS0
 refine AQ func7 rfl (N:=127) ntmps7 (by show 1≤127;decide) [(0,.agg (Ah x).toArray)] rfl fun _ h1=>sqr fun _ hK3=>so (wn rfl) fun _ hK1=>FV h1 rfl rfl rfl rfl rfl (z:=(Ah x)) rfl hS fun _ g4 w7 h5 s8 _ _=>hK1 _ _ ?_
 refine mv h5 rfl fun _ h3=>wpList_nil<|hK3 _ _<|sq fun _ hK2=>sqr fun _ hK4=>mv h3 rfl fun _ h4=>wpList_nil<|hK4 _ _<|wp_block ?_
 refine Du (fun (k:Nat) a' w'=>Kn 127 [(3,ν (k:Int)),(2,.bool false),(1,π g4),(0,.agg (Ah x).toArray)] a'∧Sep w' [Ab g4 25 (Ah x),Ch.many R]∧(k≤4)∧(∀ q,q<k→0≤x.blk q∧x.blk q≤128)∧(noD x k)) (fun (k:Nat)=>4-k) 0 ⟨h4.subs rfl,s8,Nat.zero_le _,(fun q hq=>absurd hq (Nat.not_lt_zero _)),(fun a b _ hb=>absurd hb (Nat.not_lt_zero _))⟩ ?_
 rintro k1 a1 w2 ⟨h6,s1,hk23,hB24,hD25⟩ K1 hK5
 refine sq fun _ hK6=>sqr fun _ hK7=>mv h6 rfl fun _ h7=>bv h7 (z:=.bool (decide ((k1:Int)<4))) rfl (cLt _ _ _ _ rfl) fun _ h8=>h8.sn [8,3,2,1,0] rfl fun h9=>hK7 _ _ ?_
 rcases bC (decide ((k1:Int)<4)) with hc1 | hc1
 ·skip
  have hp1:(k1:Int)<4:=(dT hc1)
  refine wcT h9 rfl hc1<|h9.sk [3,2,1,0] rfl fun h10=>wp_skip<|hK6 _ _<|sq fun _ hK8=>wp_block ?_
  refine sq fun _ hK9=>sqr fun _ hK10=>mv h10 rfl fun _ h11=>fav h11 rfl (fQ 3) fun _ h12=>sv1 h12 rfl (v:=.pointer (some ⟨g4,3+k1,none⟩)) (BR h12 rfl rfl rfl (fun w=>LY g4 k1 ω ω w)) fun _ h13=>sw1 h13 rfl (v:=ν (x.blk k1)) (rld h13 rfl rfl (ldB υ3 rfl (s1.get 0 rfl:Blk _ _ _ _) (DY x ω))) fun _ h14=>bv h14 (z:=.bool (decide (x.blk k1<0))) rfl (cLt _ _ _ _ rfl) fun _ h15=>mv h15 rfl fun _ h16=>sg h16 (wF h16 rfl rfl rfl) rfl rfl rfl (v:=ν (k1:Int)) (fun hC1=>by have hq:=(dF (CC hC1));exact Ad h16 rfl rfl _) fun _ h17=>sg h17 (wF h17 rfl rfl rfl) rfl rfl rfl (v:=.pointer (some ⟨g4,3,none⟩)) (fun hC2=>by have hq:=(dF (CC hC2));exact rfa h17 rfl rfl (fQ 3) _) fun _ h18=>sg h18 (wF h18 rfl rfl rfl) rfl rfl rfl (v:=.pointer (some ⟨g4,3+k1,none⟩)) (fun hC3=>by have hq:=(dF (CC hC3));exact BR h18 rfl (opg rfl hC3) (opg rfl hC3) (fun w=>LY g4 k1 ω ω w) _) fun _ h19=>?_
  refine sg h19 (wF h19 rfl rfl rfl) rfl rfl rfl (v:=ν (x.blk k1)) (fun hC4=>by have hq:=(dF (CC hC4));exact (rld h19 rfl (opg rfl hC4) (ldB υ3 rfl (s1.get 0 rfl:Blk _ _ _ _) (DY x ω)))) fun _ h20=>sg h20 (wF h20 rfl rfl rfl) rfl rfl rfl (v:=.bool (decide (x.blk k1>128))) (fun hC5=>by have hq:=(dF (CC hC5));exact Aw h20 rfl (opg rfl hC5) rfl (cGt _ _ _ _ rfl) _) fun _ h21=>sv1 h21 rfl (v:=.bool ((decide (x.blk k1<0))||(decide (x.blk k1>128)))) (Fo h21 rfl (E:=(decide (x.blk k1<0))) (F:=(decide (x.blk k1>128))) rfl rfl rfl (fun e=>if_pos (by rw [e];try rfl))) fun _ h22=>h22.sn [22,3,2,1,0] rfl fun h23=>hK10 _ _ ?_
  rcases bC ((decide (x.blk k1<0))||(decide (x.blk k1>128))) with hc2 | hc2
  ·skip
   have hp2:(x.blk k1<0)∨(x.blk k1>128):=((orT hc2).imp (fun q=>(dT q)) (fun q=>(dT q)))
   refine wcT h23 rfl hc2<|h23.sk [3,2,1,0] rfl fun h24=>sqr fun _ hK11=>h24.sk [3,1,0] rfl fun h25=>mv h25 rfl fun _ h26=>wpList_nil<|hK11 _ _<|wp_ret ?_
   try simp only [Exit.then,Exit.inBlock]
   refine Bg (v:=.bool false) (Cl h26 rfl rfl) h26.defs ?_
   refine ⟨?_,Sep.tail_un (xs:=[]) (s1.pk [1] rfl)⟩
   rw [OK (x:=x) (fun hB hD hO hF=>by first | (have z:=hB k1 ω;omega) | (have z:=hD 0 k1 ω ω;omega) | (have z:=hO 0 ω;unfold Ci at z;omega) | (have z:=hF ω 0 ω;unfold DW at z;omega))]
  ·skip
   have hp3:(¬ (x.blk k1<0))∧(¬ (x.blk k1>128)):=(And.intro (dF (orF hc2).1) (dF (orF hc2).2))
   refine wcF h23 rfl hc2<|h23.sk [3,2,1,0] rfl fun h27=>wp_skip<|hK9 _ _<|sqr fun _ hK12=>mv h27 rfl fun _ h28=>wpList_nil<|hK12 _ _<|wp_block ?_
   refine Du (fun (j:Nat) a' w'=>Kn 127 [(4,ν (j:Int)),(3,ν (k1:Int)),(2,.bool false),(1,π g4),(0,.agg (Ah x).toArray)] a'∧Sep w' [Ab g4 25 (Ah x),Ch.many R]∧(j≤k1)∧(∀ q,q<j→¬ (x.blk q≠0∧x.blk q=x.blk k1))) (fun (j:Nat)=>k1-j) 0 ⟨h28.subs rfl,s1,Nat.zero_le _,(fun q hq=>absurd hq (Nat.not_lt_zero _))⟩ ?_
   rintro j89 a2 w3 ⟨h29,s2,hj87,hI88⟩ K2 hK13
   refine sq fun _ hK14=>sqr fun _ hK15=>mvs 2 h29 rfl fun _ h30=>bv h30 (z:=.bool (decide ((j89:Int)<(k1:Int)))) rfl (cLt _ _ _ _ rfl) fun _ h31=>h31.sn [25,4,3,2,1,0] rfl fun h32=>hK15 _ _ ?_
   rcases bC (decide ((j89:Int)<(k1:Int))) with hc3 | hc3
   ·skip
    have hp4:(j89:Int)<(k1:Int):=(dT hc3)
    refine wcT h32 rfl hc3<|h32.sk [4,3,2,1,0] rfl fun h33=>wp_skip<|hK14 _ _<|sq fun _ hK16=>wp_block ?_
    refine sq fun _ hK17=>?_
    have s3:=s2.drew
    refine wp_region_held_drew (S:=fun w'=>Sep w' [Ab g4 25 (Ah x),Ch.many R]) κ s3 (fun hq1=>?_)
    refine tv1 hq1 h33 0 rfl rfl (v:=ν (j89:Int)) (fun w1 _=>(Ad h33 rfl rfl) w1) fun _ h34=>?_
    refine tv1 hq1 h34 1 rfl rfl (v:=.pointer (some ⟨g4,3,none⟩)) (fun w1 _=>(rfa h34 rfl rfl (fQ 3)) w1) fun _ h35=>?_
    refine tv1 hq1 h35 2 rfl rfl (v:=.pointer (some ⟨g4,3+j89,none⟩)) (fun w1 _=>(BR h35 rfl rfl rfl (fun w=>LY g4 j89 ω ω w)) w1) fun _ h36=>?_
    refine tv1 hq1 h36 3 rfl rfl (v:=ν (x.blk j89)) (fun w1 hSw=>(rld h36 rfl rfl (ldB υ3 rfl (hSw.get 0 rfl:Blk _ _ _ _) (DY x ω)))) fun _ h37=>?_
    refine tv1 hq1 h37 4 rfl rfl (v:=.bool (decide (x.blk j89≠0))) (fun w1 _=>Aw h37 rfl rfl rfl (cNe _ _ _ _ rfl) w1) fun _ h38=>?_
    refine tv1 hq1 h38 5 rfl rfl (v:=.bool (decide (x.blk j89≠0))) (fun w1 _=>(Ad h38 rfl rfl) w1) fun _ h39=>?_
    refine tgv hq1 h39 6 rfl rfl rfl rfl κ κ κ (fun _ _ _ _ h=>h) (wT h39 rfl rfl rfl) (v:=ν (j89:Int)) (fun w1 hSw hC6=>by have hq:=(dT hC6);exact (Ad h39 rfl rfl) w1) fun _ h40=>?_
    refine tgv hq1 h40 7 rfl rfl rfl rfl κ κ κ (fun _ _ _ _ h=>h) (wT h40 rfl rfl rfl) (v:=.pointer (some ⟨g4,3,none⟩)) (fun w1 hSw hC7=>by have hq:=(dT hC7);exact (rfa h40 rfl rfl (fQ 3)) w1) fun _ h41=>?_
    refine tgv hq1 h41 8 rfl rfl rfl rfl κ κ κ (fun _ _ _ _ h=>h) (wT h41 rfl rfl rfl) (v:=.pointer (some ⟨g4,3+j89,none⟩)) (fun w1 hSw hC8=>by have hq:=(dT hC8);exact (BR h41 rfl (opg rfl hC8) (opg rfl hC8) (fun w=>LY g4 j89 ω ω w)) w1) fun _ h42=>?_
    refine tgv hq1 h42 9 rfl rfl rfl rfl κ κ κ (fun _ _ _ _ h=>h) (wT h42 rfl rfl rfl) (v:=ν (x.blk j89)) (fun w1 hSw hC9=>by have hq:=(dT hC9);exact (rld h42 rfl (opg rfl hC9) (ldB υ3 rfl (hSw.get 0 rfl:Blk _ _ _ _) (DY x ω)))) fun _ h43=>?_
    refine tgv hq1 h43 10 rfl rfl rfl rfl κ κ κ (fun _ _ _ _ h=>h) (wT h43 rfl rfl rfl) (v:=ν (k1:Int)) (fun w1 hSw hC10=>by have hq:=(dT hC10);exact (Ad h43 rfl rfl) w1) fun _ h44=>?_
    refine tgv hq1 h44 11 rfl rfl rfl rfl κ κ κ (fun _ _ _ _ h=>h) (wT h44 rfl rfl rfl) (v:=.pointer (some ⟨g4,3,none⟩)) (fun w1 hSw hC11=>by have hq:=(dT hC11);exact (rfa h44 rfl rfl (fQ 3)) w1) fun _ h45=>?_
    refine tgv hq1 h45 12 rfl rfl rfl rfl κ κ κ (fun _ _ _ _ h=>h) (wT h45 rfl rfl rfl) (v:=.pointer (some ⟨g4,3+k1,none⟩)) (fun w1 hSw hC12=>by have hq:=(dT hC12);exact (BR h45 rfl (opg rfl hC12) (opg rfl hC12) (fun w=>LY g4 k1 ω ω w)) w1) fun _ h46=>?_
    refine tgv hq1 h46 13 rfl rfl rfl rfl κ κ κ (fun _ _ _ _ h=>h) (wT h46 rfl rfl rfl) (v:=ν (x.blk k1)) (fun w1 hSw hC13=>by have hq:=(dT hC13);exact (rld h46 rfl (opg rfl hC13) (ldB υ3 rfl (hSw.get 0 rfl:Blk _ _ _ _) (DY x ω)))) fun _ h47=>?_
    refine tgv hq1 h47 14 rfl rfl rfl rfl κ κ κ (fun _ _ _ _ h=>h) (wT h47 rfl rfl rfl) (v:=.bool (decide (x.blk j89=x.blk k1))) (fun w1 hSw hC14=>by have hq:=(dT hC14);exact (Aw h47 rfl (opg rfl hC14) (opg rfl hC14) (cEq _ _ _ _ rfl)) w1) fun _ h48=>?_
    refine tv1 hq1 h48 15 rfl rfl (v:=.bool ((decide (x.blk j89≠0))&&(decide (x.blk j89=x.blk k1)))) (fun w1 _=>(BQ h48 rfl (E:=(decide (x.blk j89≠0))) (F:=(decide (x.blk j89=x.blk k1))) rfl rfl rfl (fun e=>if_pos (by rw [e];try rfl))) w1) fun _ h49=>?_
    refine h49.sk [43,4,3,2,1,0] rfl fun h50=>?_
    refine wpAnyH_done κ ?_ _
    refine hK17 _ _ ?_
    rcases bC ((decide (x.blk j89≠0))&&(decide (x.blk j89=x.blk k1))) with hc4 | hc4
    ·skip
     have hp5:(x.blk j89≠0)∧(x.blk j89=x.blk k1):=(And.intro (dT (AV hc4).1) (dT (AV hc4).2))
     refine wcT h50 rfl hc4<|h50.sk [4,3,2,1,0] rfl fun h51=>sqr fun _ hK18=>h51.sk [4,3,1,0] rfl fun h52=>mv h52 rfl fun _ h53=>wpList_nil<|hK18 _ _<|wp_ret ?_
     try simp only [Exit.then,Exit.inBlock]
     refine Bg (v:=.bool false) (Cl h53 rfl rfl) h53.defs ?_
     refine ⟨?_,Sep.tail_un (xs:=[]) (s3.pk [1] rfl)⟩
     rw [OK (x:=x) (fun hB hD hO hF=>by first | (have z:=hB k1 ω;omega) | (have z:=hD j89 k1 ω ω;omega) | (have z:=hO 0 ω;unfold Ci at z;omega) | (have z:=hF ω 0 ω;unfold DW at z;omega))]
    ·skip
     have hp6:(¬ (x.blk j89≠0))∨(¬ (x.blk j89=x.blk k1)):=((Wt hc4).imp (fun q=>(dF q)) (fun q=>(dF q)))
     refine wcF h50 rfl hc4<|h50.sk [4,3,2,1,0] rfl fun h54=>wp_skip<|hK16 _ _<|wp_region_lit<|mv h54 rfl fun _ h55=>bv h55 (z:=ν ((j89+1:Nat):Int)) rfl (ES _ _ _ ω ω ω) fun _ h56=>h56.sk [27,26,3,2,1,0] rfl fun h57=>mv h57 rfl fun _ h58=>h58.sk [4,3,2,1,0] rfl fun h59=>wpList_nil ?_
     have hi9:∀ q,q<j89+1→¬ (x.blk q≠0∧x.blk q=x.blk k1):=(fun q hq=>(Nat.lt_succ_iff_lt_or_eq.1 hq).elim (hI88 q) (fun e=>by rw [e];omega))
     exact hK13 (j89+1) _ _ ⟨h59.subs rfl,s3,ω,hi9⟩ ω
   ·skip
    have hp7:¬ ((j89:Int)<(k1:Int)):=(dF hc3)
    refine wcF h32 rfl hc3<|h32.sk [4,3,2,1,0] rfl fun h60=>wp_exit ?_
    refine hK8 _ _ ?_
    refine wp_region_lit<|mv h60 rfl fun _ h61=>bv h61 (z:=ν ((k1+1:Nat):Int)) rfl (ES _ _ _ ω ω ω) fun _ h62=>h62.sk [10,9,4,2,1,0] rfl fun h63=>mv h63 rfl fun _ h64=>h64.sk [3,4,2,1,0] rfl fun h65=>wpList_nil ?_
    have hb9:=(fun q hq=>(Nat.lt_succ_iff_lt_or_eq.1 hq).elim (hB24 q) (fun e=>by rw [e];omega))
    have hd9:=Ad4 hD25 hI88 ω
    exact hK5 (k1+1) _ _ ⟨h65.subs rfl,s2,ω,hb9,hd9⟩ ω
 ·skip
  have hp8:¬ ((k1:Int)<4):=(dF hc1)
  refine wcF h9 rfl hc1<|h9.sk [3,2,1,0] rfl fun h66=>wp_exit ?_
  refine hK2 _ _ ?_
  refine sq fun _ hK19=>sqr fun _ hK20=>mv h66 rfl fun _ h67=>wpList_nil<|hK20 _ _<|wp_block ?_
  have hk4:k1=4:=ω
  refine Du (fun (n:Nat) a' w'=>Kn 127 [(5,ν (n:Int)),(3,ν (k1:Int)),(2,.bool false),(1,π g4),(0,.agg (Ah x).toArray)] a'∧Sep w' [Ab g4 25 (Ah x),Ch.many R]∧(n≤8)∧(∀ q,q<n→Ci x.k (x.opn q))) (fun (n:Nat)=>8-n) 0 ⟨h67.subs rfl,s1,Nat.zero_le _,(fun q hq=>absurd hq (Nat.not_lt_zero _))⟩ ?_
  rintro n188 a3 w4 ⟨h68,s4,hn186,hO187⟩ K3 hK21
  refine sq fun _ hK22=>sqr fun _ hK23=>mv h68 rfl fun _ h69=>bv h69 (z:=.bool (decide ((n188:Int)<8))) rfl (cLt _ _ _ _ rfl) fun _ h70=>h70.sn [45,5,3,2,1,0] rfl fun h71=>hK23 _ _ ?_
  rcases bC (decide ((n188:Int)<8)) with hc5 | hc5
  ·skip
   have hp9:(n188:Int)<8:=(dT hc5)
   refine wcT h71 rfl hc5<|h71.sk [5,3,2,1,0] rfl fun h72=>wp_skip<|hK22 _ _<|sq fun _ hK24=>wp_block ?_
   refine sqr fun _ hK25=>mv h72 rfl fun _ h73=>fav h73 rfl (fQ 7) fun _ h74=>sv1 h74 rfl (v:=.pointer (some ⟨g4,7+n188,none⟩)) (BR h74 rfl rfl rfl (fun w=>RU g4 n188 ω ω w)) fun _ h75=>sw1 h75 rfl (v:=ν (x.opn n188)) (rld h75 rfl rfl (ldB υ3 rfl (s4.get 0 rfl:Blk _ _ _ _) (LV x ω))) fun _ h76=>bv h76 (z:=.bool (decide (x.opn n188<0))) rfl (cLt _ _ _ _ rfl) fun _ h77=>mv h77 rfl fun _ h78=>sg h78 (wF h78 rfl rfl rfl) rfl rfl rfl (v:=ν (n188:Int)) (fun hC15=>by have hq:=(dF (CC hC15));exact Ad h78 rfl rfl _) fun _ h79=>sg h79 (wF h79 rfl rfl rfl) rfl rfl rfl (v:=.pointer (some ⟨g4,7,none⟩)) (fun hC16=>by have hq:=(dF (CC hC16));exact rfa h79 rfl rfl (fQ 7) _) fun _ h80=>sg h80 (wF h80 rfl rfl rfl) rfl rfl rfl (v:=.pointer (some ⟨g4,7+n188,none⟩)) (fun hC17=>by have hq:=(dF (CC hC17));exact BR h80 rfl (opg rfl hC17) (opg rfl hC17) (fun w=>RU g4 n188 ω ω w) _) fun _ h81=>?_
   refine sg h81 (wF h81 rfl rfl rfl) rfl rfl rfl (v:=ν (x.opn n188)) (fun hC18=>by have hq:=(dF (CC hC18));exact (rld h81 rfl (opg rfl hC18) (ldB υ3 rfl (s4.get 0 rfl:Blk _ _ _ _) (LV x ω)))) fun _ h82=>sg h82 (wF h82 rfl rfl rfl) rfl rfl rfl (v:=.bool (decide (x.opn n188>8))) (fun hC19=>by have hq:=(dF (CC hC19));exact Aw h82 rfl (opg rfl hC19) rfl (cGt _ _ _ _ rfl) _) fun _ h83=>sv1 h83 rfl (v:=.bool ((decide (x.opn n188<0))||(decide (x.opn n188>8)))) (Fo h83 rfl (E:=(decide (x.opn n188<0))) (F:=(decide (x.opn n188>8))) rfl rfl rfl (fun e=>if_pos (by rw [e];try rfl))) fun _ h84=>mv h84 rfl fun _ h85=>sg h85 (wF h85 rfl rfl rfl) rfl rfl rfl (v:=π g4) (fun hC20=>by have hq:=(And.intro (dF (orF (CC hC20)).1) (dF (orF (CC hC20)).2));exact rfa h85 rfl rfl (fQ 0) _) fun _ h86=>sg h86 (wF h86 rfl rfl rfl) rfl rfl rfl (v:=ν x.k) (fun hC21=>by have hq:=(And.intro (dF (orF (CC hC21)).1) (dF (orF (CC hC21)).2));exact (rld h86 rfl (opg rfl hC21) (ldB υ3 rfl (s4.get 0 rfl:Blk _ _ _ _) rfl))) fun _ h87=>sg h87 (wF h87 rfl rfl rfl) rfl rfl rfl (v:=.bool (decide (x.k≠1))) (fun hC22=>by have hq:=(And.intro (dF (orF (CC hC22)).1) (dF (orF (CC hC22)).2));exact Aw h87 rfl (opg rfl hC22) rfl (cNe _ _ _ _ rfl) _) fun _ h88=>sg h88 (wF h88 rfl rfl rfl) rfl rfl rfl (v:=.bool (decide (x.k≠1))) (fun hC23=>by have hq:=(And.intro (dF (orF (CC hC23)).1) (dF (orF (CC hC23)).2));exact Ad h88 rfl (opg rfl hC23) _) fun _ h89=>sg h89 (wnT h89 rfl rfl rfl) rfl rfl rfl (v:=ν (n188:Int)) (fun hC24=>by have hq:=(And.intro (And.intro (dF (orF (CC (AV hC24).1)).1) (dF (orF (CC (AV hC24).1)).2)) (dT (AV hC24).2));exact Ad h89 rfl rfl _) fun _ h90=>sg h90 (wnT h90 rfl rfl rfl) rfl rfl rfl (v:=.pointer (some ⟨g4,7,none⟩)) (fun hC25=>by have hq:=(And.intro (And.intro (dF (orF (CC (AV hC25).1)).1) (dF (orF (CC (AV hC25).1)).2)) (dT (AV hC25).2));exact rfa h90 rfl rfl (fQ 7) _) fun _ h91=>?_
   refine sg h91 (wnT h91 rfl rfl rfl) rfl rfl rfl (v:=.pointer (some ⟨g4,7+n188,none⟩)) (fun hC26=>by have hq:=(And.intro (And.intro (dF (orF (CC (AV hC26).1)).1) (dF (orF (CC (AV hC26).1)).2)) (dT (AV hC26).2));exact BR h91 rfl (opg rfl hC26) (opg rfl hC26) (fun w=>RU g4 n188 ω ω w) _) fun _ h92=>sg h92 (wnT h92 rfl rfl rfl) rfl rfl rfl (v:=ν (x.opn n188)) (fun hC27=>by have hq:=(And.intro (And.intro (dF (orF (CC (AV hC27).1)).1) (dF (orF (CC (AV hC27).1)).2)) (dT (AV hC27).2));exact (rld h92 rfl (opg rfl hC27) (ldB υ3 rfl (s4.get 0 rfl:Blk _ _ _ _) (LV x ω)))) fun _ h93=>sg h93 (wnT h93 rfl rfl rfl) rfl rfl rfl (v:=.bool (decide (x.opn n188≠0))) (fun hC28=>by have hq:=(And.intro (And.intro (dF (orF (CC (AV hC28).1)).1) (dF (orF (CC (AV hC28).1)).2)) (dT (AV hC28).2));exact Aw h93 rfl (opg rfl hC28) rfl (cNe _ _ _ _ rfl) _) fun _ h94=>sg h94 (wF h94 rfl rfl rfl) rfl rfl rfl (v:=.bool ((decide (x.k≠1))&&(decide (x.opn n188≠0)))) (fun hC29=>by have hq:=(And.intro (dF (orF (CC hC29)).1) (dF (orF (CC hC29)).2));exact BQ h94 rfl (E:=(decide (x.k≠1))) (F:=(decide (x.opn n188≠0))) (opg rfl hC29) rfl rfl (fun e=>if_pos (by rw [hC29,e];try rfl)) _) fun _ h95=>sv1 h95 rfl (v:=.bool (((decide (x.opn n188<0))||(decide (x.opn n188>8)))||((decide (x.k≠1))&&(decide (x.opn n188≠0))))) (Fo h95 rfl (E:=((decide (x.opn n188<0))||(decide (x.opn n188>8)))) (F:=((decide (x.k≠1))&&(decide (x.opn n188≠0)))) rfl rfl rfl (fun e=>if_pos (by rw [e];try rfl))) fun _ h96=>h96.sn [71,5,3,2,1,0] rfl fun h97=>hK25 _ _ ?_
   rcases bC (((decide (x.opn n188<0))||(decide (x.opn n188>8)))||((decide (x.k≠1))&&(decide (x.opn n188≠0)))) with hc6 | hc6
   ·skip
    have hp10:((x.opn n188<0)∨(x.opn n188>8))∨((x.k≠1)∧(x.opn n188≠0)):=((orT hc6).imp (fun q=>((orT q).imp (fun q=>(dT q)) (fun q=>(dT q)))) (fun q=>(And.intro (dT (AV q).1) (dT (AV q).2))))
    refine wcT h97 rfl hc6<|h97.sk [5,3,2,1,0] rfl fun h98=>sqr fun _ hK26=>h98.sk [5,3,1,0] rfl fun h99=>mv h99 rfl fun _ h100=>wpList_nil<|hK26 _ _<|wp_ret ?_
    try simp only [Exit.then,Exit.inBlock]
    refine Bg (v:=.bool false) (Cl h100 rfl rfl) h100.defs ?_
    refine ⟨?_,Sep.tail_un (xs:=[]) (s4.pk [1] rfl)⟩
    rw [OK (x:=x) (fun hB hD hO hF=>by first | (have z:=hB k1 ω;omega) | (have z:=hD 0 k1 ω ω;omega) | (have z:=hO n188 ω;unfold Ci at z;omega) | (have z:=hF ω 0 ω;unfold DW at z;omega))]
   ·skip
    have hp11:((¬ (x.opn n188<0))∧(¬ (x.opn n188>8)))∧((¬ (x.k≠1))∨(¬ (x.opn n188≠0))):=(And.intro (And.intro (dF (orF (orF hc6).1).1) (dF (orF (orF hc6).1).2)) ((Wt (orF hc6).2).imp (fun q=>(dF q)) (fun q=>(dF q))))
    refine wcF h97 rfl hc6<|h97.sk [5,3,2,1,0] rfl fun h101=>wp_skip<|hK24 _ _<|wp_region_lit<|mv h101 rfl fun _ h102=>bv h102 (z:=ν ((n188+1:Nat):Int)) rfl (ES _ _ _ ω ω ω) fun _ h103=>h103.sk [47,46,3,2,1,0] rfl fun h104=>mv h104 rfl fun _ h105=>h105.sk [5,3,2,1,0] rfl fun h106=>wpList_nil ?_
    have ho9:∀ q,q<n188+1→Ci x.k (x.opn q):=(fun q hq=>(Nat.lt_succ_iff_lt_or_eq.1 hq).elim (hO187 q) (fun e=>by rw [e];(unfold Ci;omega)))
    exact hK21 (n188+1) _ _ ⟨h106.subs rfl,s4,ω,ho9⟩ ω
  ·skip
   have hp12:¬ ((n188:Int)<8):=(dF hc5)
   refine wcF h71 rfl hc5<|h71.sk [5,3,2,1,0] rfl fun h107=>wp_exit ?_
   refine hK19 _ _ ?_
   refine sq fun _ hK27=>sqr fun _ hK28=>fav h107 rfl (fQ 0) fun _ h108=>ldv h108 s4 0 υ3 rfl rfl rfl rfl fun _ h109=>bv h109 (z:=.bool (decide (x.k=1))) rfl (cEq _ _ _ _ rfl) fun _ h110=>h110.sn [74,5,3,2,1,0] rfl fun h111=>hK28 _ _ ?_
   rcases bC (decide (x.k=1)) with hc7 | hc7
   ·skip
    have hp13:x.k=1:=(dT hc7)
    refine wcT h111 rfl hc7<|h111.sk [5,3,2,1,0] rfl fun h112=>sq fun _ hK29=>sqr fun _ hK30=>mv h112 rfl fun _ h113=>wpList_nil<|hK30 _ _<|wp_block ?_
    refine Du (fun (m:Nat) a' w'=>Kn 127 [(6,ν (m:Int)),(5,ν (n188:Int)),(3,ν (k1:Int)),(2,.bool false),(1,π g4),(0,.agg (Ah x).toArray)] a'∧Sep w' [Ab g4 25 (Ah x),Ch.many R]∧(m≤4)∧(∀ q,q<m→DW (64*(q:Int)) (x.blk q) x.s)) (fun (m:Nat)=>4-m) 0 ⟨h113.subs rfl,s4,Nat.zero_le _,(fun q hq=>absurd hq (Nat.not_lt_zero _))⟩ ?_
    rintro m1 a4 w5 ⟨h114,s5,hm1,hF306⟩ K4 hK31
    refine sq fun _ hK32=>sqr fun _ hK33=>mv h114 rfl fun _ h115=>bv h115 (z:=.bool (decide ((m1:Int)<4))) rfl (cLt _ _ _ _ rfl) fun _ h116=>h116.sn [76,6,5,3,2,1,0] rfl fun h117=>hK33 _ _ ?_
    rcases bC (decide ((m1:Int)<4)) with hc8 | hc8
    ·skip
     have hp14:(m1:Int)<4:=(dT hc8)
     refine wcT h117 rfl hc8<|h117.sk [6,5,3,2,1,0] rfl fun h118=>wp_skip<|hK32 _ _<|sq fun _ hK34=>wp_block ?_
     refine sq fun _ hK35=>?_
     have s6:=s5.drew
     refine wp_region_held_drew (S:=fun w'=>Sep w' [Ab g4 25 (Ah x),Ch.many R]) κ s6 (fun hq2=>?_)
     refine tv1 hq2 h118 0 rfl rfl (v:=ν (m1:Int)) (fun w1 _=>(Ad h118 rfl rfl) w1) fun _ h119=>?_
     refine tv1 hq2 h119 1 rfl rfl (v:=.pointer (some ⟨g4,3,none⟩)) (fun w1 _=>(rfa h119 rfl rfl (fQ 3)) w1) fun _ h120=>?_
     refine tv1 hq2 h120 2 rfl rfl (v:=.pointer (some ⟨g4,3+m1,none⟩)) (fun w1 _=>(BR h120 rfl rfl rfl (fun w=>LY g4 m1 ω ω w)) w1) fun _ h121=>?_
     refine tv1 hq2 h121 3 rfl rfl (v:=ν (x.blk m1)) (fun w1 hSw=>(rld h121 rfl rfl (ldB υ3 rfl (hSw.get 0 rfl:Blk _ _ _ _) (DY x ω)))) fun _ h122=>?_
     refine tv1 hq2 h122 4 rfl rfl (v:=.bool (decide (x.blk m1≠0))) (fun w1 _=>Aw h122 rfl rfl rfl (cNe _ _ _ _ rfl) w1) fun _ h123=>?_
     refine tv1 hq2 h123 5 rfl rfl (v:=ν (m1:Int)) (fun w1 _=>(Ad h123 rfl rfl) w1) fun _ h124=>?_
     refine tv1 hq2 h124 6 rfl rfl (v:=ν (64*(m1:Int))) (fun w1 _=>Aw h124 rfl rfl rfl (Adx _ _ _ ω ω ω) w1) fun _ h125=>?_
     refine tv1 hq2 h125 7 rfl rfl (v:=.pointer (some ⟨g4,2,none⟩)) (fun w1 _=>(rfa h125 rfl rfl (fQ 2)) w1) fun _ h126=>?_
     refine tv1 hq2 h126 8 rfl rfl (v:=ν x.s) (fun w1 hSw=>(rld h126 rfl rfl (ldB υ3 rfl (hSw.get 0 rfl:Blk _ _ _ _) rfl))) fun _ h127=>?_
     refine tv1 hq2 h127 9 rfl rfl (v:=.bool (decide (64*(m1:Int)<x.s))) (fun w1 _=>Aw h127 rfl rfl rfl (cLt _ _ _ _ rfl) w1) fun _ h128=>?_
     refine tv1 hq2 h128 10 rfl rfl (v:=.bool (!((decide (x.blk m1≠0)) == (decide (64*(m1:Int)<x.s))))) (fun w1 _=>Aw h128 rfl rfl rfl (Rc .neq υ4 _ _ _ _) w1) fun _ h129=>?_
     refine h129.sk [89,6,5,3,2,1,0] rfl fun h130=>?_
     refine wpAnyH_done κ ?_ _
     refine hK35 _ _ ?_
     rcases bC ((decide (x.blk m1≠0)) == (decide (64*(m1:Int)<x.s))) with hc9 | hc9
     ·skip
      refine wcF h130 rfl (Kz hc9)<|h130.sk [6,5,3,2,1,0] rfl fun h131=>wp_skip<|hK34 _ _<|wp_region_lit<|mv h131 rfl fun _ h132=>bv h132 (z:=ν ((m1+1:Nat):Int)) rfl (ES _ _ _ ω ω ω) fun _ h133=>h133.sk [78,77,5,3,2,1,0] rfl fun h134=>mv h134 rfl fun _ h135=>h135.sk [6,5,3,2,1,0] rfl fun h136=>wpList_nil ?_
      have hf9:∀ q,q<m1+1→DW (64*(q:Int)) (x.blk q) x.s:=(fun q hq=>(Nat.lt_succ_iff_lt_or_eq.1 hq).elim (hF306 q) (fun e=>by rw [e];exact Aec hc9))
      exact hK31 (m1+1) _ _ ⟨h136.subs rfl,s6,ω,hf9⟩ ω
     ·skip
      refine wcT h130 rfl (Ky hc9)<|h130.sk [6,5,3,2,1,0] rfl fun h137=>sqr fun _ hK36=>h137.sk [6,5,3,1,0] rfl fun h138=>mv h138 rfl fun _ h139=>wpList_nil<|hK36 _ _<|wp_ret ?_
      try simp only [Exit.then,Exit.inBlock]
      refine Bg (v:=.bool false) (Cl h139 rfl rfl) h139.defs ?_
      refine ⟨?_,Sep.tail_un (xs:=[]) (s6.pk [1] rfl)⟩
      rw [OK (x:=x) (fun hB hD hO hF=>Aeb hc9 (hF ω m1 ω))]
    ·skip
     have hp15:¬ ((m1:Int)<4):=(dF hc8)
     refine wcF h117 rfl hc8<|h117.sk [6,5,3,2,1,0] rfl fun h140=>wp_exit ?_
     refine hK29 _ _ ?_
     refine sqr fun _ hK37=>fav h140 rfl (fQ 1) fun _ h141=>ldv h141 s5 0 υ3 rfl rfl rfl rfl fun _ h142=>bv h142 (z:=.bool (decide (x.l≥0))) rfl (cGe _ _ _ _ rfl) fun _ h143=>mv h143 rfl fun _ h144=>sg h144 (wT h144 rfl rfl rfl) rfl rfl rfl (v:=.pointer (some ⟨g4,1,none⟩)) (fun hC30=>by have hq:=(dT hC30);exact rfa h144 rfl rfl (fQ 1) _) fun _ h145=>sg h145 (wT h145 rfl rfl rfl) rfl rfl rfl (v:=ν x.l) (fun hC31=>by have hq:=(dT hC31);exact (rld h145 rfl (opg rfl hC31) (ldB υ3 rfl (s5.get 0 rfl:Blk _ _ _ _) rfl))) fun _ h146=>sg h146 (wT h146 rfl rfl rfl) rfl rfl rfl (v:=.bool (decide (x.l≤20))) (fun hC32=>by have hq:=(dT hC32);exact Aw h146 rfl (opg rfl hC32) rfl (cLe _ _ _ _ rfl) _) fun _ h147=>sv1 h147 rfl (v:=.bool ((decide (x.l≥0))&&(decide (x.l≤20)))) (BQ h147 rfl (E:=(decide (x.l≥0))) (F:=(decide (x.l≤20))) rfl rfl rfl (fun e=>if_pos (by rw [e];try rfl))) fun _ h148=>mv h148 rfl fun _ h149=>?_
     refine sg h149 (wT h149 rfl rfl rfl) rfl rfl rfl (v:=.pointer (some ⟨g4,2,none⟩)) (fun hC33=>by have hq:=(And.intro (dT (AV hC33).1) (dT (AV hC33).2));exact rfa h149 rfl rfl (fQ 2) _) fun _ h150=>sg h150 (wT h150 rfl rfl rfl) rfl rfl rfl (v:=ν x.s) (fun hC34=>by have hq:=(And.intro (dT (AV hC34).1) (dT (AV hC34).2));exact (rld h150 rfl (opg rfl hC34) (ldB υ3 rfl (s5.get 0 rfl:Blk _ _ _ _) rfl))) fun _ h151=>sg h151 (wT h151 rfl rfl rfl) rfl rfl rfl (v:=.bool (decide (x.s≥0))) (fun hC35=>by have hq:=(And.intro (dT (AV hC35).1) (dT (AV hC35).2));exact Aw h151 rfl (opg rfl hC35) rfl (cGe _ _ _ _ rfl) _) fun _ h152=>sv1 h152 rfl (v:=.bool (((decide (x.l≥0))&&(decide (x.l≤20)))&&(decide (x.s≥0)))) (BQ h152 rfl (E:=((decide (x.l≥0))&&(decide (x.l≤20)))) (F:=(decide (x.s≥0))) rfl rfl rfl (fun e=>if_pos (by rw [e];try rfl))) fun _ h153=>mv h153 rfl fun _ h154=>sg h154 (wT h154 rfl rfl rfl) rfl rfl rfl (v:=.pointer (some ⟨g4,2,none⟩)) (fun hC36=>by have hq:=(And.intro (And.intro (dT (AV (AV hC36).1).1) (dT (AV (AV hC36).1).2)) (dT (AV hC36).2));exact rfa h154 rfl rfl (fQ 2) _) fun _ h155=>sg h155 (wT h155 rfl rfl rfl) rfl rfl rfl (v:=ν x.s) (fun hC37=>by have hq:=(And.intro (And.intro (dT (AV (AV hC37).1).1) (dT (AV (AV hC37).1).2)) (dT (AV hC37).2));exact (rld h155 rfl (opg rfl hC37) (ldB υ3 rfl (s5.get 0 rfl:Blk _ _ _ _) rfl))) fun _ h156=>sg h156 (wT h156 rfl rfl rfl) rfl rfl rfl (v:=.bool (decide (x.s≤256))) (fun hC38=>by have hq:=(And.intro (And.intro (dT (AV (AV hC38).1).1) (dT (AV (AV hC38).1).2)) (dT (AV hC38).2));exact Aw h156 rfl (opg rfl hC38) rfl (cLe _ _ _ _ rfl) _) fun _ h157=>sv1 h157 rfl (v:=.bool ((((decide (x.l≥0))&&(decide (x.l≤20)))&&(decide (x.s≥0)))&&(decide (x.s≤256)))) (BQ h157 rfl (E:=(((decide (x.l≥0))&&(decide (x.l≤20)))&&(decide (x.s≥0)))) (F:=(decide (x.s≤256))) rfl rfl rfl (fun e=>if_pos (by rw [e];try rfl))) fun _ h158=>h158.sk [107,106,105,104,103,102,101,100,99,98,97,96,95,94,93,92,91,90,6,5,3,1,0] rfl fun h159=>?_
     refine mv h159 rfl fun _ h160=>h160.sn [2,6,5,3,1,0] rfl fun h161=>hK37 _ _<|wp_ret ?_
     try simp only [Exit.then,Exit.inBlock]
     refine Bg (v:=.bool ((((decide (x.l≥0))&&(decide (x.l≤20)))&&(decide (x.s≥0)))&&(decide (x.s≤256)))) (Cl h161 rfl rfl) h161.defs ?_
     refine ⟨?_,Sep.tail_un (xs:=[]) (s5.pk [1] rfl)⟩
     rw [XU (x:=x) ω (fun q hq=>hB24 q ω) (fun a b h1 h2=>hD25 a b h1 ω) (fun q hq=>hO187 q ω) (fun q hq=>hF306 q ω)];refine congrArg Value.bool ?_;rw [Bool.eq_iff_iff];simp only [Bool.and_eq_true,decide_eq_true_eq];omega
   ·skip
    have hp16:¬ (x.k=1):=(dF hc7)
    refine wcF h111 rfl hc7<|h111.sk [5,3,2,1,0] rfl fun h162=>wp_skip<|hK27 _ _<|sq fun _ hK38=>sqr fun _ hK39=>fav h162 rfl (fQ 0) fun _ h163=>ldv h163 s4 0 υ3 rfl rfl rfl rfl fun _ h164=>bv h164 (z:=.bool (decide (x.k=2))) rfl (cEq _ _ _ _ rfl) fun _ h165=>h165.sn [110,5,3,2,1,0] rfl fun h166=>hK39 _ _ ?_
    rcases bC (decide (x.k=2)) with hc10 | hc10
    ·skip
     have hp17:x.k=2:=(dT hc10)
     refine wcT h166 rfl hc10<|h166.sk [5,3,2,1,0] rfl fun h167=>sqr fun _ hK40=>fav h167 rfl (fQ 1) fun _ h168=>ldv h168 s4 0 υ3 rfl rfl rfl rfl fun _ h169=>bv h169 (z:=.bool (decide (x.l=1))) rfl (cEq _ _ _ _ rfl) fun _ h170=>mv h170 rfl fun _ h171=>sg h171 (wT h171 rfl rfl rfl) rfl rfl rfl (v:=.pointer (some ⟨g4,2,none⟩)) (fun hC39=>by have hq:=(dT hC39);exact rfa h171 rfl rfl (fQ 2) _) fun _ h172=>sg h172 (wT h172 rfl rfl rfl) rfl rfl rfl (v:=ν x.s) (fun hC40=>by have hq:=(dT hC40);exact (rld h172 rfl (opg rfl hC40) (ldB υ3 rfl (s4.get 0 rfl:Blk _ _ _ _) rfl))) fun _ h173=>sg h173 (wT h173 rfl rfl rfl) rfl rfl rfl (v:=.bool (decide (x.s≥0))) (fun hC41=>by have hq:=(dT hC41);exact Aw h173 rfl (opg rfl hC41) rfl (cGe _ _ _ _ rfl) _) fun _ h174=>?_
     refine sv1 h174 rfl (v:=.bool ((decide (x.l=1))&&(decide (x.s≥0)))) (BQ h174 rfl (E:=(decide (x.l=1))) (F:=(decide (x.s≥0))) rfl rfl rfl (fun e=>if_pos (by rw [e];try rfl))) fun _ h175=>mv h175 rfl fun _ h176=>sg h176 (wT h176 rfl rfl rfl) rfl rfl rfl (v:=.pointer (some ⟨g4,2,none⟩)) (fun hC42=>by have hq:=(And.intro (dT (AV hC42).1) (dT (AV hC42).2));exact rfa h176 rfl rfl (fQ 2) _) fun _ h177=>sg h177 (wT h177 rfl rfl rfl) rfl rfl rfl (v:=ν x.s) (fun hC43=>by have hq:=(And.intro (dT (AV hC43).1) (dT (AV hC43).2));exact (rld h177 rfl (opg rfl hC43) (ldB υ3 rfl (s4.get 0 rfl:Blk _ _ _ _) rfl))) fun _ h178=>sg h178 (wT h178 rfl rfl rfl) rfl rfl rfl (v:=.bool (decide (x.s≤16))) (fun hC44=>by have hq:=(And.intro (dT (AV hC44).1) (dT (AV hC44).2));exact Aw h178 rfl (opg rfl hC44) rfl (cLe _ _ _ _ rfl) _) fun _ h179=>sv1 h179 rfl (v:=.bool (((decide (x.l=1))&&(decide (x.s≥0)))&&(decide (x.s≤16)))) (BQ h179 rfl (E:=((decide (x.l=1))&&(decide (x.s≥0)))) (F:=(decide (x.s≤16))) rfl rfl rfl (fun e=>if_pos (by rw [e];try rfl))) fun _ h180=>h180.sk [123,122,121,120,119,118,117,116,115,114,113,112,111,5,3,1,0] rfl fun h181=>mv h181 rfl fun _ h182=>h182.sn [2,5,3,1,0] rfl fun h183=>hK40 _ _ ?_
     refine wp_ret ?_
     try simp only [Exit.then,Exit.inBlock]
     refine Bg (v:=.bool (((decide (x.l=1))&&(decide (x.s≥0)))&&(decide (x.s≤16)))) (Cl h183 rfl rfl) h183.defs ?_
     refine ⟨?_,Sep.tail_un (xs:=[]) (s4.pk [1] rfl)⟩
     rw [Aaf (x:=x) ω (fun q hq=>hB24 q ω) (fun a b h1 h2=>hD25 a b h1 ω) (fun q hq=>hO187 q ω)];refine congrArg Value.bool ?_;rw [Bool.eq_iff_iff];simp only [Bool.and_eq_true,decide_eq_true_eq];omega
    ·skip
     have hp18:¬ (x.k=2):=(dF hc10)
     refine wcF h166 rfl hc10<|h166.sk [5,3,2,1,0] rfl fun h184=>wp_skip<|hK38 _ _<|sqr fun _ hK41=>sw1 h184 rfl (v:=.agg (Ah x).toArray) (rld h184 rfl rfl (ldA υ25 rfl (n:=15) κ (s4.get 0 rfl:Blk _ _ _ _) rfl rfl)) fun _ h185=>bu h185 (v:=.agg (Ah AT).toArray) rfl (fun w=>κ) fun _ h186=>bv h186 (z:=.bool (decide (Ef x=Ef AT))) rfl (Adw _ _ (i:=x) (j:=AT) rfl) fun _ h187=>h187.sk [126,125,124,5,3,1,0] rfl fun h188=>mv h188 rfl fun _ h189=>h189.sk [2,5,3,1,0] rfl fun h190=>?_
     refine wpList_nil<|hK41 _ _<|wp_ret ?_
     try simp only [Exit.then,Exit.inBlock]
     refine Bg (v:=.bool (decide (Ef x=Ef AT))) (Cl h190 rfl rfl) h190.defs ?_
     refine ⟨?_,Sep.tail_un (xs:=[]) (s4.pk [1] rfl)⟩
     rw [Gg (i:=x) ω ω];first | rfl | (congr 1;simp)
end
end Go.Proofs.YthiplgahhejmcaaGreatDoor
