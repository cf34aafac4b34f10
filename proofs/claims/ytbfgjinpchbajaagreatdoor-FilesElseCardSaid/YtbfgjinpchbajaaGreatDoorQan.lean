/- Parts of the proof. -/
import Derived.Scope
import Derived.Lib.UnsafeStr
import Derived.Shelf.RegionOpenPlain
import Derived.Test.YtbfgjinpchbajaaGreatDoorQam
namespace Go.Proofs.YtbfgjinpchbajaaGreatDoor
open Go.RowKit
set_option linter.unusedSimpArgs false
set_option linter.unusedVariables false
set_option linter.unusedSectionVars false
set_option maxRecDepth 100000
set_option maxHeartbeats 8000000
section
def szX (x:InoT) (n:Int):InoT:={ x with s:=n }
def alS (M:MemM) (sp:Int) (x:InoT) (P:List PtM):Nat→InoT×List PtM
 | 0=>(x,P)
 | k+1=>if (alS M sp x P k).1.blk k≠0 then alS M sp x P k else ((alS M sp x P k).1.setB k (bN M (alS M sp x P k).2 sp),bP M (alS M sp x P k).2 sp)
theorem Aet {M:MemM} {sp:Int} {x:InoT} {P:List PtM} {k:Nat} (h:(alS M sp x P k).1.blk k≠0):alS M sp x P (k+1)=alS M sp x P k:=if_pos h
theorem Ac5 {M:MemM} {sp:Int} {x:InoT} {P:List PtM} {k:Nat} (h:¬ (alS M sp x P k).1.blk k≠0):alS M sp x P (k+1)=((alS M sp x P k).1.setB k (bN M (alS M sp x P k).2 sp),bP M (alS M sp x P k).2 sp):=if_neg h
def Gn (X:List UInt8) (k:Nat):List UInt8:=(X.take ((((k+1:Nat):Int)*64).toNat)).drop (((k:Int)*64).toNat)
theorem GE {X:List UInt8} {n k:Nat} (h:X.length=n*64) (hk:k<n):((X.take ((((k+1:Nat):Int)*64).toNat)).drop (((k:Int)*64).toNat)).length=64:=by
 rw [List.length_drop,List.length_take];omega
def wrP (M:MemM) (z:InoT) (X:List UInt8) (P:List PtM):Nat→List PtM
 | 0=>P
 | k+1=>stP M (wrP M z X P k) 7 (z.blk k) (Gn X k)
theorem Wj {w:World} {R:List Ch} {fx mx:Nat} {K:VolK} {ta:Option Addr} {tc:Nat} {M:MemM} {P P1:List PtM} {x y:InoT} {n0:Nat} (hS:Sep w ([Ae fx 83 [π K.tg,π mx],mtC mx K,txP K ta tc M P]++R)) (hM:M.V.length=23168) (hn0:CF x.s=(n0:Int)) (hs:0≤x.s∧x.s≤256) (hxb:∀ k,-9223372036854775808≤x.blk k∧x.blk k≤9223372036854775807) (hcX:Bz x n0 (4-n0)=y) (hcE:Lf M P x n0=0) (hcP:Lg M P x n0=P1) :
  CallsR Tryz.prog 73 #[π fx,.agg (Ap x).toArray] w (fun v w'=>∃ ta' tc',v=.tuple #[.agg (Ap y).toArray,ν 0]∧Sep w' ([Ae fx 83 [π K.tg,π mx],mtC mx K,txP K ta' tc' M P1]++R)):=
 Calls.mono (Adh hS hM hn0 hs hxb) fun e w' q=>by rw [hcX,hcE,hcP] at q;exact q
theorem QT {w:World} {R:List Ch} {mx:Nat} {K:VolK} {ta:Option Addr} {tc:Nat} {M:MemM} {P:List PtM} {spare:Int} (hS:Sep w ([mtC mx K,txP K ta tc M P]++R)) (hM:M.V.length=23168) (hs:-9223372036854775808≤spare∧spare≤9223372036854775807) (hb:bE M P spare=0) :
  CallsR Tryz.prog 74 #[π mx,ν spare] w (fun v w'=>∃ ta' tc',v=.tuple #[ν (bN M P spare),ν 0]∧Sep w' ([mtC mx K,txP K ta' tc' M (bP M P spare)]++R)):=
 Calls.mono (SS hS hM hs) fun e w' q=>by rw [hb] at q;exact q
theorem Ms {w:World} {R:List Ch} {K:VolK} {ta:Option Addr} {tc:Nat} {M:MemM} {P:List PtM} {a:Option Addr} {c:Nat} {xs:List UInt8} {nm:Int} {q:PartT} (hS:Sep w (txP K ta tc M P::R)) (hr:Bj w a c xs) (hq:Bc 7 nm=some q) (he:stE M P 7 nm 64=0) (ha:GX q.a) (hx:xs.length=64) :
  CallsR Tryz.prog 75 #[pG K.tg,ν q.a,.slice a xs.length c] w (fun v w'=>∃ ta' tc',v=ν 0∧Sep w' (txP K ta' tc' M (stP M P 7 nm xs)::R)):=
 Calls.mono (TD hS hr ha ω) fun e w' z=>by
  have e1:MH M P q.a xs.length=0:=by unfold stE at he;rw [hq] at he;rw [hx];exact he
  have e2:stP M P 7 nm xs=KC M P q.a xs:=by unfold stP;rw [hq]
  rw [e1,← e2] at z;exact z
theorem Acu {w:World} {R:List Ch} {fx:Nat} {mx:Nat} {K:VolK} {ta:Option Addr} {tc:Nat} {M:MemM} {P:List PtM} {i sp:Int} {x y z:InoT} {n0:Nat} {S:List UInt8} {P1 P2:List PtM} (hS0:Sep w ([Ae fx 83 [π K.tg,π mx],Ae mx 103 [π K.tg],txP K ta tc M P]++R)) (hM:M.V.length=23168) (hS256:S.length≤256) (hsp:-9223372036854775808≤sp∧sp≤9223372036854775807) (hn0:CF (S.length:Int)=(n0:Int)) (hxb:∀ k,-9223372036854775808≤x.blk k∧x.blk k≤9223372036854775807) (hcX:Bz (szX x (S.length:Int)) n0 (4-n0)=y) (hcE:Lf M P (szX x (S.length:Int)) n0=0) (hcP:Lg M P (szX x (S.length:Int)) n0=P1) (hal:∀ k,k<n0→(alS M sp y P1 k).1.blk k=0→bE M (alS M sp y P1 k).2 sp=0) (hz:alS M sp y P1 n0=(z,P2)) (hfd:∀ k,k<n0→∃ q,Bc 7 (z.blk k)=some q) (hst:∀ k,k<n0→stE M (wrP M z (rzL S (n0*64)) P2 k) 7 (z.blk k) 64=0) :
  CallsR Tryz.prog 41 #[π fx,ν i,.agg (Ap x).toArray,σ S,ν sp] w (fun v w'=>∃ ta' tc',v=ν (Cc M (wrP M z (rzL S (n0*64)) P2 n0) i z)∧Sep w' ([Ae fx 83 [π K.tg,π mx],Ae mx 103 [π K.tg],txP K ta' tc' M (BE M (wrP M z (rzL S (n0*64)) P2 n0) i z)]++R)):=by
 have hS:Sep w [Ae fx 83 [π K.tg,π mx],Ae mx 103 [π K.tg],txP K ta tc M P,Ch.many R]:=Sep.tail_many (xs:=[_,_,_]) hS0;clear hS0
 have hn4:n0≤4:=KL hn0 ω
 have hrz:=KQ S (n0*64)
 refine AS Tryz.func41 rfl (N:=104) Tryz.ntmps41 (by show 5≤104;decide) [(0,π fx),(1,ν i),(2,.agg (Ap x).toArray),(3,σ S),(4,ν sp)] rfl fun _ h1=>sqr fun _ hK3=>so (wn rfl) fun _ hK1=>JB h1 rfl rfl rfl rfl rfl (z:=(Ap x)) rfl hS fun _ g4 w7 h5 s8 _ _=>hK1 _ _ ?_
 refine mv h5 rfl fun _ h2=>wpList_nil<|hK3 _ _ ?_
 refine wp_scope_straight ?_
 refine sqr fun _ hK2=>mv h2 rfl fun _ h3=>sv1 h3 rfl (v:=ν (S.length:Int)) (Ez h3 rfl rfl υ9) fun _ h4=>fav h4 rfl (fQ 2) fun _ h6=>st1 h6 s8 0 rfl rfl κ rfl rfl rfl rfl fun _ w2 h7 s1 _=>h7.sn [10,7,0,1,2,3,4] rfl fun h8=>hK2 _ _<|sqr fun _ hK4=>mv h8 rfl fun _ h9=>sw1 h9 rfl (v:=.agg (Ap (⟨x.k,x.l,(S.length:Int),x.b0,x.b1,x.b2,x.b3,x.o0,x.o1,x.o2,x.o3,x.o4,x.o5,x.o6,x.o7⟩:InoT)).toArray) (rld h9 rfl rfl (ldA υ45 rfl (n:=15) κ (s1.get 0 rfl:Blk _ _ _ _) rfl rfl)) fun _ h10=>?_
 refine cl h10 rfl (cF Tryz.func73) (Wj (x:=(szX x (S.length:Int))) (s1.pk [1,2,3,0,4] rfl) hM hn0 (by show 0≤(S.length:Int)∧(S.length:Int)≤256;omega) hxb hcX hcE hcP) fun _ v1 w3 r1 h11=>?_
 obtain ⟨tax33,tcx34,rfl,s2⟩:=r1
 refine mvs 3 h11 rfl fun _ h12=>stA h12 s2 3 rfl rfl rfl κ rfl rfl rfl rfl fun _ w4 h13 s3 _=>mv h13 rfl fun _ h14=>h14.sn [11,10,7,0,1,2,3,4] rfl fun h15=>hK4 _ _<|sq fun _ hK5=>sqr fun _ hK6=>mv h15 rfl fun _ h16=>bv h16 (z:=.bool false) rfl (cNe _ _ _ _ rfl) fun _ h17=>h17.sn [28,11,10,7,0,1,2,3,4] rfl fun h18=>hK6 _ _ ?_
 refine wcF h18 rfl rfl<|h18.sk [11,10,7,0,1,2,3,4] rfl fun h19=>wp_skip<|hK5 _ _<|sqr fun _ hK7=>mv h19 rfl fun _ h20=>sv1 h20 rfl (v:=ν (S.length:Int)) (Ez h20 rfl rfl υ9) fun _ h21=>cl h21 rfl (cF Tryz.func17) (ID s3 hn0 ω) fun _ v2 w5 r2 h22=>?_
 obtain ⟨rfl,s4⟩:=r2
 refine mv h22 rfl fun _ h23=>h23.sn [12,11,10,7,0,1,2,3,4] rfl fun h24=>hK7 _ _<|sq fun _ hK8=>wp_label ?_
 refine hK8 _ _ ?_
 refine sq fun _ hK9=>sqr fun _ hK10=>mv h24 rfl fun _ h25=>wpList_nil<|hK10 _ _<|wp_block ?_
 refine MB (fun (k:Nat) (ta2:Option Addr) (tc2:Nat) a' w'=>Kn 104 [(33,ν (k:Int)),(12,ν (n0:Int)),(10,ν 0),(7,π g4),(0,π fx),(1,ν i),(2,.agg (Ap x).toArray),(3,σ S),(4,ν sp)] a'∧Sep w' [Ae fx 83 [π K.tg,π mx],Ae mx 103 [π K.tg],txP K ta2 tc2 M ((alS M sp y P1 k).2),Ae g4 45 (Ap ((alS M sp y P1 k).1)),Ch.many R]∧(k≤n0)) (fun (k:Nat) (ta2:Option Addr) (tc2:Nat)=>4-k) 0 tax33 tcx34 ⟨h25.subs rfl,s4,Nat.zero_le _⟩ ?_
 rintro k1 ta292 tc293 a1 w6 ⟨h26,s5,hk90⟩ K1 hK11
 refine sqr fun _ hK12=>bv h26 (z:=.bool (decide ((k1:Int)<4))) rfl (cLt _ _ _ _ rfl) fun _ h27=>wpList_nil<|hK12 _ _<|sq fun _ hK13=>?_
 rcases bC (decide ((k1:Int)<4)) with hc1 | hc1
 ·skip
  have hp1:(k1:Int)<4:=(dT hc1)
  refine wcT h27 rfl hc1<|h27.sk [33,12,10,7,0,1,2,3,4] rfl fun h28=>wp_skip<|hK13 _ _<|sq fun _ hK14=>wp_block ?_
  refine sqr fun _ hK15=>mvs 2 h28 rfl fun _ h29=>h29.sn [13,33,12,10,7,0,1,2,3,4] rfl fun h30=>hK15 _ _<|sq fun _ hK16=>wp_block ?_
  refine sqr fun _ hK17=>mvs 2 h30 rfl fun _ h31=>bv h31 (z:=.bool (decide ((k1:Int)=(n0:Int)))) rfl (cEq _ _ _ _ rfl) fun _ h32=>mv h32 rfl fun _ h33=>h33.sn [36,13,33,12,10,7,0,1,2,3,4] rfl fun h34=>hK17 _ _ ?_
  rcases bC (decide ((k1:Int)=(n0:Int))) with hc2 | hc2
  ·skip
   have hp2:(k1:Int)=(n0:Int):=(dT hc2)
   refine wcT h34 rfl hc2<|h34.sk [13,33,12,10,7,0,1,2,3,4] rfl fun h35=>wp_exit ?_
   refine hK9 _ _ ?_
   refine sqr fun _ hK18=>mvs 2 h35 rfl fun _ h36=>bv h36 (z:=ν ((n0:Int)*64)) rfl (QR _ _ _ ω ω ω) fun _ h37=>cl h37 rfl (cF Tryz.func58) (FD (L:=S) (n:=(n0*64)) (i:=(n0:Int)*64) s5 (by first | rfl | omega) ω ω) fun _ v3 w8 r3 h38=>?_
   obtain ⟨rfl,s6⟩:=r3
   refine h38.sk [65,64,63,62,13,33,12,10,7,0,1,2,4] rfl fun h39=>mv h39 rfl fun _ h40=>h40.sn [3,13,33,12,10,7,0,1,2,4] rfl fun h41=>hK18 _ _<|sq fun _ hK19=>sqr fun _ hK20=>mvs 2 h41 rfl fun _ h42=>wpList_nil<|hK20 _ _<|wp_block ?_
   have hk9:k1=n0:=ω
   refine MB (fun (k:Nat) (ta2:Option Addr) (tc2:Nat) a' w'=>Kn 104 [(67,ν (k:Int)),(66,ν (n0:Int)),(3,σ (rzL S (n0*64))),(13,ν (k1:Int)),(33,ν (k1:Int)),(12,ν (n0:Int)),(10,ν 0),(7,π g4),(0,π fx),(1,ν i),(2,.agg (Ap x).toArray),(4,ν sp)] a'∧Sep w' [Ae fx 83 [π K.tg,π mx],Ae mx 103 [π K.tg],txP K ta2 tc2 M (wrP M z (rzL S (n0*64)) P2 k),Ae g4 45 (Ap z),Ch.many R]∧(k≤n0)) (fun (k:Nat) (ta2:Option Addr) (tc2:Nat)=>n0-k) 0 ta292 tc293 ⟨h42.subs rfl,(show Sep _ [Ae fx 83 [π K.tg,π mx],Ae mx 103 [π K.tg],txP K ta292 tc293 M (wrP M z (rzL S (n0*64)) P2 0),Ae g4 45 (Ap z),Ch.many R] from by have z9:=s6;rw [hk9,hz] at z9;exact z9),Nat.zero_le _⟩ ?_
   rintro k2 ta2153 tc2154 a2 w9 ⟨h43,s7,hk151⟩ K2 hK21
   refine sqr fun _ hK22=>bv h43 (z:=.bool (decide ((k2:Int)<(n0:Int)))) rfl (cLt _ _ _ _ rfl) fun _ h44=>wpList_nil<|hK22 _ _<|sq fun _ hK23=>?_
   rcases bC (decide ((k2:Int)<(n0:Int))) with hc3 | hc3
   ·skip
    have hp3:(k2:Int)<(n0:Int):=(dT hc3)
    refine wcT h44 rfl hc3<|h44.sk [67,66,3,13,33,12,10,7,0,1,2,4] rfl fun h45=>wp_skip<|hK23 _ _<|sq fun _ hK24=>wp_block ?_
    refine sqr fun _ hK25=>mvs 2 h45 rfl fun _ h46=>h46.sn [14,67,66,3,13,33,12,10,7,0,1,2,4] rfl fun h47=>hK25 _ _<|sqr fun _ hK26=>mv h47 rfl fun _ h48=>fav h48 rfl (fQ 3) fun _ h49=>sv1 h49 rfl (v:=.pointer (some ⟨g4,3+k2,none⟩)) (CC h49 rfl rfl rfl (fun w=>Lz g4 k2 ω ω w)) fun _ h50=>sw1 h50 rfl (v:=ν (z.blk k2)) (rld h50 rfl rfl (ldB υ3 rfl (s7.get 3 rfl:Blk _ _ _ _) (Er z ω))) fun _ h51=>?_
    obtain ⟨q178,hq1⟩:=hfd k2 ω
    have hq179i:=Ds hq1
    have hcb9:=GE hrz (ω:k2<n0)
    refine cl h51 rfl (cF Tryz.func34) (Br s7 (IY (k:=q178.k) (n:=q178.n) (a:=q178.a) (s:=q178.s) hq1 _)) fun _ v4 w10 r4 h52=>?_
    obtain ⟨rfl,s9⟩:=r4
    refine mvs 3 h52 rfl fun _ h53=>so (wn rfl) fun _ hK27=>AV h53 rfl rfl rfl rfl (z:=[ν 0,ν 0,ν 0,ν 0]) (fun _=>rfl) s9 fun _ g1 w11 h54 s10 _ _=>hK27 _ _ ?_
    refine stA h54 s10 0 rfl rfl rfl κ rfl rfl rfl rfl fun _ w12 h55 s11 _=>mv h55 rfl fun _ h56=>h56.sn [15,14,67,66,3,13,33,12,10,7,0,1,2,4] rfl fun h57=>hK26 _ _<|sq fun _ hK28=>?_
    have s12:=s11.drew
    refine wp_region_held_drew (S:=fun w'=>Sep w' [Ae g1 78 [ν q178.k,ν q178.n,ν q178.a,ν q178.s],Ae fx 83 [π K.tg,π mx],Ae mx 103 [π K.tg],Ae g4 45 (Ap z),Ch.many R]) κ (s12.pk [0,1,2,4,5] rfl) (fun hq2=>?_)
    refine tv1 hq2 h57 0 rfl rfl (v:=π fx) (fun w1 _=>(AA h57 rfl rfl) w1) fun _ h58=>?_
    refine tv1 hq2 h58 1 rfl rfl (v:=π fx) (fun w1 _=>(ML h58 rfl rfl) w1) fun _ h59=>?_
    refine tv1 hq2 h59 2 rfl rfl (v:=π fx) (fun w1 _=>(rfa h59 rfl rfl (fQ 0)) w1) fun _ h60=>?_
    refine tv1 hq2 h60 3 rfl rfl (v:=π K.tg) (fun w1 hSw=>(rld h60 rfl rfl (ldB υ30 rfl (hSw.get 1 rfl:Blk _ _ _ _) rfl))) fun _ h61=>?_
    refine tv1 hq2 h61 4 rfl rfl (v:=.pointer (some ⟨g1,2,none⟩)) (fun w1 _=>(rfa h61 rfl rfl (fQ 2)) w1) fun _ h62=>?_
    refine tv1 hq2 h62 5 rfl rfl (v:=ν q178.a) (fun w1 hSw=>(rld h62 rfl rfl (ldB υ3 rfl (hSw.get 0 rfl:Blk _ _ _ _) rfl))) fun _ h63=>?_
    refine tv1 hq2 h63 6 rfl rfl (v:=σ (rzL S (n0*64))) (fun w1 _=>(AA h63 rfl rfl) w1) fun _ h64=>?_
    refine tv1 hq2 h64 7 rfl rfl (v:=ν (k2:Int)) (fun w1 _=>(AA h64 rfl rfl) w1) fun _ h65=>?_
    refine tv1 hq2 h65 8 rfl rfl (v:=ν ((k2:Int)*64)) (fun w1 _=>(BD h65 rfl rfl rfl (QR _ _ _ ω ω ω)) w1) fun _ h66=>?_
    refine tv1 hq2 h66 9 rfl rfl (v:=ν (k2:Int)) (fun w1 _=>(AA h66 rfl rfl) w1) fun _ h67=>?_
    refine tv1 hq2 h67 10 rfl rfl (v:=ν ((k2+1:Nat):Int)) (fun w1 _=>(BD h67 rfl rfl rfl (Dw _ _ _ ω ω ω)) w1) fun _ h68=>?_
    refine tv1 hq2 h68 11 rfl rfl (v:=ν (((k2+1:Nat):Int)*64)) (fun w1 _=>(BD h68 rfl rfl rfl (QR _ _ _ ω ω ω)) w1) fun _ h69=>?_
    refine tv1 hq2 h69 12 rfl rfl (v:=σ (((rzL S (n0*64)).take ((((k2+1:Nat):Int)*64).toNat)).drop (((k2:Int)*64).toNat))) (fun w1 _=>(Qg h69 rfl rfl (vl:=(some (ν ((k2:Int)*64)))) (vh:=(some (ν (((k2+1:Nat):Int)*64)))) rfl rfl (fun w=>(slT 9 υ9 (rzL S (n0*64)) (a:=((k2:Int)*64).toNat) (b:=(((k2+1:Nat):Int)*64).toNat) (.inr ⟨_,rfl,ω⟩) (.inr ⟨_,rfl,ω⟩) ω ω) w)) w1) fun _ h70=>?_
    refine to_ 13 rfl (wn rfl) κ fun _ hK29=>TJ h70 rfl rfl rfl rfl (X:=((rzL S (n0*64)).take ((((k2+1:Nat):Int)*64).toNat)).drop (((k2:Int)*64).toNat)) rfl υ9 υ74 υ5 (by unfold maxLen;omega) s12 fun _ g2 c241 w13 h71 s13=>?_
    refine hK29 _ _ (s13.pk [1,2,3,5,6] rfl) fun hq3=>?_
    refine to_ 14 rfl (wn rfl) κ fun _ hK30=>BM h71 rfl rfl rfl (xs:=[.tmp 81,.tmp 83,.tmp 91]) rfl (cF Tryz.func75) rfl (vs:=[π K.tg,ν q178.a,.slice (some ⟨g2,0,none⟩) ((((rzL S (n0*64)).take ((((k2+1:Nat):Int)*64).toNat)).drop (((k2:Int)*64).toNat)).length) c241]) rfl (args:=#[π K.tg,ν q178.a,.slice (some ⟨g2,0,none⟩) ((((rzL S (n0*64)).take ((((k2+1:Nat):Int)*64).toNat)).drop (((k2:Int)*64).toNat)).length) c241]) rfl (Ms (xs:=((rzL S (n0*64)).take ((((k2+1:Nat):Int)*64).toNat)).drop (((k2:Int)*64).toNat)) (s13.pk [4,0,1,2,3,5,6] rfl) (s13.get 0 rfl:Bj _ _ _ _∧_).1 hq1 (by have z9:=hst k2 ω;exact z9) (by unfold GX;omega) (GE hrz ω)) fun _ v5 w14 r5 h72=>?_
    obtain ⟨tax248,tcx249,rfl,s14⟩:=r5
    refine hK30 _ _ (s14.pk [2,3,4,5,6] rfl) fun hq4=>?_
    refine tv1 hq4 h72 15 rfl rfl (v:=ν 0) (fun w1 _=>(BJ h72 rfl rfl) w1) fun _ h73=>?_
    refine h73.sk [17,15,14,67,66,3,13,33,12,10,7,0,1,2,4] rfl fun h74=>?_
    refine wpAnyH_done κ ?_ _
    refine hK28 _ _ ?_
    refine sqr fun _ hK31=>mv h74 rfl fun _ h75=>bv h75 (z:=.bool false) rfl (cNe _ _ _ _ rfl) fun _ h76=>h76.sn [94,17,15,14,67,66,3,13,33,12,10,7,0,1,2,4] rfl fun h77=>hK31 _ _<|wcF h77 rfl rfl<|h77.sk [17,15,14,67,66,3,13,33,12,10,7,0,1,2,4] rfl fun h78=>wp_skip<|hK24 _ _<|wp_region_lit<|bv h78 (z:=ν ((k2+1:Nat):Int)) rfl (Dw _ _ _ ω ω ω) fun _ h79=>?_
    refine h79.sk [96,17,15,14,66,3,13,33,12,10,7,0,1,2,4] rfl fun h80=>mv h80 rfl fun _ h81=>h81.sk [67,17,15,14,66,3,13,33,12,10,7,0,1,2,4] rfl fun h82=>wpList_nil ?_
    exact hK21 (k2+1) tax248 tcx249 _ _ ⟨h82.subs rfl,(s14.pk [3,4,0,5,6] rfl),ω⟩ ω
   ·skip
    have hp4:¬ ((k2:Int)<(n0:Int)):=(dF hc3)
    refine wcF h44 rfl hc3<|h44.sk [67,66,3,13,33,12,10,7,0,1,2,4] rfl fun h83=>wp_exit ?_
    refine hK19 _ _ ?_
    refine sq fun _ hK32=>?_
    have s15:=s7.drew
    refine wp_region_held_drew (S:=fun w'=>Sep w' [Ae fx 83 [π K.tg,π mx],Ae mx 103 [π K.tg],Ae g4 45 (Ap z),Ch.many R]) κ (s15.pk [0,1,3,4] rfl) (fun hq5=>?_)
    refine tv1 hq5 h83 0 rfl rfl (v:=π fx) (fun w1 _=>(AA h83 rfl rfl) w1) fun _ h84=>?_
    refine tv1 hq5 h84 1 rfl rfl (v:=π fx) (fun w1 _=>(ML h84 rfl rfl) w1) fun _ h85=>?_
    refine tv1 hq5 h85 2 rfl rfl (v:=.pointer (some ⟨fx,1,none⟩)) (fun w1 _=>(rfa h85 rfl rfl (fQ 1)) w1) fun _ h86=>?_
    refine tv1 hq5 h86 3 rfl rfl (v:=π mx) (fun w1 hSw=>(rld h86 rfl rfl (ldB υ31 rfl (hSw.get 0 rfl:Blk _ _ _ _) rfl))) fun _ h87=>?_
    refine tv1 hq5 h87 4 rfl rfl (v:=ν i) (fun w1 _=>(AA h87 rfl rfl) w1) fun _ h88=>?_
    refine tv1 hq5 h88 5 rfl rfl (v:=.agg (Ap z).toArray) (fun w1 hSw=>(rld h88 rfl rfl (ldA υ45 rfl (n:=15) κ (hSw.get 2 rfl:Blk _ _ _ _) rfl rfl))) fun _ h89=>?_
    refine to_ 6 rfl (wn rfl) κ fun _ hK33=>BM h89 rfl rfl rfl (xs:=[.tmp 100,.tmp 101,.tmp 102]) rfl (cF Tryz.func47) rfl (vs:=[π mx,ν i,.agg (Ap z).toArray]) rfl (args:=#[π mx,ν i,.agg (Ap z).toArray]) rfl (Ek (i:=i) (x:=z) (s15.pk [1,2,0,3,4] rfl) hM) fun _ v6 w15 r6 h90=>?_
    obtain ⟨tax291,tcx292,rfl,s16⟩:=r6
    refine hK33 _ _ (s16.pk [2,0,3,4] rfl) fun hq6=>h90.sk [103,102,101,100,99,98,97,67,66,3,13,33,12,7,0,1,2,4] rfl fun h91=>?_
    refine tv1 hq6 h91 7 rfl rfl (v:=ν (Cc M (wrP M z (rzL S (n0*64)) P2 k2) i z)) (fun w1 _=>(BJ h91 rfl rfl) w1) fun _ h92=>?_
    refine h92.sk [10,67,66,3,13,33,12,7,0,1,2,4] rfl fun h93=>?_
    refine wpAnyH_done κ ?_ _
    refine hK32 _ _ ?_
    refine wp_ret ?_
    try simp only [Exit.then,Exit.inBlock,Exit.noGoto]
    refine BC (v:=ν (Cc M (wrP M z (rzL S (n0*64)) P2 k2) i z)) (Dd h93 rfl rfl) h93.defs ?_
    obtain rfl:n0=k2:=ω
    exact ⟨tax291,tcx292,rfl,Sep.tail_un (xs:=[_,_,_]) (s16.pk [2,0,1,4] rfl)⟩
  ·skip
   have hp5:¬ ((k1:Int)=(n0:Int)):=(dF hc2)
   refine wcF h34 rfl hc2<|h34.sk [13,33,12,10,7,0,1,2,3,4] rfl fun h94=>sqr fun _ hK34=>mv h94 rfl fun _ h95=>fav h95 rfl (fQ 3) fun _ h96=>sv1 h96 rfl (v:=.pointer (some ⟨g4,3+k1,none⟩)) (CC h96 rfl rfl rfl (fun w=>Lz g4 k1 ω ω w)) fun _ h97=>sw1 h97 rfl (v:=ν (((alS M sp y P1 k1).1).blk k1)) (rld h97 rfl rfl (ldB υ3 rfl (s5.get 3 rfl:Blk _ _ _ _) (Er ((alS M sp y P1 k1).1) ω))) fun _ h98=>bv h98 (z:=.bool (decide (((alS M sp y P1 k1).1).blk k1≠0))) rfl (cNe _ _ _ _ rfl) fun _ h99=>mv h99 rfl fun _ h100=>h100.sk [40,13,33,12,10,7,0,1,2,3,4] rfl fun h101=>?_
   refine wpList_nil<|hK34 _ _ ?_
   rcases bC (decide (((alS M sp y P1 k1).1).blk k1≠0)) with hc4 | hc4
   ·skip
    have hp6:((alS M sp y P1 k1).1).blk k1≠0:=(dT hc4)
    refine wcT h101 rfl hc4<|h101.sk [13,33,12,10,7,0,1,2,3,4] rfl fun h102=>wp_exit ?_
    refine hK14 _ _ ?_
    refine wp_region_lit<|bv h102 (z:=ν ((k1+1:Nat):Int)) rfl (Dw _ _ _ ω ω ω) fun _ h103=>h103.sk [61,13,12,10,7,0,1,2,3,4] rfl fun h104=>mv h104 rfl fun _ h105=>h105.sk [33,13,12,10,7,0,1,2,3,4] rfl fun h106=>wpList_nil ?_
    have ha9:=Aet (M:=M) (sp:=sp) (x:=y) (P:=P1) (k:=k1) ω
    exact hK11 (k1+1) ta292 tc293 _ _ ⟨h106.subs rfl,(by rw [ha9];exact s5),ω⟩ ω
   ·skip
    have hp7:¬ (((alS M sp y P1 k1).1).blk k1≠0):=(dF hc4)
    refine wcF h101 rfl hc4<|h101.sk [13,33,12,10,7,0,1,2,3,4] rfl fun h107=>wp_skip<|hK16 _ _<|sqr fun _ hK35=>mvs 3 h107 rfl fun _ h108=>fav h108 rfl (fQ 1) fun _ h109=>ldv h109 s5 0 υ31 rfl rfl rfl rfl fun _ h110=>mv h110 rfl fun _ h111=>?_
    have hb344:=hal k1 ω ω
    refine cl h111 rfl (cF Tryz.func74) (QT (spare:=sp) (s5.pk [1,2,0,3,4] rfl) hM ω hb344) fun _ v7 w16 r7 h112=>?_
    obtain ⟨tax345,tcx346,rfl,s17⟩:=r7
    refine mvs 3 h112 rfl fun _ h113=>fav h113 rfl (fQ 3) fun _ h114=>sv1 h114 rfl (v:=.pointer (some ⟨g4,3+k1,none⟩)) (CC h114 rfl rfl rfl (fun w=>Lz g4 k1 ω ω w)) fun _ h115=>so (wn rfl) fun _ hK36=>FQ h115 rfl rfl s17 3 rfl rfl rfl [ν (bN M (alS M sp y P1 k1).2 sp)] rfl κ rfl (by show 3+k1+1≤15;omega) (L':=Ap (((alS M sp y P1 k1).1).setB k1 (bN M (alS M sp y P1 k1).2 sp))) (JP ((alS M sp y P1 k1).1) ω) (cs':=[Ae mx 103 [π K.tg],txP K tax345 tcx346 M (bP M (alS M sp y P1 k1).2 sp),Ae fx 83 [π K.tg,π mx],Ae g4 45 (Ap (((alS M sp y P1 k1).1).setB k1 (bN M (alS M sp y P1 k1).2 sp))),Ch.many R]) rfl fun _ w17 h116 s18 _=>hK36 _ _ ?_
    refine mv h116 rfl fun _ h117=>h117.sn [11,13,33,12,10,7,0,1,2,3,4] rfl fun h118=>hK35 _ _<|sqr fun _ hK37=>mv h118 rfl fun _ h119=>bv h119 (z:=.bool false) rfl (cNe _ _ _ _ rfl) fun _ h120=>h120.sn [59,11,13,33,12,10,7,0,1,2,3,4] rfl fun h121=>hK37 _ _<|wcF h121 rfl rfl<|h121.sk [11,13,33,12,10,7,0,1,2,3,4] rfl fun h122=>?_
    refine wp_skip<|hK14 _ _<|wp_region_lit<|bv h122 (z:=ν ((k1+1:Nat):Int)) rfl (Dw _ _ _ ω ω ω) fun _ h123=>h123.sk [61,11,13,12,10,7,0,1,2,3,4] rfl fun h124=>mv h124 rfl fun _ h125=>h125.sk [33,11,13,12,10,7,0,1,2,3,4] rfl fun h126=>wpList_nil ?_
    have ha9:=Ac5 (M:=M) (sp:=sp) (x:=y) (P:=P1) (k:=k1) ω
    exact hK11 (k1+1) tax345 tcx346 _ _ ⟨h126.subs rfl,(by rw [ha9];exact (s18.pk [2,0,1,3,4] rfl)),ω⟩ ω
 ·skip
  have hp8:¬ ((k1:Int)<4):=(dF hc1)
  refine wcF h27 rfl hc1<|h27.sk [33,12,10,7,0,1,2,3,4] rfl fun h127=>wp_exit ?_
  refine hK9 _ _ ?_
  refine sqr fun _ hK38=>mvs 2 h127 rfl fun _ h128=>bv h128 (z:=ν ((n0:Int)*64)) rfl (QR _ _ _ ω ω ω) fun _ h129=>cl h129 rfl (cF Tryz.func58) (FD (L:=S) (n:=(n0*64)) (i:=(n0:Int)*64) s5 (by first | rfl | omega) ω ω) fun _ v8 w18 r8 h130=>?_
  obtain ⟨rfl,s19⟩:=r8
  refine h130.sk [65,64,63,62,33,12,10,7,0,1,2,4] rfl fun h131=>mv h131 rfl fun _ h132=>h132.sn [3,33,12,10,7,0,1,2,4] rfl fun h133=>hK38 _ _<|sq fun _ hK39=>sqr fun _ hK40=>mvs 2 h133 rfl fun _ h134=>wpList_nil<|hK40 _ _<|wp_block ?_
  have hk9:k1=n0:=ω
  refine MB (fun (k:Nat) (ta2:Option Addr) (tc2:Nat) a' w'=>Kn 104 [(67,ν (k:Int)),(66,ν (n0:Int)),(3,σ (rzL S (n0*64))),(33,ν (k1:Int)),(12,ν (n0:Int)),(10,ν 0),(7,π g4),(0,π fx),(1,ν i),(2,.agg (Ap x).toArray),(4,ν sp)] a'∧Sep w' [Ae fx 83 [π K.tg,π mx],Ae mx 103 [π K.tg],txP K ta2 tc2 M (wrP M z (rzL S (n0*64)) P2 k),Ae g4 45 (Ap z),Ch.many R]∧(k≤n0)) (fun (k:Nat) (ta2:Option Addr) (tc2:Nat)=>n0-k) 0 ta292 tc293 ⟨h134.subs rfl,(show Sep _ [Ae fx 83 [π K.tg,π mx],Ae mx 103 [π K.tg],txP K ta292 tc293 M (wrP M z (rzL S (n0*64)) P2 0),Ae g4 45 (Ap z),Ch.many R] from by have z9:=s19;rw [hk9,hz] at z9;exact z9),Nat.zero_le _⟩ ?_
  rintro k3 ta2419 tc2420 a3 w19 ⟨h135,s20,hk417⟩ K3 hK41
  refine sqr fun _ hK42=>bv h135 (z:=.bool (decide ((k3:Int)<(n0:Int)))) rfl (cLt _ _ _ _ rfl) fun _ h136=>wpList_nil<|hK42 _ _<|sq fun _ hK43=>?_
  rcases bC (decide ((k3:Int)<(n0:Int))) with hc5 | hc5
  ·skip
   have hp9:(k3:Int)<(n0:Int):=(dT hc5)
   refine wcT h136 rfl hc5<|h136.sk [67,66,3,33,12,10,7,0,1,2,4] rfl fun h137=>wp_skip<|hK43 _ _<|sq fun _ hK44=>wp_block ?_
   refine sqr fun _ hK45=>mvs 2 h137 rfl fun _ h138=>h138.sn [14,67,66,3,33,12,10,7,0,1,2,4] rfl fun h139=>hK45 _ _<|sqr fun _ hK46=>mv h139 rfl fun _ h140=>fav h140 rfl (fQ 3) fun _ h141=>sv1 h141 rfl (v:=.pointer (some ⟨g4,3+k3,none⟩)) (CC h141 rfl rfl rfl (fun w=>Lz g4 k3 ω ω w)) fun _ h142=>sw1 h142 rfl (v:=ν (z.blk k3)) (rld h142 rfl rfl (ldB υ3 rfl (s20.get 3 rfl:Blk _ _ _ _) (Er z ω))) fun _ h143=>?_
   obtain ⟨q444,hq7⟩:=hfd k3 ω
   have hq445i:=Ds hq7
   have hcb9:=GE hrz (ω:k3<n0)
   refine cl h143 rfl (cF Tryz.func34) (Br s20 (IY (k:=q444.k) (n:=q444.n) (a:=q444.a) (s:=q444.s) hq7 _)) fun _ v9 w20 r9 h144=>?_
   obtain ⟨rfl,s21⟩:=r9
   refine mvs 3 h144 rfl fun _ h145=>so (wn rfl) fun _ hK47=>AV h145 rfl rfl rfl rfl (z:=[ν 0,ν 0,ν 0,ν 0]) (fun _=>rfl) s21 fun _ g3 w21 h146 s22 _ _=>hK47 _ _ ?_
   refine stA h146 s22 0 rfl rfl rfl κ rfl rfl rfl rfl fun _ w22 h147 s23 _=>mv h147 rfl fun _ h148=>h148.sn [15,14,67,66,3,33,12,10,7,0,1,2,4] rfl fun h149=>hK46 _ _<|sq fun _ hK48=>?_
   have s24:=s23.drew
   refine wp_region_held_drew (S:=fun w'=>Sep w' [Ae g3 78 [ν q444.k,ν q444.n,ν q444.a,ν q444.s],Ae fx 83 [π K.tg,π mx],Ae mx 103 [π K.tg],Ae g4 45 (Ap z),Ch.many R]) κ (s24.pk [0,1,2,4,5] rfl) (fun hq8=>?_)
   refine tv1 hq8 h149 0 rfl rfl (v:=π fx) (fun w1 _=>(AA h149 rfl rfl) w1) fun _ h150=>?_
   refine tv1 hq8 h150 1 rfl rfl (v:=π fx) (fun w1 _=>(ML h150 rfl rfl) w1) fun _ h151=>?_
   refine tv1 hq8 h151 2 rfl rfl (v:=π fx) (fun w1 _=>(rfa h151 rfl rfl (fQ 0)) w1) fun _ h152=>?_
   refine tv1 hq8 h152 3 rfl rfl (v:=π K.tg) (fun w1 hSw=>(rld h152 rfl rfl (ldB υ30 rfl (hSw.get 1 rfl:Blk _ _ _ _) rfl))) fun _ h153=>?_
   refine tv1 hq8 h153 4 rfl rfl (v:=.pointer (some ⟨g3,2,none⟩)) (fun w1 _=>(rfa h153 rfl rfl (fQ 2)) w1) fun _ h154=>?_
   refine tv1 hq8 h154 5 rfl rfl (v:=ν q444.a) (fun w1 hSw=>(rld h154 rfl rfl (ldB υ3 rfl (hSw.get 0 rfl:Blk _ _ _ _) rfl))) fun _ h155=>?_
   refine tv1 hq8 h155 6 rfl rfl (v:=σ (rzL S (n0*64))) (fun w1 _=>(AA h155 rfl rfl) w1) fun _ h156=>?_
   refine tv1 hq8 h156 7 rfl rfl (v:=ν (k3:Int)) (fun w1 _=>(AA h156 rfl rfl) w1) fun _ h157=>?_
   refine tv1 hq8 h157 8 rfl rfl (v:=ν ((k3:Int)*64)) (fun w1 _=>(BD h157 rfl rfl rfl (QR _ _ _ ω ω ω)) w1) fun _ h158=>?_
   refine tv1 hq8 h158 9 rfl rfl (v:=ν (k3:Int)) (fun w1 _=>(AA h158 rfl rfl) w1) fun _ h159=>?_
   refine tv1 hq8 h159 10 rfl rfl (v:=ν ((k3+1:Nat):Int)) (fun w1 _=>(BD h159 rfl rfl rfl (Dw _ _ _ ω ω ω)) w1) fun _ h160=>?_
   refine tv1 hq8 h160 11 rfl rfl (v:=ν (((k3+1:Nat):Int)*64)) (fun w1 _=>(BD h160 rfl rfl rfl (QR _ _ _ ω ω ω)) w1) fun _ h161=>?_
   refine tv1 hq8 h161 12 rfl rfl (v:=σ (((rzL S (n0*64)).take ((((k3+1:Nat):Int)*64).toNat)).drop (((k3:Int)*64).toNat))) (fun w1 _=>(Qg h161 rfl rfl (vl:=(some (ν ((k3:Int)*64)))) (vh:=(some (ν (((k3+1:Nat):Int)*64)))) rfl rfl (fun w=>(slT 9 υ9 (rzL S (n0*64)) (a:=((k3:Int)*64).toNat) (b:=(((k3+1:Nat):Int)*64).toNat) (.inr ⟨_,rfl,ω⟩) (.inr ⟨_,rfl,ω⟩) ω ω) w)) w1) fun _ h162=>?_
   refine to_ 13 rfl (wn rfl) κ fun _ hK49=>TJ h162 rfl rfl rfl rfl (X:=((rzL S (n0*64)).take ((((k3+1:Nat):Int)*64).toNat)).drop (((k3:Int)*64).toNat)) rfl υ9 υ74 υ5 (by unfold maxLen;omega) s24 fun _ g5 c507 w23 h163 s25=>?_
   refine hK49 _ _ (s25.pk [1,2,3,5,6] rfl) fun hq9=>?_
   refine to_ 14 rfl (wn rfl) κ fun _ hK50=>BM h163 rfl rfl rfl (xs:=[.tmp 81,.tmp 83,.tmp 91]) rfl (cF Tryz.func75) rfl (vs:=[π K.tg,ν q444.a,.slice (some ⟨g5,0,none⟩) ((((rzL S (n0*64)).take ((((k3+1:Nat):Int)*64).toNat)).drop (((k3:Int)*64).toNat)).length) c507]) rfl (args:=#[π K.tg,ν q444.a,.slice (some ⟨g5,0,none⟩) ((((rzL S (n0*64)).take ((((k3+1:Nat):Int)*64).toNat)).drop (((k3:Int)*64).toNat)).length) c507]) rfl (Ms (xs:=((rzL S (n0*64)).take ((((k3+1:Nat):Int)*64).toNat)).drop (((k3:Int)*64).toNat)) (s25.pk [4,0,1,2,3,5,6] rfl) (s25.get 0 rfl:Bj _ _ _ _∧_).1 hq7 (by have z9:=hst k3 ω;exact z9) (by unfold GX;omega) (GE hrz ω)) fun _ v10 w24 r10 h164=>?_
   obtain ⟨tax514,tcx515,rfl,s26⟩:=r10
   refine hK50 _ _ (s26.pk [2,3,4,5,6] rfl) fun hq10=>?_
   refine tv1 hq10 h164 15 rfl rfl (v:=ν 0) (fun w1 _=>(BJ h164 rfl rfl) w1) fun _ h165=>?_
   refine h165.sk [17,15,14,67,66,3,33,12,10,7,0,1,2,4] rfl fun h166=>?_
   refine wpAnyH_done κ ?_ _
   refine hK48 _ _ ?_
   refine sqr fun _ hK51=>mv h166 rfl fun _ h167=>bv h167 (z:=.bool false) rfl (cNe _ _ _ _ rfl) fun _ h168=>h168.sn [94,17,15,14,67,66,3,33,12,10,7,0,1,2,4] rfl fun h169=>hK51 _ _<|wcF h169 rfl rfl<|h169.sk [17,15,14,67,66,3,33,12,10,7,0,1,2,4] rfl fun h170=>wp_skip<|hK44 _ _<|wp_region_lit<|bv h170 (z:=ν ((k3+1:Nat):Int)) rfl (Dw _ _ _ ω ω ω) fun _ h171=>?_
   refine h171.sk [96,17,15,14,66,3,33,12,10,7,0,1,2,4] rfl fun h172=>mv h172 rfl fun _ h173=>h173.sk [67,17,15,14,66,3,33,12,10,7,0,1,2,4] rfl fun h174=>wpList_nil ?_
   exact hK41 (k3+1) tax514 tcx515 _ _ ⟨h174.subs rfl,(s26.pk [3,4,0,5,6] rfl),ω⟩ ω
  ·skip
   have hp10:¬ ((k3:Int)<(n0:Int)):=(dF hc5)
   refine wcF h136 rfl hc5<|h136.sk [67,66,3,33,12,10,7,0,1,2,4] rfl fun h175=>wp_exit ?_
   refine hK39 _ _ ?_
   refine sq fun _ hK52=>?_
   have s27:=s20.drew
   refine wp_region_held_drew (S:=fun w'=>Sep w' [Ae fx 83 [π K.tg,π mx],Ae mx 103 [π K.tg],Ae g4 45 (Ap z),Ch.many R]) κ (s27.pk [0,1,3,4] rfl) (fun hq11=>?_)
   refine tv1 hq11 h175 0 rfl rfl (v:=π fx) (fun w1 _=>(AA h175 rfl rfl) w1) fun _ h176=>?_
   refine tv1 hq11 h176 1 rfl rfl (v:=π fx) (fun w1 _=>(ML h176 rfl rfl) w1) fun _ h177=>?_
   refine tv1 hq11 h177 2 rfl rfl (v:=.pointer (some ⟨fx,1,none⟩)) (fun w1 _=>(rfa h177 rfl rfl (fQ 1)) w1) fun _ h178=>?_
   refine tv1 hq11 h178 3 rfl rfl (v:=π mx) (fun w1 hSw=>(rld h178 rfl rfl (ldB υ31 rfl (hSw.get 0 rfl:Blk _ _ _ _) rfl))) fun _ h179=>?_
   refine tv1 hq11 h179 4 rfl rfl (v:=ν i) (fun w1 _=>(AA h179 rfl rfl) w1) fun _ h180=>?_
   refine tv1 hq11 h180 5 rfl rfl (v:=.agg (Ap z).toArray) (fun w1 hSw=>(rld h180 rfl rfl (ldA υ45 rfl (n:=15) κ (hSw.get 2 rfl:Blk _ _ _ _) rfl rfl))) fun _ h181=>?_
   refine to_ 6 rfl (wn rfl) κ fun _ hK53=>BM h181 rfl rfl rfl (xs:=[.tmp 100,.tmp 101,.tmp 102]) rfl (cF Tryz.func47) rfl (vs:=[π mx,ν i,.agg (Ap z).toArray]) rfl (args:=#[π mx,ν i,.agg (Ap z).toArray]) rfl (Ek (i:=i) (x:=z) (s27.pk [1,2,0,3,4] rfl) hM) fun _ v11 w25 r11 h182=>?_
   obtain ⟨tax557,tcx558,rfl,s28⟩:=r11
   refine hK53 _ _ (s28.pk [2,0,3,4] rfl) fun hq12=>h182.sk [103,102,101,100,99,98,97,67,66,3,33,12,7,0,1,2,4] rfl fun h183=>?_
   refine tv1 hq12 h183 7 rfl rfl (v:=ν (Cc M (wrP M z (rzL S (n0*64)) P2 k3) i z)) (fun w1 _=>(BJ h183 rfl rfl) w1) fun _ h184=>?_
   refine h184.sk [10,67,66,3,33,12,7,0,1,2,4] rfl fun h185=>?_
   refine wpAnyH_done κ ?_ _
   refine hK52 _ _ ?_
   refine wp_ret ?_
   try simp only [Exit.then,Exit.inBlock,Exit.noGoto]
   refine BC (v:=ν (Cc M (wrP M z (rzL S (n0*64)) P2 k3) i z)) (Dd h185 rfl rfl) h185.defs ?_
   obtain rfl:n0=k3:=ω
   exact ⟨tax557,tcx558,rfl,Sep.tail_un (xs:=[_,_,_]) (s28.pk [2,0,1,4] rfl)⟩
end
section
structure SetH (M:MemM) (P:List PtM) (i sp:Int) (x y z:InoT) (n0:Nat) (S:List UInt8) (P1 P2:List PtM):Prop where
 fE:Ef M P i=0
 fX:Iy M P i=x
 l:S.length≤256
 hsp:-9223372036854775808≤sp∧sp≤9223372036854775807
 hn:CF (S.length:Int)=(n0:Int)
 xb:∀ k,-9223372036854775808≤x.blk k∧x.blk k≤9223372036854775807
 cX:Bz (szX x (S.length:Int)) n0 (4-n0)=y
 cE:Lf M P (szX x (S.length:Int)) n0=0
 cP:Lg M P (szX x (S.length:Int)) n0=P1
 al:∀ k,k<n0→(alS M sp y P1 k).1.blk k=0→bE M (alS M sp y P1 k).2 sp=0
 hz:alS M sp y P1 n0=(z,P2)
 fd:∀ k,k<n0→∃ q,Bc 7 (z.blk k)=some q
 st:∀ k,k<n0→stE M (wrP M z (rzL S (n0*64)) P2 k) 7 (z.blk k) 64=0
 sE:Cc M (wrP M z (rzL S (n0*64)) P2 n0) i z=0
section
variable {w:World} {R:List Ch} {fx mx:Nat} {K:VolK} {ta:Option Addr} {tc:Nat} {M:MemM} {P P1 P2:List PtM} {x y z:InoT} {n0:Nat} {i sp:Int} {S:List UInt8}
theorem Na (hS:Sep w ([Ae fx 83 [π K.tg,π mx],mtC mx K,txP K ta tc M P]++R)) (hM:M.V.length=23168) (hE:Ef M P i=0) (hX:Iy M P i=x) :
  CallsR Tryz.prog 33 #[π fx,ν i] w (fun v w'=>v=.tuple #[.agg (Ap x).toArray,ν 0]∧Sep w' ([Ae fx 83 [π K.tg,π mx],mtC mx K,txP K ta tc M P]++R)):=
 Calls.mono (NT hS hM) fun e w' q=>by rw [hE,hX] at q;exact q
theorem PP (hS:Sep w (txP K ta tc M P::R)):CallsR Tryz.prog 40 #[π K.tg] w (fun v w'=>∃ la lc,v=.slice la P.length lc∧Sep w' (txP K ta tc M P::R)):=by
 have h:VolP w K ta tc M P:=hS.get 0 rfl
 exact Calls.mono (PO h.b h.o.row (Nat.le_trans h.k.n ω)) fun e w' ⟨la,lc,e1,_,b⟩=>⟨_,e1,la,lc,rfl,hS.mono b⟩
theorem Yd (hS:Sep w ([Ae fx 83 [π K.tg,π mx],mtC mx K,txP K ta tc M P]++R)) (hM:M.V.length=23168) (H:SetH M P i sp x y z n0 S P1 P2) :
  CallsR Tryz.prog 41 #[π fx,ν i,.agg (Ap x).toArray,σ S,ν sp] w (fun v w'=>∃ ta' tc',v=ν 0∧Sep w' ([Ae fx 83 [π K.tg,π mx],mtC mx K,txP K ta' tc' M (BE M (wrP M z (rzL S (n0*64)) P2 n0) i z)]++R)):=
 Calls.mono (Acu hS hM H.l H.hsp H.hn H.xb H.cX H.cE H.cP H.al H.hz H.fd H.st) fun e w' q=>by rw [H.sE] at q;exact q
end
theorem Aa4 {w:World} {R:List Ch} {fx:Nat} {mx:Nat} {K:VolK} {ta:Option Addr} {tc:Nat} {M:MemM} {P:List PtM} {i sp:Int} {x y z:InoT} {n0:Nat} {S:List UInt8} {P1 P2:List PtM} (hS0:Sep w ([Ae fx 83 [π K.tg,π mx],Ae mx 103 [π K.tg],txP K ta tc M P]++R)) (hM:M.V.length=23168) (H:SetH M P i sp x y z n0 S P1 P2) :
  CallsR Tryz.prog 16 #[π fx,ν i,σ S,ν sp] w (fun v w'=>∃ ta' tc',v=ν 0∧Sep w' ([Ae fx 83 [π K.tg,π mx],Ae mx 103 [π K.tg],txP K ta' tc' M (BE M (wrP M z (rzL S (n0*64)) P2 n0) i z)]++R)):=by
 have hS:Sep w [Ae fx 83 [π K.tg,π mx],Ae mx 103 [π K.tg],txP K ta tc M P,Ch.many R]:=Sep.tail_many (xs:=[_,_,_]) hS0;clear hS0
 have hS256:=H.l
 refine AS Tryz.func16 rfl (N:=42) Tryz.ntmps16 (by show 4≤42;decide) [(0,π fx),(1,ν i),(2,σ S),(3,ν sp)] rfl fun _ h1=>sqr fun _ hK3=>mv h1 rfl fun _ h4=>wpList_nil<|hK3 _ _<|sqr fun _ hK6=>mvs 2 h4 rfl fun _ h9=>cl h9 rfl (cF Tryz.func33) (Na hS hM H.fE H.fX) fun _ v1 w1 r1 h2=>?_
 obtain ⟨rfl,s1⟩:=r1
 refine mvs 3 h2 rfl fun _ h3=>so (wn rfl) fun _ hK1=>AV h3 rfl rfl rfl rfl (z:=[ν 0,ν 0,ν 0,ν 0,ν 0,ν 0,ν 0,ν 0,ν 0,ν 0,ν 0,ν 0,ν 0,ν 0,ν 0]) (fun _=>rfl) s1 fun _ g1 w2 h5 s2 _ _=>hK1 _ _ ?_
 refine stA h5 s2 0 rfl rfl rfl κ rfl rfl rfl rfl fun _ w3 h6 s3 _=>mv h6 rfl fun _ h7=>h7.sn [10,9,8,0,1,2,3] rfl fun h8=>hK6 _ _<|sq fun _ hK2=>sqr fun _ hK4=>mv h8 rfl fun _ h10=>bv h10 (z:=.bool false) rfl (cNe _ _ _ _ rfl) fun _ h11=>h11.sn [20,10,9,8,0,1,2,3] rfl fun h12=>hK4 _ _<|wcF h12 rfl rfl ?_
 refine h12.sk [10,9,8,0,1,2,3] rfl fun h13=>wp_skip<|hK2 _ _<|sq fun _ hK5=>sqr fun _ hK7=>mv h13 rfl fun _ h14=>sv1 h14 rfl (v:=ν (S.length:Int)) (Ez h14 rfl rfl υ9) fun _ h15=>bv h15 (z:=.bool false) rfl (cGt _ _ _ _ (decide_eq_false ω)) fun _ h16=>h16.sn [24,10,9,8,0,1,2,3] rfl fun h17=>hK7 _ _<|wcF h17 rfl rfl<|h17.sk [10,9,8,0,1,2,3] rfl fun h18=>?_
 refine wp_skip<|hK5 _ _<|sqr fun _ hK8=>mvs 2 h18 rfl fun _ h19=>fav h19 rfl (fQ 0) fun _ h20=>ldv h20 s3 1 υ30 rfl rfl rfl rfl fun _ h21=>cl h21 rfl (cF Tryz.func40) (PP (s3.pk [3,0,1,2,4] rfl)) fun _ v2 w4 r2 h22=>?_
 obtain ⟨la_x68,lc_x69,rfl,s4⟩:=r2
 refine mv h22 rfl fun _ h23=>h23.sn [11,10,9,8,0,1,2,3] rfl fun h24=>hK8 _ _<|sq fun _ hK9=>sqr fun _ hK10=>mvs 2 h24 rfl fun _ h25=>sw1 h25 rfl (v:=.agg (Ap x).toArray) (rld h25 rfl rfl (ldA υ45 rfl (n:=15) κ (s4.get 1 rfl:Blk _ _ _ _) rfl rfl)) fun _ h26=>mvs 2 h26 rfl fun _ h27=>cl h27 rfl (cF Tryz.func41) (Yd (s4.pk [2,3,0,1,4] rfl) hM H) fun _ v3 w5 r3 h28=>?_
 obtain ⟨tax92,tcx93,rfl,s5⟩:=r3
 refine mv h28 rfl fun _ h29=>h29.sn [12,11,10,9,8,0,1,2,3] rfl fun h30=>hK10 _ _<|sqr fun _ hK11=>mv h30 rfl fun _ h31=>bv h31 (z:=.bool false) rfl (cNe _ _ _ _ rfl) fun _ h32=>h32.sn [37,12,11,10,9,8,0,1,2,3] rfl fun h33=>hK11 _ _<|wcF h33 rfl rfl<|h33.sk [12,11,10,9,8,0,1,2,3] rfl fun h34=>?_
 refine wp_skip<|hK9 _ _<|sqr fun _ hK12=>h34.sk [12,11,10,9,0,1,2,3] rfl fun h35=>mv h35 rfl fun _ h36=>wpList_nil<|hK12 _ _<|wp_ret ?_
 try simp only [Exit.then,Exit.inBlock]
 refine BC (v:=ν 0) (Dd h36 rfl rfl) h36.defs ?_
 exact ⟨tax92,tcx93,rfl,Sep.tail_un (xs:=[_,_,_]) (s5.pk [0,1,2,4] rfl)⟩
end
section
theorem MG {w:World} {R:List Ch} {b:Nat} {p:Option Addr} {v:Value} (hS:Sep w (Ae b 76 [.pointer p,v]::R)) (hp:p=none∨p=some ⟨b,0,none⟩):CallsR Tryz.prog 66 #[π b] w (fun x w'=>x=.tuple #[]∧Sep w' (Ae b 76 [π b,v]::R)):=by
 have hb:Blk w b 76 [.pointer p,v]:=hS.get 0 rfl
 rcases hp with rfl | rfl
 ·refine Calls.mono (Go.Proofs.Any.Builder_copyCheck_fresh (ρ:=Fl) { Mo with } CN.toX72 b w (hb.cell (i:=0) (by show 0<2;omega)) (by unfold World.shape?;rw [show w.heap[b]? = _ from hb];rfl) (Blk.frozen hb 0)) fun e w' z=>?_
  obtain ⟨e1,e2⟩:=z
  subst e2
  exact ⟨_,e1,rfl,hS.head (Turns.of_row (Sv (Jr w (some b)) 0 _)) (fun k _ q=>by cases q;rfl) (c':=Ae b 76 [π b,v]) (hb.set 0 _) fun k q=>.inl q⟩
 ·refine Calls.mono (Go.Proofs.Any.Builder_copyCheck_used (ρ:=Fl) { Mo with } CN.toX72 b w (hb.cell (i:=0) (by show 0<2;omega))) fun e w' z=>?_
  obtain ⟨e1,e2⟩:=z
  subst e2
  exact ⟨_,e1,rfl,hS⟩
theorem Aai {w:World} {R:List Ch} {b:Nat} {p:Option Addr} {ba:Option Addr} {bc:Nat} {ad:Addr} {yc:Nat} {xs ys:List UInt8} (hS0:Sep w ([Ae b 76 [.pointer p,.slice ba xs.length bc],BQ 0 5 1 ba (xs).length bc ((xs).map Ag),BQ 0 5 1 (some ad) (ys).length yc ((ys).map Ag)]++R)) (hp:p=none∨p=some ⟨b,0,none⟩) (hx:xs.length≤1000000) (hy2:ys.length≤1000000) (hy:0<ys.length) :
  CallsR Tryz.prog 36 #[π b,.slice (some ad) ys.length yc] w (fun v w'=>∃ ba' bc',v=.tuple #[ν ys.length,.nilIface]∧Sep w' ([Ae b 76 [π b,.slice ba' ((xs++ys).length) bc'],BQ 0 5 1 ba' ((xs++ys)).length bc' (((xs++ys)).map Ag),BQ 0 5 1 (some ad) (ys).length yc ((ys).map Ag)]++R)):=by
 have hS:Sep w [Ae b 76 [.pointer p,.slice ba xs.length bc],BQ 0 5 1 ba (xs).length bc ((xs).map Ag),BQ 0 5 1 (some ad) (ys).length yc ((ys).map Ag),Ch.many R]:=Sep.tail_many (xs:=[_,_,_]) hS0;clear hS0
 refine AS Tryz.func36 rfl (N:=19) Tryz.ntmps36 (by show 2≤19;decide) [(0,π b),(1,.slice (some ad) ys.length yc)] rfl fun _ h1=>sqr fun _ hK3=>mvs 2 h1 rfl fun _ h6=>wpList_nil<|hK3 _ _<|sqr fun _ hK8=>mv h6 rfl fun _ h9=>cl h9 rfl (cF Tryz.func66) (MG hS hp) fun _ v1 w1 r1 h2=>?_
 obtain ⟨rfl,s1⟩:=r1
 refine h2.sn [5,4,0,1] rfl fun h3=>hK8 _ _<|sqr fun _ hK1=>mvs 3 h3 rfl fun _ h4=>fav h4 rfl (fQ 1) fun _ h5=>ldv h5 s1 0 υ74 rfl rfl rfl rfl fun _ h7=>mv h7 rfl fun _ h8=>so (wn rfl) fun _ hK2=>Aaj h8 rfl rfl rfl rfl E8 s1 1 rfl rfl rfl (s1.get 2 rfl:Own _ _ _ _ _ _ _ _).row hy (List.all_eq_true.2 (CD _)) ω ω (n':=(xs++ys).length) (List.length_append).symm fun a1 p32 c33 w2 h10 s2 _=>hK2 _ _ ?_
 have s3:Sep w2 [Ae b 76 [π b,.slice ba xs.length bc],BQ 0 5 1 p32 ((xs++ys)).length c33 (((xs++ys)).map Ag),BQ 0 5 1 (some ad) (ys).length yc ((ys).map Ag),Ch.many R]:=by rw [show (xs++ys).map Ag=xs.map Ag++ys.map Ag from List.map_append];exact s2
 refine mv h10 rfl fun _ h11=>fav h11 rfl (fQ 1) fun _ h12=>st1 h12 s3 0 rfl rfl κ rfl rfl rfl rfl fun _ w3 h13 s4 _=>h13.sn [5,4,0,1] rfl fun h14=>hK1 _ _<|sqr fun _ hK4=>mv h14 rfl fun _ h15=>sv1 h15 rfl (v:=ν (ys.length:Int)) (XQ h15 rfl rfl υ74) fun _ h16=>h16.sk [18,17,5,0,1] rfl fun h17=>mv h17 rfl fun _ h18=>?_
 refine h18.sk [4,18,17,0,1] rfl fun h19=>mv h19 rfl fun _ h20=>h20.sn [5,4,0,1] rfl fun h21=>hK4 _ _<|wp_ret ?_
 try simp only [Exit.then,Exit.inBlock]
 refine BC (v:=.tuple #[ν (ys.length:Int),.nilIface]) (EK h21 rfl rfl rfl) h21.defs ?_
 exact ⟨p32,c33,rfl,Sep.tail_un (xs:=[_,_,_]) s4⟩
end
section
theorem Oa (w:World) (g n:Nat):Turns (fun k=>k=g) w (w.drew.freeze ⟨g,0,none⟩ n):=by
  have b:=Lib.below_freeze (B:=0) (Below.drew (Below.refl 0 w)) (p:=⟨g,0,none⟩) (Nat.zero_le _) n
  refine ⟨b.os,b.tape,b.output,b.size,fun k hk hn=>?_⟩
  have hn:g≠k:=fun e=>hn e.symm
  unfold World.freeze
  split
  · rfl
  · simp only [Array.getElem?_modify];rw [if_neg hn];rfl
theorem Yi {w:World} {R:List Ch} {b:Nat} {p:Value} {ba:Option Addr} {bc:Nat} {xs:List UInt8} (hS:Sep w (Ae b 76 [p,.slice ba xs.length bc]::BQ 0 5 1 ba xs.length bc (xs.map Ag)::R)) (h0:xs≠[]) :
    CallsR Tryz.prog 37 #[π b] w (fun v w'=>v=σ xs∧Sep w' R):=by
  have hb:Blk w b 76 [p,.slice ba xs.length bc]:=hS.get 0 rfl
  have ho:Own w 0 5 1 ba xs.length bc (xs.map Ag):=hS.get 1 rfl
  have hl0:xs.length≠0:=fun e=>h0 (List.eq_nil_of_length_eq_zero e)
  have hr:=ho.row
  obtain ⟨g,cap,cur,hv,hB,hg,hnc,hcm,hcs,htk⟩:∃ g cap cur,Value.slice ba xs.length bc=.slice (some ⟨g,0,none⟩) xs.length cap∧0≤g∧w.heap[g]? = some (.cells cur 5 (0,0))∧xs.length≤cap∧cap≤maxLen∧cur.size=cap*1∧cur.toList.take (xs.length*1)=xs.map Ag:=by
    rcases ho.2 with ⟨_,hz⟩ | ⟨g,cap,cur,q⟩
    · exact absurd hz hl0
    · exact ⟨g,cap,cur,q⟩
  injection hv with e1 _ e2
  subst e1 e2
  have hcell:∀ (j:Nat) (x:UInt8),xs[j]? = some x→w.cell? ⟨g,j,none⟩=some (.int .u8 x.toNat):=by
    intro j x hx
    obtain ⟨b',off,e,_,hc⟩:=hr.2.2.2.2 ω
    cases e
    have:=hc j (Ag x) (by rw [List.getElem?_map,hx];rfl)
    rw [Nat.zero_add] at this;exact this
  have c1:w.drew.cell? ⟨b,1,none⟩=some (.slice (some ⟨g,0,none⟩) xs.length bc):=hb.cell (i:=1) (by show 1<2;omega)
  have hSD:(Builtin.unsafeSliceData_ #[74] 130 #[.slice (some ⟨g,0,none⟩) xs.length bc]).run Tryz.prog w.drew=.ok (π g) w.drew:=Lib.run_unsafeSliceData_row _ _ _ _ _ _ ω
  have hUS:(Builtin.unsafeString_ #[130,3] 9 #[π g,ν xs.length]).run Tryz.prog w.drew=.ok (.string ⟨xs.toArray⟩) (w.drew.freeze ⟨g,0,none⟩ xs.length):=
    Lib.run_unsafeString_row w.drew 130 3 9 5 υ130 κ g cur.size (by have hg':w.drew.heap[g]? = some (.cells cur 5 (0,0)):=hg;simp [World.shape?,hg']) xs h0 ω (by unfold maxLen at hcm;omega) (fun j x hx=>by
      have z:=hcell j x hx
      unfold Addr.add
      split
      · subst j;exact z
      · rw [Nat.zero_add];exact z)
  have mixed:=Mo.mixed
  have u1:=υ76
  have u2:=υ73
  have u3:=υ74
  have fin:CallsR Tryz.prog 37 #[π b] w (fun v w'=>v=σ xs∧w'=w.drew.freeze ⟨g,0,none⟩ xs.length):=by
    clear hS hr ho hcell
    go_enter Tryz.func37,Tryz.ntmps37
    go_wp2
    go_region_o
    all_goals (go_wp2;go_ret;exact ⟨_,rfl,rfl,rfl⟩)
  refine Calls.mono fin fun e w' z=>?_
  obtain ⟨v,e1,e2,rfl⟩:=z
  refine ⟨v,e1,e2,?_⟩
  have t:=Oa w g xs.length
  have u:=hS.upd 1 rfl t (fun k _ (e:k=g)=>by subst e;rfl) (c':=BQ 0 5 1 none 0 0 []) (Own.nil _ _ _ _) (fun k e=>by cases e)
  exact Sep.swap (A:=[_,_]) (B:=[]) (R:=R) u ⟨fun i d hi=>by simp at hi,fun i j d e _ hi=>by simp at hi⟩ (fun i c hi=>by simp at hi)
end
section
def It (M:MemM) (P:List PtM) (x:InoT):Nat→List UInt8
 | 0=>[]
 | k+1=>It M P x k++AY M P 7 (x.blk k)
section
variable {M:MemM} {P:List PtM} {x:InoT} {n:Nat}
theorem OD (hM:M.V.length=23168) {kd nm:Int} {q:PartT} (h:Bc kd nm=some q) (hk:kd≠5∧kd≠6):(AY M P kd nm).length=64:=by
 rw [Cy h,Mh (Jc hM h),NW h hk.1 hk.2];rfl
theorem ST (hM:M.V.length=23168) (hfd:∀ k,k<n→∃ q,Bc 7 (x.blk k)=some q):∀ k,k≤n→(It M P x k).length=64*k
 | 0,_=>rfl
 | k+1,hk=>by
  obtain ⟨q,hq⟩:=hfd k ω
  show (It M P x k++_).length=_
  rw [List.length_append,ST hM hfd k ω,OD hM hq (by decide)];omega
theorem Xo {s:Int} (h:CF s=(n:Int)) (hs:0≤s∧s≤256):s≤64*(n:Int):=by unfold CF at h;split at h<;>omega
end
theorem RJ {w:World} {R:List Ch} {K:VolK} {ta:Option Addr} {tc:Nat} {M:MemM} {P:List PtM} {nm:Int} {q:PartT} (hS:Sep w (txP K ta tc M P::R)) (hM:M.V.length=23168) (h:Bc 7 nm=some q) (h0:0≤q.a∧q.a≤23168∧0≤q.s∧q.s≤4096) :
  CallsR Tryz.prog 35 #[pG K.tg,ν q.a,ν q.s] w (fun v w'=>∃ ad c,v=.tuple #[.slice (some ad) (AY M P 7 nm).length c,ν 0]∧Sep w' (BQ 0 5 1 (some ad) (AY M P 7 nm).length c ((AY M P 7 nm).map Ag)::txP K ta tc M P::R)):=by
 have hl:=OD hM (P:=P) h (by decide)
 rw [Cy h] at hl ⊢
 refine Calls.mono (RK hS (Jc hM h) (by unfold GX;omega) (by unfold GX;omega)) fun e w' z=>?_
 obtain ⟨v,e1,a,c,e2,s⟩:=z
 cases a with
 | none=>
  have o:Own w' 0 5 1 none _ c _:=s.get 0 rfl
  have:=o.row.2.2.2.1 rfl
  have:=o.row.2.1
  omega
 | some ad=>exact ⟨v,e1,ad,c,e2,s⟩
theorem OF {w:World} {R:List Ch} {b:Nat} {p:Value} {ba:Option Addr} {bc:Nat} {xs:List UInt8} (hS:Sep w (Ae b 76 [p,.slice ba xs.length bc]::BQ 0 5 1 ba xs.length bc (xs.map Ag)::R)) (h0:xs=[]→ba=none∧bc=0) :
  CallsR Tryz.prog 37 #[π b] w (fun v w'=>v=σ xs∧Sep w' R):=by
 by_cases hx:xs=[]
 ·obtain ⟨rfl,rfl⟩:=h0 hx
  subst hx
  have hb:Blk w b 76 [p,.slice none 0 0]:=hS.get 0 rfl
  have hR:Sep w R:=Sep.swap (A:=[_,_]) (B:=[]) (R:=R) hS ⟨fun i d hi=>by simp at hi,fun i j d e _ hi=>by simp at hi⟩ (fun i c hi=>by simp at hi)
  exact Calls.mono (Go.Proofs.Any.Builder_String_nil (ρ:=Fl) { Mo with } CN w.heap.size b p w hb) fun e w' z=>⟨_,z.1,rfl,hR.mono z.2⟩
 ·exact Yi hS hx
theorem Wb {w:World} {R:List Ch} {fx:Nat} {mx:Nat} {K:VolK} {ta:Option Addr} {tc:Nat} {M:MemM} {P:List PtM} {i:Int} {x:InoT} {n0:Nat} (hS0:Sep w ([Ae fx 83 [π K.tg,π mx],Ae mx 103 [π K.tg],txP K ta tc M P]++R)) (hM:M.V.length=23168) (hfE:Ef M P i=0) (hfX:Iy M P i=x) (hs:0≤x.s∧x.s≤256) (hn0:CF x.s=(n0:Int)) (hfd:∀ k,k<n0→∃ q,Bc 7 (x.blk k)=some q) :
  CallsR Tryz.prog 13 #[π fx,ν i] w (fun v w'=>v=.tuple #[σ ((It M P x n0).take x.s.toNat),ν 0]∧Sep w' ([Ae fx 83 [π K.tg,π mx],Ae mx 103 [π K.tg],txP K ta tc M P]++R)):=by
 have hS:Sep w [Ae fx 83 [π K.tg,π mx],Ae mx 103 [π K.tg],txP K ta tc M P,Ch.many R]:=Sep.tail_many (xs:=[_,_,_]) hS0;clear hS0
 have hn4:n0≤4:=KL hn0 hs
 have hns:=Xo hn0 hs
 have hbl:∀ k,k≤n0→(It M P x k).length=64*k:=fun k hk=>ST hM hfd k hk
 refine AS Tryz.func13 rfl (N:=56) Tryz.ntmps13 (by show 2≤56;decide) [(0,π fx),(1,ν i)] rfl fun _ h1=>sqr fun _ hK3=>mvs 2 h1 rfl fun _ h6=>wpList_nil<|hK3 _ _<|sqr fun _ hK8=>mvs 2 h6 rfl fun _ h2=>cl h2 rfl (cF Tryz.func33) (Na hS hM hfE hfX) fun _ v1 w2 r1 h3=>?_
 obtain ⟨rfl,s1⟩:=r1
 refine mvs 3 h3 rfl fun _ h4=>so (wn rfl) fun _ hK1=>AV h4 rfl rfl rfl rfl (z:=[ν 0,ν 0,ν 0,ν 0,ν 0,ν 0,ν 0,ν 0,ν 0,ν 0,ν 0,ν 0,ν 0,ν 0,ν 0]) (fun _=>rfl) s1 fun _ g1 w3 h5 s2 _ _=>hK1 _ _ ?_
 refine stA h5 s2 0 rfl rfl rfl κ rfl rfl rfl rfl fun _ w4 h7 s3 _=>mv h7 rfl fun _ h8=>h8.sn [7,6,5,4,0,1] rfl fun h9=>hK8 _ _<|sq fun _ hK2=>sqr fun _ hK4=>mv h9 rfl fun _ h10=>bv h10 (z:=.bool false) rfl (cNe _ _ _ _ rfl) fun _ h11=>h11.sn [21,7,6,5,4,0,1] rfl fun h12=>hK4 _ _<|wcF h12 rfl rfl ?_
 refine h12.sk [7,6,5,4,0,1] rfl fun h13=>wp_skip<|hK2 _ _<|sqr fun _ hK5=>so (wn rfl) fun _ hK6=>AV h13 rfl rfl rfl rfl (z:=[.pointer none,.slice none 0 0]) (fun _=>rfl) s3 fun _ g2 w5 h14 s4 _ _=>hK6 _ _ ?_
 refine wpList_nil<|hK5 _ _<|sq fun _ hK7=>sqr fun _ hK9=>fav h14 rfl (fQ 2) fun _ h15=>ldv h15 s4 1 υ3 rfl rfl rfl rfl fun _ h16=>cl h16 rfl (cF Tryz.func17) (ID s4 hn0 ω) fun _ v2 w6 r2 h17=>?_
 obtain ⟨rfl,s5⟩:=r2
 refine mv h17 rfl fun _ h18=>h18.sn [26,25,8,7,6,5,4,0,1] rfl fun h19=>hK9 _ _<|wp_block ?_
 have s6:=Sep.ownNil s5 0 5 1
 refine Jz (fun (k:Nat) (pp:Option Addr) (ba:Option Addr) (bc:Nat) a' w'=>Kn 56 [(26,ν (k:Int)),(25,ν (n0:Int)),(8,π g2),(7,ν 0),(6,π g1),(5,ν 0),(4,σ []),(0,π fx),(1,ν i)] a'∧Sep w' [BQ 0 5 1 ba ((It M P x k)).length bc (((It M P x k)).map Ag),Ae g2 76 [.pointer pp,.slice ba ((It M P x k).length) bc],Ae g1 45 (Ap x),Ae fx 83 [π K.tg,π mx],Ae mx 103 [π K.tg],txP K ta tc M P,Ch.many R]∧(k≤n0)∧(pp=none∨pp=some ⟨g2,0,none⟩)∧(k=0→ba=none∧bc=0)) (fun (k:Nat) (pp:Option Addr) (ba:Option Addr) (bc:Nat)=>n0-k) 0 none none 0 ⟨h19.subs rfl,s6,Nat.zero_le _,.inl rfl,(fun _=>⟨rfl,rfl⟩)⟩ ?_
 rintro k1 pp86 ba87 bc88 a1 w7 ⟨h20,s7,hk82,hp1,hz84⟩ K1 hK10
 refine sqr fun _ hK11=>bv h20 (z:=.bool (decide ((k1:Int)<(n0:Int)))) rfl (cLt _ _ _ _ rfl) fun _ h21=>wpList_nil<|hK11 _ _<|sq fun _ hK12=>?_
 rcases bC (decide ((k1:Int)<(n0:Int))) with hc1 | hc1
 ·skip
  have hp2:(k1:Int)<(n0:Int):=(dT hc1)
  refine wcT h21 rfl hc1<|h21.sk [26,25,8,7,6,5,4,0,1] rfl fun h22=>wp_skip<|hK12 _ _<|sq fun _ hK13=>wp_block ?_
  refine sqr fun _ hK14=>mvs 2 h22 rfl fun _ h23=>h23.sn [9,26,25,8,7,6,5,4,0,1] rfl fun h24=>hK14 _ _<|sqr fun _ hK15=>mv h24 rfl fun _ h25=>fav h25 rfl (fQ 3) fun _ h26=>sv1 h26 rfl (v:=.pointer (some ⟨g1,3+k1,none⟩)) (CC h26 rfl rfl rfl (fun w=>Lz g1 k1 ω ω w)) fun _ h27=>sw1 h27 rfl (v:=ν (x.blk k1)) (rld h27 rfl rfl (ldB υ3 rfl (s7.get 2 rfl:Blk _ _ _ _) (Er x ω))) fun _ h28=>?_
  obtain ⟨q112,hq1⟩:=hfd k1 ω
  have hq113i:=Ds hq1
  have hbk9:=hbl k1 ω
  refine cl h28 rfl (cF Tryz.func34) (Br s7 (IY (k:=q112.k) (n:=q112.n) (a:=q112.a) (s:=q112.s) hq1 _)) fun _ v3 w8 r3 h29=>?_
  obtain ⟨rfl,s8⟩:=r3
  refine mvs 3 h29 rfl fun _ h30=>so (wn rfl) fun _ hK16=>AV h30 rfl rfl rfl rfl (z:=[ν 0,ν 0,ν 0,ν 0]) (fun _=>rfl) s8 fun _ g3 w9 h31 s9 _ _=>hK16 _ _ ?_
  refine stA h31 s9 0 rfl rfl rfl κ rfl rfl rfl rfl fun _ w10 h32 s10 _=>mv h32 rfl fun _ h33=>h33.sn [10,9,26,25,8,7,6,5,4,0,1] rfl fun h34=>hK15 _ _<|sq fun _ hK17=>?_
  have s11:=s10.drew
  refine wp_region_held_drew (S:=fun w'=>Sep w' [Ae g3 78 [ν q112.k,ν q112.n,ν q112.a,ν q112.s],BQ 0 5 1 ba87 ((It M P x k1)).length bc88 (((It M P x k1)).map Ag),Ae g2 76 [.pointer pp86,.slice ba87 ((It M P x k1).length) bc88],Ae g1 45 (Ap x),Ae fx 83 [π K.tg,π mx],Ae mx 103 [π K.tg],txP K ta tc M P,Ch.many R]) κ s11 (fun hq2=>?_)
  refine tv1 hq2 h34 0 rfl rfl (v:=π fx) (fun w1 _=>(AA h34 rfl rfl) w1) fun _ h35=>?_
  refine tv1 hq2 h35 1 rfl rfl (v:=π fx) (fun w1 _=>(ML h35 rfl rfl) w1) fun _ h36=>?_
  refine tv1 hq2 h36 2 rfl rfl (v:=π fx) (fun w1 _=>(rfa h36 rfl rfl (fQ 0)) w1) fun _ h37=>?_
  refine tv1 hq2 h37 3 rfl rfl (v:=π K.tg) (fun w1 hSw=>(rld h37 rfl rfl (ldB υ30 rfl (hSw.get 4 rfl:Blk _ _ _ _) rfl))) fun _ h38=>?_
  refine tv1 hq2 h38 4 rfl rfl (v:=.pointer (some ⟨g3,2,none⟩)) (fun w1 _=>(rfa h38 rfl rfl (fQ 2)) w1) fun _ h39=>?_
  refine tv1 hq2 h39 5 rfl rfl (v:=ν q112.a) (fun w1 hSw=>(rld h39 rfl rfl (ldB υ3 rfl (hSw.get 0 rfl:Blk _ _ _ _) rfl))) fun _ h40=>?_
  refine tv1 hq2 h40 6 rfl rfl (v:=.pointer (some ⟨g3,3,none⟩)) (fun w1 _=>(rfa h40 rfl rfl (fQ 3)) w1) fun _ h41=>?_
  refine tv1 hq2 h41 7 rfl rfl (v:=ν q112.s) (fun w1 hSw=>(rld h41 rfl rfl (ldB υ3 rfl (hSw.get 0 rfl:Blk _ _ _ _) rfl))) fun _ h42=>?_
  refine to_ 8 rfl (wn rfl) κ fun _ hK18=>BM h42 rfl rfl rfl (xs:=[.tmp 41,.tmp 43,.tmp 45]) rfl (cF Tryz.func35) rfl (vs:=[π K.tg,ν q112.a,ν q112.s]) rfl (args:=#[π K.tg,ν q112.a,ν q112.s]) rfl (RJ (s11.pk [6,0,1,2,3,4,5,7] rfl) hM hq1 ω) fun _ v4 w11 r4 h43=>?_
  obtain ⟨ad_x164,rc_x165,rfl,s12⟩:=r4
  refine hK18 _ _ (s12.pk [2,3,4,5,6,7,1,8] rfl) fun hq3=>?_
  refine tv1 hq3 h43 9 rfl rfl (v:=.tuple #[.slice (some ad_x164) ((AY M P 7 (x.blk k1)).length) rc_x165,ν 0]) (fun w1 _=>(AA h43 rfl rfl) w1) fun _ h44=>?_
  refine tv1 hq3 h44 10 rfl rfl (v:=.slice (some ad_x164) ((AY M P 7 (x.blk k1)).length) rc_x165) (fun w1 _=>(XP h44 rfl rfl rfl) w1) fun _ h45=>?_
  refine tv1 hq3 h45 11 rfl rfl (v:=ν 0) (fun w1 _=>(XP h45 rfl rfl rfl) w1) fun _ h46=>?_
  refine tv1 hq3 h46 12 rfl rfl (v:=.slice (some ad_x164) ((AY M P 7 (x.blk k1)).length) rc_x165) (fun w1 _=>(BJ h46 rfl rfl) w1) fun _ h47=>?_
  refine tv1 hq3 h47 13 rfl rfl (v:=ν 0) (fun w1 _=>(BJ h47 rfl rfl) w1) fun _ h48=>?_
  refine h48.sk [12,10,9,26,25,8,7,6,5,4,0,1] rfl fun h49=>?_
  refine wpAnyH_done κ ?_ _
  refine hK17 _ _ ?_
  refine wp_region_lit<|mv h49 rfl fun _ h50=>?_
  have hly9:=OD hM (P:=P) hq1 ω
  refine cl h50 rfl (cF Tryz.func36) (Aai (s12.pk [4,3,0,1,2,5,6,7,8] rfl) hp1 ω ω ω) fun _ v5 w12 r5 h51=>?_
  obtain ⟨nb_x186,nc_x187,rfl,s13⟩:=r5
  refine h51.sn [12,10,9,26,25,8,7,6,5,4,0,1] rfl fun h52=>hK13 _ _<|wp_region_lit<|bv h52 (z:=ν ((k1+1:Nat):Int)) rfl (Dw _ _ _ ω ω ω) fun _ h53=>h53.sk [51,12,10,9,25,8,7,6,5,4,0,1] rfl fun h54=>mv h54 rfl fun _ h55=>h55.sk [26,12,10,9,25,8,7,6,5,4,0,1] rfl fun h56=>wpList_nil ?_
  exact hK10 (k1+1) (some ⟨g2,0,none⟩) nb_x186 nc_x187 _ _ ⟨h56.subs rfl,(s13.pk [1,0,5,6,7,3,8] rfl),ω,.inr rfl,(fun q=>absurd q (Nat.succ_ne_zero _))⟩ ω
 ·skip
  have hp3:¬ ((k1:Int)<(n0:Int)):=(dF hc1)
  refine wcF h21 rfl hc1<|h21.sk [26,25,8,7,6,5,4,0,1] rfl fun h57=>wp_exit ?_
  refine hK7 _ _ ?_
  refine sq fun _ hK19=>?_
  have s14:=s7.drew
  refine wp_region_held_drew (S:=fun w'=>Sep w' [Ae g1 45 (Ap x),Ae fx 83 [π K.tg,π mx],Ae mx 103 [π K.tg],txP K ta tc M P,Ch.many R]) κ (s14.pk [2,3,4,5,6] rfl) (fun hq4=>?_)
  refine tv1 hq4 h57 1 rfl rfl (v:=.pointer (some ⟨g1,2,none⟩)) (fun w1 _=>(rfa h57 rfl rfl (fQ 2)) w1) fun _ h58=>?_
  refine tv1 hq4 h58 2 rfl rfl (v:=ν x.s) (fun w1 hSw=>(rld h58 rfl rfl (ldB υ3 rfl (hSw.get 0 rfl:Blk _ _ _ _) rfl))) fun _ h59=>?_
  have hbk9:=hbl k1 ω
  refine to_ 0 rfl (wn rfl) κ fun _ hK20=>BM h59 rfl rfl rfl (xs:=[.tmp 8]) rfl (cF Tryz.func37) rfl (vs:=[π g2]) rfl (args:=#[π g2]) rfl (OF (s14.pk [1,0,2,3,4,5,6] rfl) (fun e9=>hz84 (by rw [e9] at hbk9;simp at hbk9;omega))) fun _ v6 w13 r6 h60=>?_
  obtain ⟨rfl,s15⟩:=r6
  refine hK20 _ _ s15 fun hq5=>?_
  refine tv1 hq5 h60 3 rfl rfl (v:=σ ((It M P x k1).take ((x.s).toNat))) (fun w1 _=>(Qg h60 rfl rfl (vl:=none) (vh:=(some (ν x.s))) rfl rfl (fun w=>(fun w=>((slT 9 υ9 (It M P x k1) (a:=0) (b:=(x.s).toNat) (.inl ⟨rfl,rfl⟩) (.inr ⟨_,rfl,ω⟩) ω ω) w).trans (by rw [List.drop_zero])) w)) w1) fun _ h61=>?_
  refine h61.sk [55,52,54,53,26,25,8,7,6,5,0,1] rfl fun h62=>?_
  refine tv1 hq5 h62 4 rfl rfl (v:=σ ((It M P x k1).take ((x.s).toNat))) (fun w1 _=>(BJ h62 rfl rfl) w1) fun _ h63=>?_
  refine h63.sk [4,55,52,54,53,26,25,8,7,6,0,1] rfl fun h64=>?_
  refine tv1 hq5 h64 5 rfl rfl (v:=ν 0) (fun w1 _=>(BJ h64 rfl rfl) w1) fun _ h65=>?_
  refine h65.sk [5,4,26,25,8,7,6,0,1] rfl fun h66=>?_
  refine wpAnyH_done κ ?_ _
  refine hK19 _ _ ?_
  refine wp_ret ?_
  try simp only [Exit.then,Exit.inBlock]
  refine BC (v:=.tuple #[σ ((It M P x k1).take ((x.s).toNat)),ν 0]) (EK h66 rfl rfl rfl) h66.defs ?_
  obtain rfl:n0=k1:=ω
  exact ⟨rfl,Sep.tail_un (xs:=[_,_,_]) (s15.pk [1,2,3,4] rfl)⟩
theorem VZ {w:World} {R:List Ch} {fx:Nat} {mx:Nat} {K:VolK} {ta:Option Addr} {tc:Nat} {M:MemM} {P:List PtM} {i:Int} (hS0:Sep w ([Ae fx 83 [π K.tg,π mx],Ae mx 103 [π K.tg],txP K ta tc M P]++R)) (hM:M.V.length=23168) (hfE:Ef M P i≠0) :
  CallsR Tryz.prog 13 #[π fx,ν i] w (fun v w'=>v=.tuple #[σ [],ν (Ef M P i)]∧Sep w' ([Ae fx 83 [π K.tg,π mx],Ae mx 103 [π K.tg],txP K ta tc M P]++R)):=by
 have hS:Sep w [Ae fx 83 [π K.tg,π mx],Ae mx 103 [π K.tg],txP K ta tc M P,Ch.many R]:=Sep.tail_many (xs:=[_,_,_]) hS0;clear hS0
 refine AS Tryz.func13 rfl (N:=56) Tryz.ntmps13 (by show 2≤56;decide) [(0,π fx),(1,ν i)] rfl fun _ h1=>sqr fun _ hK3=>mvs 2 h1 rfl fun _ h6=>wpList_nil<|hK3 _ _<|sqr fun _ hK8=>mvs 2 h6 rfl fun _ h2=>cl h2 rfl (cF Tryz.func33) (NT hS hM) fun _ v1 w1 r1 h3=>?_
 obtain ⟨rfl,s1⟩:=r1
 refine mvs 3 h3 rfl fun _ h4=>so (wn rfl) fun _ hK1=>AV h4 rfl rfl rfl rfl (z:=[ν 0,ν 0,ν 0,ν 0,ν 0,ν 0,ν 0,ν 0,ν 0,ν 0,ν 0,ν 0,ν 0,ν 0,ν 0]) (fun _=>rfl) s1 fun _ g1 w2 h5 s2 _ _=>hK1 _ _ ?_
 refine stA h5 s2 0 rfl rfl rfl κ rfl rfl rfl rfl fun _ w3 h7 s3 _=>mv h7 rfl fun _ h8=>h8.sn [7,6,5,4,0,1] rfl fun h9=>hK8 _ _<|sq fun _ hK2=>sqr fun _ hK4=>mv h9 rfl fun _ h10=>bv h10 (z:=.bool true) rfl (cNe _ _ _ _ (decide_eq_true ω)) fun _ h11=>h11.sn [21,7,6,5,4,0,1] rfl fun h12=>hK4 _ _<|wcT h12 rfl rfl ?_
 refine h12.sk [7,6,5,4,0,1] rfl fun h13=>sqr fun _ hK5=>mv h13 rfl fun _ h14=>h14.sk [22,7,6,5,0,1] rfl fun h15=>mv h15 rfl fun _ h16=>h16.sk [4,22,7,6,0,1] rfl fun h17=>mv h17 rfl fun _ h18=>h18.sn [5,4,7,6,0,1] rfl fun h19=>hK5 _ _<|wp_ret ?_
 try simp only [Exit.then,Exit.inBlock]
 refine BC (v:=.tuple #[.string (Ak []),.int .i64 (Ef M P i)]) (EK h19 rfl rfl rfl) h19.defs ?_
 exact ⟨rfl,Sep.tail_un (xs:=[_,_,_]) (s3.pk [1,2,3,4] rfl)⟩
end
section
theorem Aa3 {w:World} {R:List Ch} {fx:Nat} {mx:Nat} {K:VolK} {ta:Option Addr} {tc:Nat} {M:MemM} {P:List PtM} {i sp:Int} {S:List UInt8} (hS0:Sep w ([Ae fx 83 [π K.tg,π mx],Ae mx 103 [π K.tg],txP K ta tc M P]++R)) (hM:M.V.length=23168) (hfE:Ef M P i≠0) :
  CallsR Tryz.prog 16 #[π fx,ν i,σ S,ν sp] w (fun v w'=>v=ν (Ef M P i)∧Sep w' ([Ae fx 83 [π K.tg,π mx],Ae mx 103 [π K.tg],txP K ta tc M P]++R)):=by
 have hS:Sep w [Ae fx 83 [π K.tg,π mx],Ae mx 103 [π K.tg],txP K ta tc M P,Ch.many R]:=Sep.tail_many (xs:=[_,_,_]) hS0;clear hS0
 refine AS Tryz.func16 rfl (N:=42) Tryz.ntmps16 (by show 4≤42;decide) [(0,π fx),(1,ν i),(2,σ S),(3,ν sp)] rfl fun _ h1=>sqr fun _ hK3=>mv h1 rfl fun _ h4=>wpList_nil<|hK3 _ _<|sqr fun _ hK6=>mvs 2 h4 rfl fun _ h9=>cl h9 rfl (cF Tryz.func33) (NT hS hM) fun _ v1 w1 r1 h2=>?_
 obtain ⟨rfl,s1⟩:=r1
 refine mvs 3 h2 rfl fun _ h3=>so (wn rfl) fun _ hK1=>AV h3 rfl rfl rfl rfl (z:=[ν 0,ν 0,ν 0,ν 0,ν 0,ν 0,ν 0,ν 0,ν 0,ν 0,ν 0,ν 0,ν 0,ν 0,ν 0]) (fun _=>rfl) s1 fun _ g1 w2 h5 s2 _ _=>hK1 _ _ ?_
 refine stA h5 s2 0 rfl rfl rfl κ rfl rfl rfl rfl fun _ w3 h6 s3 _=>mv h6 rfl fun _ h7=>h7.sn [10,9,8,0,1,2,3] rfl fun h8=>hK6 _ _<|sq fun _ hK2=>sqr fun _ hK4=>mv h8 rfl fun _ h10=>bv h10 (z:=.bool true) rfl (cNe _ _ _ _ (decide_eq_true ω)) fun _ h11=>h11.sn [20,10,9,8,0,1,2,3] rfl fun h12=>hK4 _ _<|wcT h12 rfl rfl ?_
 refine h12.sk [10,9,8,0,1,2,3] rfl fun h13=>sqr fun _ hK5=>mv h13 rfl fun _ h14=>h14.sk [21,10,9,0,1,2,3] rfl fun h15=>mv h15 rfl fun _ h16=>h16.sn [8,10,9,0,1,2,3] rfl fun h17=>hK5 _ _<|wp_ret ?_
 try simp only [Exit.then,Exit.inBlock]
 refine BC (v:=.int .i64 (Ef M P i)) (Dd h17 rfl rfl) h17.defs ?_
 exact ⟨rfl,Sep.tail_un (xs:=[_,_,_]) (s3.pk [1,2,3,4] rfl)⟩
theorem YC {w:World} {R:List Ch} {fx:Nat} {mx:Nat} {K:VolK} {ta:Option Addr} {tc:Nat} {M:MemM} {P:List PtM} {i sp:Int} {S:List UInt8} (hS0:Sep w ([Ae fx 83 [π K.tg,π mx],Ae mx 103 [π K.tg],txP K ta tc M P]++R)) (hM:M.V.length=23168) (hfE:Ef M P i=0) (hl:256<S.length) :
  CallsR Tryz.prog 16 #[π fx,ν i,σ S,ν sp] w (fun v w'=>v=ν 19∧Sep w' ([Ae fx 83 [π K.tg,π mx],Ae mx 103 [π K.tg],txP K ta tc M P]++R)):=by
 have hS:Sep w [Ae fx 83 [π K.tg,π mx],Ae mx 103 [π K.tg],txP K ta tc M P,Ch.many R]:=Sep.tail_many (xs:=[_,_,_]) hS0;clear hS0
 refine AS Tryz.func16 rfl (N:=42) Tryz.ntmps16 (by show 4≤42;decide) [(0,π fx),(1,ν i),(2,σ S),(3,ν sp)] rfl fun _ h1=>sqr fun _ hK3=>mv h1 rfl fun _ h4=>wpList_nil<|hK3 _ _<|sqr fun _ hK6=>mvs 2 h4 rfl fun _ h9=>cl h9 rfl (cF Tryz.func33) (NT hS hM) fun _ v1 w1 r1 h2=>?_
 obtain ⟨rfl,s1⟩:=r1
 refine mvs 3 h2 rfl fun _ h3=>so (wn rfl) fun _ hK1=>AV h3 rfl rfl rfl rfl (z:=[ν 0,ν 0,ν 0,ν 0,ν 0,ν 0,ν 0,ν 0,ν 0,ν 0,ν 0,ν 0,ν 0,ν 0,ν 0]) (fun _=>rfl) s1 fun _ g1 w2 h5 s2 _ _=>hK1 _ _ ?_
 refine stA h5 s2 0 rfl rfl rfl κ rfl rfl rfl rfl fun _ w3 h6 s3 _=>mv h6 rfl fun _ h7=>h7.sn [10,9,8,0,1,2,3] rfl fun h8=>hK6 _ _<|sq fun _ hK2=>sqr fun _ hK4=>mv h8 rfl fun _ h10=>bv h10 (z:=.bool false) rfl (cNe _ _ _ _ (decide_eq_false ω)) fun _ h11=>h11.sn [20,10,9,8,0,1,2,3] rfl fun h12=>hK4 _ _<|wcF h12 rfl rfl ?_
 refine h12.sk [10,9,8,0,1,2,3] rfl fun h13=>wp_skip<|hK2 _ _<|sq fun _ hK5=>sqr fun _ hK7=>mv h13 rfl fun _ h14=>sv1 h14 rfl (v:=ν (S.length:Int)) (Ez h14 rfl rfl υ9) fun _ h15=>bv h15 (z:=.bool true) rfl (cGt _ _ _ _ (decide_eq_true ω)) fun _ h16=>h16.sn [24,10,9,8,0,1,2,3] rfl fun h17=>hK7 _ _<|wcT h17 rfl rfl<|h17.sk [10,9,8,0,1,2,3] rfl fun h18=>?_
 refine sqr fun _ hK8=>h18.sk [10,9,0,1,2,3] rfl fun h19=>mv h19 rfl fun _ h20=>wpList_nil<|hK8 _ _<|wp_ret ?_
 try simp only [Exit.then,Exit.inBlock]
 refine BC (v:=.int .i64 19) (Dd h20 rfl rfl) h20.defs ?_
 exact ⟨rfl,Sep.tail_un (xs:=[_,_,_]) (s3.pk [1,2,3,4] rfl)⟩
theorem NU {w:World} {R:List Ch} (hS0:Sep w ([]++R)) :
  CallsR Tryz.prog 20 #[.pointer none,.pointer none] w (fun v w'=>v=.pointer none∧Sep w' ([]++R)):=by
 have hS:Sep w [Ch.many R]:=Sep.tail_many (xs:=[]) hS0;clear hS0
 refine AS Tryz.func20 rfl (N:=15) Tryz.ntmps20 (by show 2≤15;decide) [(0,.pointer none),(1,.pointer none)] rfl fun _ h1=>sqr fun _ hK3=>mv h1 rfl fun _ h4=>wpList_nil<|hK3 _ _<|sq fun _ hK6=>sqr fun _ hK7=>mv h4 rfl fun _ h8=>bv h8 (z:=.bool true) rfl (Kv _ υ30 _ _ _) fun _ h2=>mv h2 rfl fun _ h3=>su h3 (wF h3 (E:=true) rfl rfl rfl) rfl rfl rfl fun _ h5=>su h5 (wF h5 (E:=true) rfl rfl rfl) rfl rfl rfl fun _ h6=>?_
 refine sv1 h6 rfl (v:=.bool true) (Ca h6 rfl rfl rfl) fun _ h7=>h7.sn [10,4,0,1] rfl fun h9=>hK7 _ _<|wcT h9 rfl rfl<|h9.sk [4,0,1] rfl fun h10=>sqr fun _ hK1=>h10.sk [0,1] rfl fun h11=>mv h11 rfl fun _ h12=>wpList_nil<|hK1 _ _<|wp_ret ?_
 try simp only [Exit.then,Exit.inBlock]
 refine BC (v:=.pointer none) (Dd h12 rfl rfl) h12.defs ?_
 exact ⟨rfl,Sep.tail_un (xs:=[]) hS⟩
end
section
def ykX (n:Int):Nat→InoT
  | 0=>szX opX n
  | k+1=>(ykX n k).setB k ((k:Int)+3)
def skS:Nat→Dg
  | 0=>s4S
  | k+1=>Cv (Cv (skS k) 3 0 (Be (UG (skS k)) ((k:Int)+3))) 7 ((k:Int)+3) (List.replicate 64 0)
theorem Jt:∀ k:Fin 4,Au (UG (skS k.val)) 1=(k.val:Int)+3∧(¬ 128-((Ea (UG (skS k.val)) 128).length:Int)≤max 0 0)∧Eo 7 ((k.val:Int)+3)=true:=by decide +kernel
theorem Acz (n:Int) {k:Nat} (hk:k<4):(ykX n k).blk k=0:=by
  rcases (ω:k=0∨k=1∨k=2∨k=3) with rfl | rfl | rfl | rfl<;>rfl
theorem Aak (n:Int) {k m:Nat} (hk:k<m) (hm:m≤4):(ykX n m).blk k=(k:Int)+3:=by
  rcases (ω:m=1∨m=2∨m=3∨m=4) with rfl | rfl | rfl | rfl <;>
    (rcases (ω:k=0∨k=1∨k=2∨k=3) with rfl | rfl | rfl | rfl<;>first | rfl | omega)
theorem Ac0:∀ n:Fin 257,DY (ykX (n.val:Int) (CF (n.val:Int)).toNat)=0:=by decide +kernel
theorem Abm (m:List UInt8):FY m 0=m:=if_neg (by decide)
theorem OY (n:Int) {k:Nat} (m:List UInt8) (hk:k≤4):∀ j,k+j≤4→Bz (szX opX n) k j=szX opX n∧CE (szX opX n) k m j=m
  | 0,_=>⟨rfl,rfl⟩
  | j+1,h=>by
    have ih:=OY n m hk j ω
    have hb:∀ i,i<4→(szX opX n).blk i=0∧(szX opX n).setB i 0=szX opX n:=fun i hi=>by
      rcases (ω:i=0∨i=1∨i=2∨i=3) with rfl | rfl | rfl | rfl<;>exact ⟨rfl,rfl⟩
    show (Bz (szX opX n) k j).setB (k+j) 0=_∧FY (CE (szX opX n) k m j) ((Bz (szX opX n) k j).blk (k+j))=_
    rw [ih.1,ih.2,(hb _ ω).1,(hb _ ω).2,Abm];exact ⟨rfl,rfl⟩
theorem ZI (x:InoT):(Dm x).length≤64:=by
  unfold Dm;split
  · split
    · decide
    · rename_i h _;have:=Jo x;omega
  · exact Nat.zero_le _
section
variable {M:MemM}
theorem QO (V:Vol M [] s4S 0) (n:Int):∀ k,k≤4→(alS M 0 (szX opX n) [] k).1=ykX n k∧Vol M (alS M 0 (szX opX n) [] k).2 (skS k) (2*k)∧(k<4→bE M (alS M 0 (szX opX n) [] k).2 0=0)
  | 0,_=>by
    obtain ⟨f1,f2,f3⟩:=Jt 0
    obtain ⟨q,hq⟩:=Bp f3
    exact ⟨rfl,V,fun _=>(Ht V rfl f1 f2 hq ω).2.1⟩
  | k+1,hk=>by
    obtain ⟨i1,i2,i3⟩:=QO V n k ω
    obtain ⟨f1,f2,f3⟩:=Jt ⟨k,ω⟩
    obtain ⟨q,hq⟩:=Bp f3
    have z:=Ht i2 rfl f1 f2 hq ω
    have e:=Ac5 (M:=M) (sp:=0) (x:=szX opX n) (P:=[]) (k:=k) (fun h=>h (by rw [i1];exact Acz n ω))
    have v1:Vol M (alS M 0 (szX opX n) [] (k+1)).2 (skS (k+1)) (2*(k+1)):=by rw [e];exact z.2.2
    refine ⟨by rw [e,i1,z.1];rfl,v1,fun h=>?_⟩
    obtain ⟨g1,g2,g3⟩:=Jt ⟨k+1,h⟩
    obtain ⟨q',hq'⟩:=Bp g3
    exact (Ht v1 rfl g1 g2 hq' ω).2.1
theorem Yz {P:List PtM} {s:Dg} {c:Nat} (V:Vol M P s c) (hc:c≤50) {z:InoT} {X:List UInt8} {n0:Nat} (hn:n0≤4) (hX:X.length=n0*64) (hfd:∀ k,k<n0→∃ q,Bc 7 (z.blk k)=some q):∀ k,k≤n0→(k<n0→stE M (wrP M z X P k) 7 (z.blk k) 64=0)∧∃ s',Vol M (wrP M z X P k) s' (c+k)
  | 0,_=>⟨fun h=>by
      obtain ⟨q,hq⟩:=hfd 0 h
      have z9:=(V.put (xs:=Gn X 0) hq (.inr (.inr rfl)) (by unfold Gn;rw [GE hX h];omega) ω).1
      unfold Gn at z9;rw [GE hX h] at z9;exact z9,s,V⟩
  | k+1,hk=>by
    obtain ⟨_,s',v⟩:=Yz V hc hn hX hfd k ω
    obtain ⟨q,hq⟩:=hfd k ω
    have v1:=(v.put (xs:=Gn X k) hq (.inr (.inr rfl)) (by unfold Gn;rw [GE hX ω];omega) ω).2
    refine ⟨fun h=>?_,_,v1⟩
    obtain ⟨q',hq'⟩:=hfd (k+1) h
    have z9:=(v1.put (xs:=Gn X (k+1)) hq' (.inr (.inr rfl)) (by unfold Gn;rw [GE hX h];omega) ω).1
    unfold Gn at z9;rw [GE hX h] at z9;exact z9
theorem XZ:∀ i:Fin 4,Dh s4S ((i.val:Int)+2)=0:=by decide +kernel
theorem Tx (i:Nat) (hi:i<4):Di s4S ((i:Int)+2)=opX:=by
  rcases (ω:i=0∨i=1∨i=2∨i=3) with rfl | rfl | rfl | rfl<;>kernel_rfl
theorem Vt (V:Vol M [] s4S 0) {i:Nat} (hi:i<4) {S:List UInt8} (hS:S.length≤256):∃ y z n0 P1 P2,SetH M [] ((i:Int)+2) 0 opX y z n0 S P1 P2:=by
  have hE:AR M [] ((i:Int)+2)=0:=(EH V _).trans (XZ ⟨i,hi⟩)
  have hR:An M [] ((i:Int)+2)=opX:=(Fe V _).trans (Tx i hi)
  obtain ⟨n0,hn0⟩:∃ n0:Nat,CF (S.length:Int)=(n0:Int):=⟨(CF (S.length:Int)).toNat,by unfold CF;split<;>omega⟩
  have hn4:n0≤4:=KL hn0 ω
  have hc:=OY (S.length:Int) (Aq M []) hn4 (4-n0) ω
  have ha:=QO V (S.length:Int) n0 hn4
  have hfd:∀ k,k<n0→∃ q,Bc 7 ((ykX (S.length:Int) n0).blk k)=some q:=fun k hk=>by
    rw [Aak _ hk hn4];exact Bp (Jt ⟨k,ω⟩).2.2
  have hw:=Yz ha.2.1 ω hn4 (z:=ykX (S.length:Int) n0) (KQ S (n0*64)) hfd
  obtain ⟨s',v'⟩:=(hw n0 (Nat.le_refl _)).2
  have hp:DY (ykX (S.length:Int) n0)=0:=by have z:=Ac0 ⟨S.length,ω⟩;rw [show CF (((⟨S.length,ω⟩:Fin 257).val:Nat):Int)=(n0:Int) from hn0] at z;exact z
  obtain ⟨q4,hq4⟩:=Bp (show Eo 4 ((i:Int)+2)=true from by have:=WO ⟨i+1,ω⟩;rw [show (i:Int)+2=((i+1+1:Nat):Int) by omega];exact this)
  refine ⟨szX opX (S.length:Int),ykX (S.length:Int) n0,n0,[],(alS M 0 (szX opX (S.length:Int)) [] n0).2,?_⟩
  exact {
    fE:=by unfold Ef;rw [if_neg (by rw [hE];decide),hR];rfl
    fX:=by unfold Iy;rw [if_neg (by rw [hE];decide),hR];rfl
    l:=hS
    hsp:=by decide
    hn:=hn0
    xb:=fun k=>by
      have:opX.blk k=0:=by
        match k with
        | 0=>rfl
        | 1=>rfl
        | 2=>rfl
        | 3=>rfl
        | n+4=>rfl
      rw [this];decide
    cX:=hc.1
    cE:=by unfold Lf;rw [if_pos hc.2]
    cP:=by unfold Lg;rw [if_pos hc.2]
    al:=fun k hk _=>(QO V (S.length:Int) k ω).2.2 ω
    hz:=by rw [← ha.1]
    fd:=hfd
    st:=fun k hk=>(hw k ω).1 hk
    sE:=(Gh v' hq4 hp rfl (ZI _) ω).1 }
end
end
section
structure VolB where
 M:MemM
 v:Vol M [] s4S 0
theorem MR {w:World} {R:List Ch} (hS:Sep w R):CallsR Tryz.prog 7 #[] w (fun v w'=>∃ K ta tc,∃ mv:VolB,∃ mx fx vx,v=π vx∧Sep w' (Ae vx 34 [π K.tg,π mx,π fx]::Ae fx 83 [π K.tg,π mx]::Ae mx 103 [π K.tg]::txP K ta tc mv.M []::R)):=
 Calls.mono (YJ (R:=R) hS) fun e w' z=>by
  obtain ⟨v,e1,K,ta,tc,M,mx,fx,vx,e2,hv,s⟩:=z
  exact ⟨v,e1,K,ta,tc,⟨M,hv⟩,mx,fx,vx,e2,s⟩
section
variable {w:World} {R:List Ch} {fx mx:Nat} {K:VolK} {ta:Option Addr} {tc:Nat} {M:MemM} {S:List UInt8}
theorem JK (V:Vol M [] s4S 0) {k:Nat} (hk:k<4):Ef M [] ((k:Int)+2)=0∧Iy M [] ((k:Int)+2)=opX:=by
 have hE:AR M [] ((k:Int)+2)=0:=(EH V _).trans (XZ ⟨k,hk⟩)
 have hR:An M [] ((k:Int)+2)=opX:=(Fe V _).trans (Tx k hk)
 exact ⟨by unfold Ef;rw [if_neg (by rw [hE];decide),hR];rfl,by unfold Iy;rw [if_neg (by rw [hE];decide),hR];rfl⟩
theorem NZ {i:Int} (h:2≤i∧i≤5):∃ k:Nat,k<4∧i=(k:Int)+2:=⟨(i-2).toNat,ω,ω⟩
theorem TY (hS:Sep w ([Ae fx 83 [π K.tg,π mx],mtC mx K,txP K ta tc M []]++R)) (V:Vol M [] s4S 0) {i:Int} (hk:2≤i∧i≤5):CallsR Tryz.prog 13 #[π fx,ν i] w (fun v w'=>v=.tuple #[σ [],ν 0]∧Sep w' ([Ae fx 83 [π K.tg,π mx],mtC mx K,txP K ta tc M []]++R)):=by
 obtain ⟨k,hk4,rfl⟩:=NZ hk
 exact Calls.mono (Wb (n0:=0) hS V.m (JK V hk4).1 (JK V hk4).2 (by decide) (by decide) (fun k h=>ω)) fun e w' z=>z
theorem ZX (hS:Sep w ([Ae fx 83 [π K.tg,π mx],mtC mx K,txP K ta tc M []]++R)) (V:Vol M [] s4S 0) {i:Int} (hk:2≤i∧i≤5) (hl:S.length≤256):CallsR Tryz.prog 16 #[π fx,ν i,σ S,ν 0] w (fun v w'=>∃ ta' tc' P',v=ν 0∧Sep w' ([Ae fx 83 [π K.tg,π mx],mtC mx K,txP K ta' tc' M P']++R)):=by
 obtain ⟨k,hk4,rfl⟩:=NZ hk
 obtain ⟨y,z,n0,P1,P2,H⟩:=Vt V hk4 hl
 exact Calls.mono (Aa4 hS V.m H) fun e w' q=>by obtain ⟨v,e1,ta',tc',e2,s⟩:=q;exact ⟨v,e1,ta',tc',_,e2,s⟩
theorem ZY (hS:Sep w ([Ae fx 83 [π K.tg,π mx],mtC mx K,txP K ta tc M []]++R)) (V:Vol M [] s4S 0) {i:Int} (hk:2≤i∧i≤5) (hl:256<S.length):CallsR Tryz.prog 16 #[π fx,ν i,σ S,ν 0] w (fun v w'=>v=ν 19∧Sep w' ([Ae fx 83 [π K.tg,π mx],mtC mx K,txP K ta tc M []]++R)):=by
 obtain ⟨k,hk4,rfl⟩:=NZ hk
 exact YC hS V.m (JK V hk4).1 hl
def OI (i e:Int):Prop:=(i<1∧e=1)∨(32<i∧e=1)∨(i=1∧e=13)∨(6≤i∧i≤32∧e=10)
theorem Ze {i:Int} (h:i<1∨32<i):Eo 4 i=false:=by
 cases q:Eo 4 i with
 | false=>rfl
 | true=>
  obtain ⟨p,hp⟩:=Bp q
  have k:=JM hp
  have z:=List.all_eq_true.1 (show (Bv.all fun x=>!decide (x.k=4)||(decide (1≤x.n)&&decide (x.n≤32)))=true from by decide +kernel) p k.1
  rw [k.2.1,k.2.2] at z
  simp at z;omega
theorem Aau {i:Int} (h:i<1∨32<i) (M:MemM):Ef M [] i=1:=by
 have hE:AR M [] i=1:=by unfold AR;rw [Ze h];rfl
 unfold Ef;rw [if_pos (by rw [hE];decide),hE]
theorem ZW:∀ j:Fin 27,Dh s4S ((j.val:Int)+6)=0∧(Di s4S ((j.val:Int)+6)).k=0:=by decide +kernel
theorem Ty:Dh s4S 1=0∧(Di s4S 1).k=2:=by decide +kernel
theorem Wq {i e:Int} (V:Vol M [] s4S 0) (h:OI i e):Ef M [] i=e∧e≠0:=by
 rcases h with ⟨h,rfl⟩ | ⟨h,rfl⟩ | ⟨rfl,rfl⟩ | ⟨h1,h2,rfl⟩
 ·exact ⟨Aau (.inl h) M,by decide⟩
 ·exact ⟨Aau (.inr h) M,by decide⟩
 ·exact ⟨by unfold Ef;rw [EH V,Fe V,Ty.1,Ty.2];rfl,by decide⟩
 ·obtain ⟨j,rfl⟩:∃ j:Nat,i=(j:Int)+6:=⟨(i-6).toNat,ω⟩
  have z:=ZW ⟨j,ω⟩
  exact ⟨by unfold Ef;rw [EH V,Fe V,z.1,z.2];rfl,by decide⟩
theorem TZ (hS:Sep w ([Ae fx 83 [π K.tg,π mx],mtC mx K,txP K ta tc M []]++R)) (V:Vol M [] s4S 0) {i e:Int} (h:OI i e):CallsR Tryz.prog 13 #[π fx,ν i] w (fun v w'=>v=.tuple #[σ [],ν e]∧Sep w' ([Ae fx 83 [π K.tg,π mx],mtC mx K,txP K ta tc M []]++R)):=by
 have ⟨he,hne⟩:=Wq V h
 have z:=VZ (i:=i) hS V.m (by rw [he];exact hne)
 rw [he] at z;exact z
theorem ZZ (hS:Sep w ([Ae fx 83 [π K.tg,π mx],mtC mx K,txP K ta tc M []]++R)) (V:Vol M [] s4S 0) {i e:Int} (h:OI i e):CallsR Tryz.prog 16 #[π fx,ν i,σ S,ν 0] w (fun v w'=>v=ν e∧Sep w' ([Ae fx 83 [π K.tg,π mx],mtC mx K,txP K ta tc M []]++R)):=by
 have ⟨he,hne⟩:=Wq V h
 have z:=Aa3 (i:=i) (sp:=0) (S:=S) hS V.m (by rw [he];exact hne)
 rw [he] at z;exact z
end
theorem Aeq {w:World} {R:List Ch} {i:Int} {S:List UInt8} (hS0:Sep w ([]++R)) (hk:2≤i∧i≤5) :
  CallsR Tryz.prog 6 #[ν i,σ S] w (fun v w'=>v=.bool true∧Sep w' ([]++R)):=by
 have hS:Sep w [Ch.many R]:=Sep.tail_many (xs:=[]) hS0;clear hS0
 refine AS Tryz.func6 rfl (N:=92) Tryz.ntmps6 (by show 2≤92;decide) [(0,ν i),(1,σ S)] rfl fun _ h1=>sqr fun _ hK3=>mv h1 rfl fun _ h4=>wpList_nil<|hK3 _ _<|sqr fun _ hK6=>cl h4 rfl (cF Tryz.func7) (MR hS) fun _ v1 w1 r1 h2=>?_
 obtain ⟨kk_x7,tax8,tcx9,mv_x10,mx_x11,fx_x12,vx_x13,rfl,s1⟩:=r1
 refine mv h2 rfl fun _ h3=>h3.sn [5,4,0,1] rfl fun h5=>hK6 _ _<|sq fun _ hK1=>sqr fun _ hK2=>mv h5 rfl fun _ h6=>bv h6 (z:=.bool false) rfl (Kv _ υ23 _ _ _) fun _ h7=>h7.sn [12,5,4,0,1] rfl fun h8=>hK2 _ _<|wcF h8 rfl rfl<|h8.sk [5,4,0,1] rfl fun h9=>?_
 refine wp_skip<|hK1 _ _<|sq fun K1 hK4=>?_
 have hJ33:∀ (S9:List UInt8) a' w',Kn 92 [(5,π vx_x13),(4,.bool false),(0,ν i),(1,σ S9)] a'→Sep w' [Ae vx_x13 34 [π kk_x7.tg,π mx_x11,π fx_x12],Ae fx_x12 83 [π kk_x7.tg,π mx_x11],Ae mx_x11 103 [π kk_x7.tg],txP kk_x7 tax8 tcx9 mv_x10.M [],Ch.many R]→K1 a' w':=by
  intro S9 a1 w2 h10 s2
  refine hK4 _ _ ?_
  refine sqr fun _ hK5=>mv h10 rfl fun _ h11=>wpList_nil<|hK5 _ _<|sq fun _ hK7=>sqr fun _ hK8=>mv h11 rfl fun _ h12=>bv h12 (z:=.bool false) rfl (cLt _ _ _ _ (decide_eq_false ω)) fun _ h13=>mv h13 rfl fun _ h14=>sv h14 (wF h14 (E:=false) rfl rfl rfl) rfl rfl rfl (v:=ν i) (AA h14 rfl rfl) fun _ h15=>sv h15 (wF h15 (E:=false) rfl rfl rfl) rfl rfl rfl (v:=.bool false) (BD h15 rfl rfl rfl (cGt _ _ _ _ (decide_eq_false ω))) fun _ h16=>sv1 h16 rfl (v:=.bool false) (Ca h16 rfl rfl rfl) fun _ h17=>?_
  refine h17.sn [23,6,5,4,0,1] rfl fun h18=>hK8 _ _<|wcF h18 rfl rfl<|h18.sk [6,5,4,0,1] rfl fun h19=>wp_skip<|hK7 _ _<|sq fun _ hK9=>sqr fun _ hK10=>mv h19 rfl fun _ h20=>bv h20 (z:=.bool false) rfl (cEq _ _ _ _ (decide_eq_false ω)) fun _ h21=>h21.sn [25,6,5,4,0,1] rfl fun h22=>hK10 _ _ ?_
  refine wcF h22 rfl rfl<|h22.sk [6,5,4,0,1] rfl fun h23=>wp_skip<|hK9 _ _<|sqr fun _ hK11=>mvs 2 h23 rfl fun _ h24=>fav h24 rfl (fQ 2) fun _ h25=>ldv h25 s2 0 υ32 rfl rfl rfl rfl fun _ h26=>mv h26 rfl fun _ h27=>cl h27 rfl (cF Tryz.func13) (TY (s2.pk [1,2,3,0,4] rfl) mv_x10.v hk) fun _ v2 w3 r2 h28=>?_
  obtain ⟨rfl,s3⟩:=r2
  refine mvs 5 h28 rfl fun _ h29=>h29.sn [8,7,6,5,4,0,1] rfl fun h30=>hK11 _ _<|sqr fun _ hK12=>mvs 2 h30 rfl fun _ h31=>fav h31 rfl (fQ 2) fun _ h32=>ldv h32 s3 3 υ32 rfl rfl rfl rfl fun _ h33=>mvs 2 h33 rfl fun _ h34=>?_
  rcases bC (decide ((S9.length:Int)≤256)) with hc1 | hc1
  ·skip
   have hp1:(S9.length:Int)≤256:=(dT hc1)
   refine cl h34 rfl (cF Tryz.func16) (ZX (S:=S9) s3 mv_x10.v hk ω) fun _ v3 w4 r3 h35=>?_
   obtain ⟨tax109,tcx110,ppx111,rfl,s4⟩:=r3
   refine mv h35 rfl fun _ h36=>h36.sn [9,8,7,6,5,4,0,1] rfl fun h37=>hK12 _ _<|sq fun _ hK13=>sqr fun _ hK14=>mv h37 rfl fun _ h38=>bv h38 (z:=.bool true) rfl (cGe _ _ _ _ (decide_eq_true ω)) fun _ h39=>mv h39 rfl fun _ h40=>sv h40 (wT h40 (E:=true) rfl rfl rfl) rfl rfl rfl (v:=ν i) (AA h40 rfl rfl) fun _ h41=>sv h41 (wT h41 (E:=true) rfl rfl rfl) rfl rfl rfl (v:=.bool true) (BD h41 rfl rfl rfl (cLe _ _ _ _ (decide_eq_true ω))) fun _ h42=>sv1 h42 rfl (v:=.bool true) (Ca h42 rfl rfl rfl) fun _ h43=>?_
   refine h43.sn [47,9,8,7,6,5,4,0,1] rfl fun h44=>hK14 _ _<|wcT h44 rfl rfl<|h44.sk [9,8,7,6,5,4,0,1] rfl fun h45=>sqr fun _ hK15=>mv h45 rfl fun _ h46=>bv h46 (z:=.bool true) rfl (cEq _ _ _ _ rfl) fun _ h47=>mv h47 rfl fun _ h48=>sv h48 (wT h48 (E:=true) rfl rfl rfl) rfl rfl rfl (v:=σ []) (AA h48 rfl rfl) fun _ h49=>sv h49 (wT h49 (E:=true) rfl rfl rfl) rfl rfl rfl (v:=.bool true) (BD h49 rfl rfl rfl (Hs _ _ _ _ _ (decide_eq_true rfl))) fun _ h50=>?_
   refine sv1 h50 rfl (v:=.bool true) (Ca h50 rfl rfl rfl) fun _ h51=>mv h51 rfl fun _ h52=>sv h52 (wT h52 (E:=true) rfl rfl rfl) rfl rfl rfl (v:=ν 0) (AA h52 rfl rfl) fun _ h53=>sv h53 (wT h53 (E:=true) rfl rfl rfl) rfl rfl rfl (v:=.bool true) (BD h53 rfl rfl rfl (cEq _ _ _ _ rfl)) fun _ h54=>sv h54 (wT h54 (E:=true) rfl rfl rfl) rfl rfl rfl (v:=σ S9) (AA h54 rfl rfl) fun _ h55=>sv h55 (wT h55 (E:=true) rfl rfl rfl) rfl rfl rfl (v:=ν (S9.length:Int)) (Ez h55 rfl rfl υ9) fun _ h56=>sv h56 (wT h56 (E:=true) rfl rfl rfl) rfl rfl rfl (v:=.bool true) (BD h56 rfl rfl rfl (cLe _ _ _ _ (decide_eq_true ω))) fun _ h57=>sv h57 (wT h57 (E:=true) rfl rfl rfl) rfl rfl rfl (v:=.bool true) (BD h57 rfl rfl rfl (Aam _ υ4 _ _ _)) fun _ h58=>sv1 h58 rfl (v:=.bool true) (Ca h58 rfl rfl rfl) fun _ h59=>mv h59 rfl fun _ h60=>?_
   refine sv h60 (wT h60 (E:=true) rfl rfl rfl) rfl rfl rfl (v:=ν 0) (AA h60 rfl rfl) fun _ h61=>sv h61 (wT h61 (E:=true) rfl rfl rfl) rfl rfl rfl (v:=.bool true) (BD h61 rfl rfl rfl (cEq _ _ _ _ rfl)) fun _ h62=>sv h62 (wT h62 (E:=true) rfl rfl rfl) rfl rfl rfl (v:=.bool true) (AA h62 rfl rfl) fun _ h63=>su h63 (wF h63 (E:=true) rfl rfl rfl) rfl rfl rfl fun _ h64=>su h64 (wF h64 (E:=true) rfl rfl rfl) rfl rfl rfl fun _ h65=>sv h65 (wT h65 (E:=true) rfl rfl rfl) rfl rfl rfl (v:=.bool true) (Ca h65 rfl rfl rfl) fun _ h66=>sv1 h66 rfl (v:=.bool true) (Ca h66 rfl rfl rfl) fun _ h67=>mv h67 rfl fun _ h68=>so (wT h68 (E:=true) rfl rfl rfl) fun _ hK16=>BM h68 rfl rfl rfl (xs:=[]) rfl (cF Tryz.func14) rfl (vs:=[]) rfl (args:=#[]) rfl (Oh s4) fun _ v4 w5 r4 h69=>hK16 _ _ ?_
   obtain ⟨rfl,s5⟩:=r4
   refine sv1 h69 rfl (v:=.bool true) (Ca h69 rfl rfl rfl) fun _ h70=>h70.sk [72,71,70,69,68,67,66,65,64,63,62,61,60,59,58,57,56,55,54,53,52,51,50,49,48,9,8,7,6,5,0,1] rfl fun h71=>mv h71 rfl fun _ h72=>h72.sn [4,9,8,7,6,5,0,1] rfl fun h73=>hK15 _ _<|wp_ret ?_
   try simp only [Exit.then,Exit.inBlock]
   refine BC (v:=.bool true) (Dd h73 rfl rfl) h73.defs ?_
   exact ⟨rfl,Sep.tail_un (xs:=[]) (s5.pk [4] rfl)⟩
  ·skip
   have hp2:¬ ((S9.length:Int)≤256):=(dF hc1)
   refine cl h34 rfl (cF Tryz.func16) (ZY (S:=S9) s3 mv_x10.v hk ω) fun _ v5 w6 r5 h74=>?_
   obtain ⟨rfl,s6⟩:=r5
   refine mv h74 rfl fun _ h75=>h75.sn [9,8,7,6,5,4,0,1] rfl fun h76=>hK12 _ _<|sq fun _ hK17=>sqr fun _ hK18=>mv h76 rfl fun _ h77=>bv h77 (z:=.bool true) rfl (cGe _ _ _ _ (decide_eq_true ω)) fun _ h78=>mv h78 rfl fun _ h79=>sv h79 (wT h79 (E:=true) rfl rfl rfl) rfl rfl rfl (v:=ν i) (AA h79 rfl rfl) fun _ h80=>sv h80 (wT h80 (E:=true) rfl rfl rfl) rfl rfl rfl (v:=.bool true) (BD h80 rfl rfl rfl (cLe _ _ _ _ (decide_eq_true ω))) fun _ h81=>sv1 h81 rfl (v:=.bool true) (Ca h81 rfl rfl rfl) fun _ h82=>?_
   refine h82.sn [47,9,8,7,6,5,4,0,1] rfl fun h83=>hK18 _ _<|wcT h83 rfl rfl<|h83.sk [9,8,7,6,5,4,0,1] rfl fun h84=>sqr fun _ hK19=>mv h84 rfl fun _ h85=>bv h85 (z:=.bool true) rfl (cEq _ _ _ _ rfl) fun _ h86=>mv h86 rfl fun _ h87=>sv h87 (wT h87 (E:=true) rfl rfl rfl) rfl rfl rfl (v:=σ []) (AA h87 rfl rfl) fun _ h88=>sv h88 (wT h88 (E:=true) rfl rfl rfl) rfl rfl rfl (v:=.bool true) (BD h88 rfl rfl rfl (Hs _ _ _ _ _ (decide_eq_true rfl))) fun _ h89=>?_
   refine sv1 h89 rfl (v:=.bool true) (Ca h89 rfl rfl rfl) fun _ h90=>mv h90 rfl fun _ h91=>sv h91 (wT h91 (E:=true) rfl rfl rfl) rfl rfl rfl (v:=ν 19) (AA h91 rfl rfl) fun _ h92=>sv h92 (wT h92 (E:=true) rfl rfl rfl) rfl rfl rfl (v:=.bool false) (BD h92 rfl rfl rfl (cEq _ _ _ _ rfl)) fun _ h93=>sv h93 (wT h93 (E:=true) rfl rfl rfl) rfl rfl rfl (v:=σ S9) (AA h93 rfl rfl) fun _ h94=>sv h94 (wT h94 (E:=true) rfl rfl rfl) rfl rfl rfl (v:=ν (S9.length:Int)) (Ez h94 rfl rfl υ9) fun _ h95=>sv h95 (wT h95 (E:=true) rfl rfl rfl) rfl rfl rfl (v:=.bool false) (BD h95 rfl rfl rfl (cLe _ _ _ _ (decide_eq_false ω))) fun _ h96=>sv h96 (wT h96 (E:=true) rfl rfl rfl) rfl rfl rfl (v:=.bool true) (BD h96 rfl rfl rfl (Aam _ υ4 _ _ _)) fun _ h97=>sv1 h97 rfl (v:=.bool true) (Ca h97 rfl rfl rfl) fun _ h98=>mv h98 rfl fun _ h99=>?_
   refine sv h99 (wT h99 (E:=true) rfl rfl rfl) rfl rfl rfl (v:=ν 19) (AA h99 rfl rfl) fun _ h100=>sv h100 (wT h100 (E:=true) rfl rfl rfl) rfl rfl rfl (v:=.bool false) (BD h100 rfl rfl rfl (cEq _ _ _ _ rfl)) fun _ h101=>sv h101 (wT h101 (E:=true) rfl rfl rfl) rfl rfl rfl (v:=.bool false) (AA h101 rfl rfl) fun _ h102=>sv h102 (wF h102 (E:=false) rfl rfl rfl) rfl rfl rfl (v:=ν 19) (AA h102 rfl rfl) fun _ h103=>sv h103 (wF h103 (E:=false) rfl rfl rfl) rfl rfl rfl (v:=.bool true) (BD h103 rfl rfl rfl (cEq _ _ _ _ rfl)) fun _ h104=>sv h104 (wT h104 (E:=true) rfl rfl rfl) rfl rfl rfl (v:=.bool true) (Ca h104 rfl rfl rfl) fun _ h105=>sv1 h105 rfl (v:=.bool true) (Ca h105 rfl rfl rfl) fun _ h106=>mv h106 rfl fun _ h107=>so (wT h107 (E:=true) rfl rfl rfl) fun _ hK20=>BM h107 rfl rfl rfl (xs:=[]) rfl (cF Tryz.func14) rfl (vs:=[]) rfl (args:=#[]) rfl (Oh s6) fun _ v6 w7 r6 h108=>hK20 _ _ ?_
   obtain ⟨rfl,s7⟩:=r6
   refine sv1 h108 rfl (v:=.bool true) (Ca h108 rfl rfl rfl) fun _ h109=>h109.sk [72,71,70,69,68,67,66,65,64,63,62,61,60,59,58,57,56,55,54,53,52,51,50,49,48,9,8,7,6,5,0,1] rfl fun h110=>mv h110 rfl fun _ h111=>h111.sn [4,9,8,7,6,5,0,1] rfl fun h112=>hK19 _ _<|wp_ret ?_
   try simp only [Exit.then,Exit.inBlock]
   refine BC (v:=.bool true) (Dd h112 rfl rfl) h112.defs ?_
   exact ⟨rfl,Sep.tail_un (xs:=[]) (s7.pk [4] rfl)⟩
 refine sqr fun _ hK21=>mv h9 rfl fun _ h113=>sv1 h113 rfl (v:=ν (S.length:Int)) (Ez h113 rfl rfl υ9) fun _ h114=>bv h114 (z:=.bool (decide ((S.length:Int)>300))) rfl (cGt _ _ _ _ rfl) fun _ h115=>h115.sn [15,5,4,0,1] rfl fun h116=>hK21 _ _ ?_
 rcases bC (decide ((S.length:Int)>300)) with hc2 | hc2
 ·skip
  have hp3:(S.length:Int)>300:=(dT hc2)
  refine wcT h116 rfl hc2<|h116.sk [5,4,0,1] rfl fun h117=>wp_region_lit<|mv h117 rfl fun _ h118=>sv1 h118 rfl (v:=σ (S.take 300)) (Qg h118 rfl rfl (vl:=none) (vh:=(some (ν 300))) rfl rfl (fun w=>(fun w=>((slT 9 υ9 S (a:=0) (b:=300) (.inl ⟨rfl,rfl⟩) (.inr ⟨_,rfl,rfl⟩) ω ω) w).trans (by rw [List.drop_zero])) w)) fun _ h119=>h119.sk [17,16,5,4,0] rfl fun h120=>mv h120 rfl fun _ h121=>h121.sk [1,5,4,0] rfl fun h122=>wpList_nil ?_
  exact hJ33 (S.take 300) _ _ (h122.subs rfl) s1 
 ·skip
  have hp4:¬ ((S.length:Int)>300):=(dF hc2)
  refine wcF h116 rfl hc2<|h116.sk [5,4,0,1] rfl fun h123=>wp_skip ?_
  exact hJ33 S _ _ (h123.subs rfl) s1 
theorem Aer {w:World} {R:List Ch} {i e:Int} {S:List UInt8} (hS0:Sep w ([]++R)) (hi:OI i e) :
  CallsR Tryz.prog 6 #[ν i,σ S] w (fun v w'=>v=.bool true∧Sep w' ([]++R)):=by
 have hS:Sep w [Ch.many R]:=Sep.tail_many (xs:=[]) hS0;clear hS0
 have hi9:(i<1∧e=1)∨(32<i∧e=1)∨(i=1∧e=13)∨(6≤i∧i≤32∧e=10):=hi
 refine AS Tryz.func6 rfl (N:=92) Tryz.ntmps6 (by show 2≤92;decide) [(0,ν i),(1,σ S)] rfl fun _ h1=>sqr fun _ hK3=>mv h1 rfl fun _ h4=>wpList_nil<|hK3 _ _<|sqr fun _ hK6=>cl h4 rfl (cF Tryz.func7) (MR hS) fun _ v1 w1 r1 h2=>?_
 obtain ⟨kk_x7,tax8,tcx9,mv_x10,mx_x11,fx_x12,vx_x13,rfl,s1⟩:=r1
 refine mv h2 rfl fun _ h3=>h3.sn [5,4,0,1] rfl fun h5=>hK6 _ _<|sq fun _ hK1=>sqr fun _ hK2=>mv h5 rfl fun _ h6=>bv h6 (z:=.bool false) rfl (Kv _ υ23 _ _ _) fun _ h7=>h7.sn [12,5,4,0,1] rfl fun h10=>hK2 _ _<|wcF h10 rfl rfl<|h10.sk [5,4,0,1] rfl fun h11=>?_
 refine wp_skip<|hK1 _ _<|sq fun K1 hK4=>?_
 have hJ33:∀ (S9:List UInt8) a' w',Kn 92 [(5,π vx_x13),(4,.bool false),(0,ν i),(1,σ S9)] a'→Sep w' [Ae vx_x13 34 [π kk_x7.tg,π mx_x11,π fx_x12],Ae fx_x12 83 [π kk_x7.tg,π mx_x11],Ae mx_x11 103 [π kk_x7.tg],txP kk_x7 tax8 tcx9 mv_x10.M [],Ch.many R]→K1 a' w':=by
  intro S9 a1 w2 h12 s2
  refine hK4 _ _ ?_
  refine sqr fun _ hK5=>mv h12 rfl fun _ h13=>wpList_nil<|hK5 _ _<|sq fun K2 hK7=>?_
  have hJ42:∀ (w8:Int) a' w',Kn 92 [(6,ν w8),(5,π vx_x13),(4,.bool false),(0,ν i),(1,σ S9)] a'→Sep w' [Ae vx_x13 34 [π kk_x7.tg,π mx_x11,π fx_x12],Ae fx_x12 83 [π kk_x7.tg,π mx_x11],Ae mx_x11 103 [π kk_x7.tg],txP kk_x7 tax8 tcx9 mv_x10.M [],Ch.many R]→(((i<1∨32<i)∧w8=1)∨(¬ (i<1∨32<i)∧w8=10))→K2 a' w':=by
   intro w8 a2 w3 h14 s3 h8
   refine hK7 _ _ ?_
   refine sq fun K3 hK8=>?_
   have hJ48:∀ (w9:Int) a' w',Kn 92 [(6,ν w9),(5,π vx_x13),(4,.bool false),(0,ν i),(1,σ S9)] a'→Sep w' [Ae vx_x13 34 [π kk_x7.tg,π mx_x11,π fx_x12],Ae fx_x12 83 [π kk_x7.tg,π mx_x11],Ae mx_x11 103 [π kk_x7.tg],txP kk_x7 tax8 tcx9 mv_x10.M [],Ch.many R]→(e=w9)→K3 a' w':=by
    intro w9 a3 w4 h15 s4 h9
    subst h9
    refine hK8 _ _ ?_
    refine sqr fun _ hK9=>mvs 2 h15 rfl fun _ h16=>fav h16 rfl (fQ 2) fun _ h17=>ldv h17 s4 0 υ32 rfl rfl rfl rfl fun _ h18=>mv h18 rfl fun _ h19=>cl h19 rfl (cF Tryz.func13) (TZ (s4.pk [1,2,3,0,4] rfl) mv_x10.v hi) fun _ v2 w5 r2 h20=>?_
    obtain ⟨rfl,s5⟩:=r2
    refine mvs 5 h20 rfl fun _ h21=>h21.sn [8,7,6,5,4,0,1] rfl fun h22=>hK9 _ _<|sqr fun _ hK10=>mvs 2 h22 rfl fun _ h23=>fav h23 rfl (fQ 2) fun _ h24=>ldv h24 s5 3 υ32 rfl rfl rfl rfl fun _ h25=>mvs 2 h25 rfl fun _ h26=>cl h26 rfl (cF Tryz.func16) (ZZ (S:=S9) s5 mv_x10.v hi) fun _ v3 w6 r3 h27=>?_
    obtain ⟨rfl,s6⟩:=r3
    refine mv h27 rfl fun _ h28=>h28.sn [9,8,7,6,5,4,0,1] rfl fun h29=>hK10 _ _<|sq fun _ hK11=>sqr fun _ hK12=>mv h29 rfl fun _ h30=>bv h30 (z:=.bool (decide (i≥2))) rfl (cGe _ _ _ _ rfl) fun _ h31=>mv h31 rfl fun _ h32=>sg h32 (wT h32 rfl rfl rfl) rfl rfl rfl (v:=ν i) (fun hC1=>by have hq:=(dT hC1);exact AA h32 rfl rfl _) fun _ h33=>sg h33 (wT h33 rfl rfl rfl) rfl rfl rfl (v:=.bool (decide (i≤5))) (fun hC2=>by have hq:=(dT hC2);exact BD h33 rfl (opg rfl hC2) rfl (cLe _ _ _ _ rfl) _) fun _ h34=>sv1 h34 rfl (v:=.bool ((decide (i≥2))&&(decide (i≤5)))) (EL h34 rfl (E:=(decide (i≥2))) (F:=(decide (i≤5))) rfl rfl rfl (fun e=>if_pos (by rw [e];try rfl))) fun _ h35=>?_
    refine h35.sn [47,9,8,7,6,5,4,0,1] rfl fun h36=>hK12 _ _ ?_
    rcases bC ((decide (i≥2))&&(decide (i≤5))) with hc1 | hc1
    ·skip
     have hp1:(i≥2)∧(i≤5):=(And.intro (dT (Ab hc1).1) (dT (Ab hc1).2))
     exact (ω:False).elim
    ·skip
     have hp2:(¬ (i≥2))∨(¬ (i≤5)):=((Aa8 hc1).imp (fun q=>(dF q)) (fun q=>(dF q)))
     refine wcF h36 rfl hc1<|h36.sk [9,8,7,6,5,4,0,1] rfl fun h37=>wp_skip<|hK11 _ _<|sqr fun _ hK13=>mv h37 rfl fun _ h38=>bv h38 (z:=.bool true) rfl (Hs _ _ _ _ _ (decide_eq_true rfl)) fun _ h39=>mv h39 rfl fun _ h40=>sv h40 (wT h40 (E:=true) rfl rfl rfl) rfl rfl rfl (v:=ν e) (AA h40 rfl rfl) fun _ h41=>sv h41 (wT h41 (E:=true) rfl rfl rfl) rfl rfl rfl (v:=ν e) (AA h41 rfl rfl) fun _ h42=>sv h42 (wT h42 (E:=true) rfl rfl rfl) rfl rfl rfl (v:=.bool true) (BD h42 rfl rfl rfl (cEq _ _ _ _ (decide_eq_true rfl))) fun _ h43=>?_
     refine sv1 h43 rfl (v:=.bool true) (Ca h43 rfl rfl rfl) fun _ h44=>mv h44 rfl fun _ h45=>sv h45 (wT h45 (E:=true) rfl rfl rfl) rfl rfl rfl (v:=ν e) (AA h45 rfl rfl) fun _ h46=>sv h46 (wT h46 (E:=true) rfl rfl rfl) rfl rfl rfl (v:=ν e) (AA h46 rfl rfl) fun _ h47=>sv h47 (wT h47 (E:=true) rfl rfl rfl) rfl rfl rfl (v:=.bool true) (BD h47 rfl rfl rfl (cEq _ _ _ _ (decide_eq_true rfl))) fun _ h48=>sv1 h48 rfl (v:=.bool true) (Ca h48 rfl rfl rfl) fun _ h49=>mv h49 rfl fun _ h50=>so (wT h50 (E:=true) rfl rfl rfl) fun _ hK14=>BM h50 rfl rfl rfl (xs:=[.const (.pointer none),.const (.pointer none)]) rfl (cF Tryz.func20) rfl (vs:=[.pointer none,.pointer none]) rfl (args:=#[.pointer none,.pointer none]) rfl (NU s6) fun _ v4 w7 r4 h51=>hK14 _ _ ?_
     obtain ⟨rfl,s7⟩:=r4
     refine sv h51 (wT h51 (E:=true) rfl rfl rfl) rfl rfl rfl (v:=.bool true) (BD h51 rfl rfl rfl (Kv _ υ32 _ _ _)) fun _ h52=>sv1 h52 rfl (v:=.bool true) (Ca h52 rfl rfl rfl) fun _ h53=>mv h53 rfl fun _ h54=>so (wT h54 (E:=true) rfl rfl rfl) fun _ hK15=>BM h54 rfl rfl rfl (xs:=[]) rfl (cF Tryz.func14) rfl (vs:=[]) rfl (args:=#[]) rfl (Oh s7) fun _ v5 w10 r5 h55=>hK15 _ _ ?_
     obtain ⟨rfl,s8⟩:=r5
     refine sv1 h55 rfl (v:=.bool true) (Ca h55 rfl rfl rfl) fun _ h56=>h56.sk [91,90,89,88,87,86,85,84,83,82,81,80,79,78,77,76,75,74,73,9,8,7,6,5,0,1] rfl fun h57=>mv h57 rfl fun _ h58=>h58.sn [4,9,8,7,6,5,0,1] rfl fun h59=>hK13 _ _<|wp_ret ?_
     try simp only [Exit.then,Exit.inBlock]
     refine BC (v:=.bool true) (Dd h59 rfl rfl) h59.defs ?_
     exact ⟨rfl,Sep.tail_un (xs:=[]) (s8.pk [4] rfl)⟩
   refine sqr fun _ hK16=>mv h14 rfl fun _ h60=>bv h60 (z:=.bool (decide (i=1))) rfl (cEq _ _ _ _ rfl) fun _ h61=>h61.sn [25,6,5,4,0,1] rfl fun h62=>hK16 _ _ ?_
   rcases bC (decide (i=1)) with hc2 | hc2
   ·skip
    have hp3:i=1:=(dT hc2)
    refine wcT h62 rfl hc2<|h62.sk [6,5,4,0,1] rfl fun h63=>wp_region_lit<|h63.sk [5,4,0,1] rfl fun h64=>mv h64 rfl fun _ h65=>wpList_nil ?_
    exact hJ48 13 _ _ (h65.subs rfl) s3 ω
   ·skip
    have hp4:¬ (i=1):=(dF hc2)
    refine wcF h62 rfl hc2<|h62.sk [6,5,4,0,1] rfl fun h66=>wp_skip ?_
    exact hJ48 w8 _ _ (h66.subs rfl) s3 ω
  refine sqr fun _ hK17=>mv h13 rfl fun _ h67=>bv h67 (z:=.bool (decide (i<1))) rfl (cLt _ _ _ _ rfl) fun _ h68=>mv h68 rfl fun _ h69=>sg h69 (wF h69 rfl rfl rfl) rfl rfl rfl (v:=ν i) (fun hC3=>by have hq:=(dF (Ct hC3));exact AA h69 rfl rfl _) fun _ h70=>sg h70 (wF h70 rfl rfl rfl) rfl rfl rfl (v:=.bool (decide (i>32))) (fun hC4=>by have hq:=(dF (Ct hC4));exact BD h70 rfl (opg rfl hC4) rfl (cGt _ _ _ _ rfl) _) fun _ h71=>sv1 h71 rfl (v:=.bool ((decide (i<1))||(decide (i>32)))) (Hj h71 rfl (E:=(decide (i<1))) (F:=(decide (i>32))) rfl rfl rfl (fun e=>if_pos (by rw [e];try rfl))) fun _ h72=>h72.sn [23,6,5,4,0,1] rfl fun h73=>hK17 _ _ ?_
  rcases bC ((decide (i<1))||(decide (i>32))) with hc3 | hc3
  ·skip
   have hp5:(i<1)∨(i>32):=((orT hc3).imp (fun q=>(dT q)) (fun q=>(dT q)))
   refine wcT h73 rfl hc3<|h73.sk [6,5,4,0,1] rfl fun h74=>wp_region_lit<|h74.sk [5,4,0,1] rfl fun h75=>mv h75 rfl fun _ h76=>wpList_nil ?_
   exact hJ42 1 _ _ (h76.subs rfl) s2 ω
  ·skip
   have hp6:(¬ (i<1))∧(¬ (i>32)):=(And.intro (dF (orF hc3).1) (dF (orF hc3).2))
   refine wcF h73 rfl hc3<|h73.sk [6,5,4,0,1] rfl fun h77=>wp_skip ?_
   exact hJ42 10 _ _ (h77.subs rfl) s2 ω
 refine sqr fun _ hK18=>mv h11 rfl fun _ h78=>sv1 h78 rfl (v:=ν (S.length:Int)) (Ez h78 rfl rfl υ9) fun _ h79=>bv h79 (z:=.bool (decide ((S.length:Int)>300))) rfl (cGt _ _ _ _ rfl) fun _ h80=>h80.sn [15,5,4,0,1] rfl fun h81=>hK18 _ _ ?_
 rcases bC (decide ((S.length:Int)>300)) with hc4 | hc4
 ·skip
  have hp7:(S.length:Int)>300:=(dT hc4)
  refine wcT h81 rfl hc4<|h81.sk [5,4,0,1] rfl fun h82=>wp_region_lit<|mv h82 rfl fun _ h83=>sv1 h83 rfl (v:=σ (S.take 300)) (Qg h83 rfl rfl (vl:=none) (vh:=(some (ν 300))) rfl rfl (fun w=>(fun w=>((slT 9 υ9 S (a:=0) (b:=300) (.inl ⟨rfl,rfl⟩) (.inr ⟨_,rfl,rfl⟩) ω ω) w).trans (by rw [List.drop_zero])) w)) fun _ h84=>h84.sk [17,16,5,4,0] rfl fun h85=>mv h85 rfl fun _ h86=>h86.sk [1,5,4,0] rfl fun h87=>wpList_nil ?_
  exact hJ33 (S.take 300) _ _ (h87.subs rfl) s1 
 ·skip
  have hp8:¬ ((S.length:Int)>300):=(dF hc4)
  refine wcF h81 rfl hc4<|h81.sk [5,4,0,1] rfl fun h88=>wp_skip ?_
  exact hJ33 S _ _ (h88.subs rfl) s1 
end
section
theorem FilesElse_walk (w:World) (i:Int) (_:(Lit.int IntKind.i64 i).wf=true) (s:ByteArray) (_:s.size≤maxLen):Calls Tryz.prog 6 #[ν i,.string s] w fun e w'=>e=.returned (.bool true)∧Below w.heap.size w w':=by
  obtain ⟨S,rfl⟩:∃ S,s=Ak S:=⟨s.data.toList,by cases s;simp [Ak]⟩
  have hS:Sep w ([]++[Zw w w.heap.size]):=Sep.start w
  have z:CallsR Tryz.prog 6 #[ν i,σ S] w (fun v w'=>v=.bool true∧Sep w' ([]++[Zw w w.heap.size])):=by
    by_cases h:2≤i∧i≤5
    · exact Aeq hS h
    · exact Aer (e:=if i<1∨32<i then 1 else if i=1 then 13 else 10) hS (by unfold OI;(repeat' split)<;>omega)
  refine Calls.mono z fun e w' ⟨v,e1,e2,h⟩=>⟨by rw [e1,e2],?_⟩
  have o:Below w.heap.size w w'∧_:=h.get 0 rfl
  exact o.1
end
end Go.Proofs.YtbfgjinpchbajaaGreatDoor
