/- Parts of the proof. -/
import Derived.Scope
import Derived.Lib.UnsafeStr
import Derived.Shelf.RegionOpenPlain
import Derived.Test.YtbfgjinpchbajaaGreatDoorQam
namespace Go.Proofs.YtbfgjinpchbajaaGreatDoor
open Go.RowKit
set_option linter.unusedSimpArgs false
set_option linter.unusedVariables false
set_option linter.unusedSectionVars false
set_option maxRecDepth 100000
set_option maxHeartbeats 8000000
section
def szX (x:InoT) (n:Int):InoT:={ x with s:=n }
def alS (M:MemM) (sp:Int) (x:InoT) (P:List PtM):Nat→InoT×List PtM
 | 0=>(x,P)
 | k+1=>if (alS M sp x P k).1.blk k≠0 then alS M sp x P k else ((alS M sp x P k).1.setB k (bN M (alS M sp x P k).2 sp),bP M (alS M sp x P k).2 sp)
theorem Afa {M:MemM} {sp:Int} {x:InoT} {P:List PtM} {k:Nat} (h:(alS M sp x P k).1.blk k≠0):alS M sp x P (k+1)=alS M sp x P k:=if_pos h
theorem Ae9 {M:MemM} {sp:Int} {x:InoT} {P:List PtM} {k:Nat} (h:¬ (alS M sp x P k).1.blk k≠0):alS M sp x P (k+1)=((alS M sp x P k).1.setB k (bN M (alS M sp x P k).2 sp),bP M (alS M sp x P k).2 sp):=if_neg h
def GE (X:List UInt8) (k:Nat):List UInt8:=(X.take ((((k+1:Nat):Int)*64).toNat)).drop (((k:Int)*64).toNat)
theorem Nw {X:List UInt8} {n k:Nat} (h:X.length=n*64) (hk:k<n):((X.take ((((k+1:Nat):Int)*64).toNat)).drop (((k:Int)*64).toNat)).length=64:=by
 rw [List.length_drop,List.length_take];omega
def wrP (M:MemM) (z:InoT) (X:List UInt8) (P:List PtM):Nat→List PtM
 | 0=>P
 | k+1=>stP M (wrP M z X P k) 7 (z.blk k) (GE X k)
theorem XB {w:World} {R:List Ch} {fx mx:Nat} {K:VolK} {ta:Option Addr} {tc:Nat} {M:MemM} {P P1:List PtM} {x y:InoT} {n0:Nat} (hS:Sep w ([Ae fx 83 [π K.tg,π mx],mtC mx K,txP K ta tc M P]++R)) (hM:M.V.length=23168) (hn0:Bh x.s=(n0:Int)) (hs:0≤x.s∧x.s≤256) (hxb:∀ k,-9223372036854775808≤x.blk k∧x.blk k≤9223372036854775807) (hcX:Bv x n0 (4-n0)=y) (hcE:KP M P x n0=0) (hcP:Jv M P x n0=P1) :
  CallsR Tryz.prog 73 #[π fx,.agg (Ap x).toArray] w (fun v w'=>∃ ta' tc',v=.tuple #[.agg (Ap y).toArray,ν 0]∧Sep w' ([Ae fx 83 [π K.tg,π mx],mtC mx K,txP K ta' tc' M P1]++R)):=
 Calls.mono (Afl hS hM hn0 hs hxb) fun e w' q=>by rw [hcX,hcE,hcP] at q;exact q
theorem Sa {w:World} {R:List Ch} {mx:Nat} {K:VolK} {ta:Option Addr} {tc:Nat} {M:MemM} {P:List PtM} {spare:Int} (hS:Sep w ([mtC mx K,txP K ta tc M P]++R)) (hM:M.V.length=23168) (hs:-9223372036854775808≤spare∧spare≤9223372036854775807) (hb:bE M P spare=0) :
  CallsR Tryz.prog 74 #[π mx,ν spare] w (fun v w'=>∃ ta' tc',v=.tuple #[ν (bN M P spare),ν 0]∧Sep w' ([mtC mx K,txP K ta' tc' M (bP M P spare)]++R)):=
 Calls.mono (Uk hS hM hs) fun e w' q=>by rw [hb] at q;exact q
theorem Nk {w:World} {R:List Ch} {K:VolK} {ta:Option Addr} {tc:Nat} {M:MemM} {P:List PtM} {a:Option Addr} {c:Nat} {xs:List UInt8} {nm:Int} {q:PartT} (hS:Sep w (txP K ta tc M P::R)) (hr:Bp w a c xs) (hq:Bj 7 nm=some q) (he:stE M P 7 nm 64=0) (ha:Ho q.a) (hx:xs.length=64) :
  CallsR Tryz.prog 75 #[pG K.tg,ν q.a,.slice a xs.length c] w (fun v w'=>∃ ta' tc',v=ν 0∧Sep w' (txP K ta' tc' M (stP M P 7 nm xs)::R)):=
 Calls.mono (UV hS hr ha ω) fun e w' z=>by
  have e1:NC M P q.a xs.length=0:=by unfold stE at he;rw [hq] at he;rw [hx];exact he
  have e2:stP M P 7 nm xs=Ls M P q.a xs:=by unfold stP;rw [hq]
  rw [e1,← e2] at z;exact z
theorem Aey {w:World} {R:List Ch} {fx:Nat} {mx:Nat} {K:VolK} {ta:Option Addr} {tc:Nat} {M:MemM} {P:List PtM} {i sp:Int} {x y z:InoT} {n0:Nat} {S:List UInt8} {P1 P2:List PtM} (hS0:Sep w ([Ae fx 83 [π K.tg,π mx],Ae mx 103 [π K.tg],txP K ta tc M P]++R)) (hM:M.V.length=23168) (hS256:S.length≤256) (hsp:-9223372036854775808≤sp∧sp≤9223372036854775807) (hn0:Bh (S.length:Int)=(n0:Int)) (hxb:∀ k,-9223372036854775808≤x.blk k∧x.blk k≤9223372036854775807) (hcX:Bv (szX x (S.length:Int)) n0 (4-n0)=y) (hcE:KP M P (szX x (S.length:Int)) n0=0) (hcP:Jv M P (szX x (S.length:Int)) n0=P1) (hal:∀ k,k<n0→(alS M sp y P1 k).1.blk k=0→bE M (alS M sp y P1 k).2 sp=0) (hz:alS M sp y P1 n0=(z,P2)) (hfd:∀ k,k<n0→∃ q,Bj 7 (z.blk k)=some q) (hst:∀ k,k<n0→stE M (wrP M z (rzL S (n0*64)) P2 k) 7 (z.blk k) 64=0) :
  CallsR Tryz.prog 41 #[π fx,ν i,.agg (Ap x).toArray,σ S,ν sp] w (fun v w'=>∃ ta' tc',v=ν (Cg M (wrP M z (rzL S (n0*64)) P2 n0) i z)∧Sep w' ([Ae fx 83 [π K.tg,π mx],Ae mx 103 [π K.tg],txP K ta' tc' M (BE M (wrP M z (rzL S (n0*64)) P2 n0) i z)]++R)):=by
 have hS:Sep w [Ae fx 83 [π K.tg,π mx],Ae mx 103 [π K.tg],txP K ta tc M P,Ch.many R]:=Sep.tail_many (xs:=[_,_,_]) hS0;clear hS0
 have hn4:n0≤4:=JO hn0 ω
 have hrz:=IA S (n0*64)
 refine Bd Tryz.func41 rfl (N:=104) Tryz.ntmps41 (by show 5≤104;decide) [(0,π fx),(1,ν i),(2,.agg (Ap x).toArray),(3,σ S),(4,ν sp)] rfl fun _ h1=>sqr fun _ hK3=>so (wn rfl) fun _ hK1=>Kh h1 rfl rfl rfl rfl rfl (z:=(Ap x)) rfl hS fun _ g4 w7 h5 s8 _ _=>hK1 _ _ ?_
 refine mv h5 rfl fun _ h2=>wpList_nil<|hK3 _ _ ?_
 refine wp_scope_straight ?_
 refine sqr fun _ hK2=>mv h2 rfl fun _ h3=>sv1 h3 rfl (v:=ν (S.length:Int)) (FV h3 rfl rfl υ9) fun _ h4=>fav h4 rfl (fQ 2) fun _ h6=>st1 h6 s8 0 rfl rfl κ rfl rfl rfl rfl fun _ w2 h7 s1 _=>h7.sn [10,7,0,1,2,3,4] rfl fun h8=>hK2 _ _<|sqr fun _ hK4=>mv h8 rfl fun _ h9=>sw1 h9 rfl (v:=.agg (Ap (⟨x.k,x.l,(S.length:Int),x.b0,x.b1,x.b2,x.b3,x.o0,x.o1,x.o2,x.o3,x.o4,x.o5,x.o6,x.o7⟩:InoT)).toArray) (rld h9 rfl rfl (ldA υ45 rfl (n:=15) κ (s1.get 0 rfl:Blk _ _ _ _) rfl rfl)) fun _ h10=>?_
 refine cl h10 rfl (cF Tryz.func73) (XB (x:=(szX x (S.length:Int))) (s1.pk [1,2,3,0,4] rfl) hM hn0 (by show 0≤(S.length:Int)∧(S.length:Int)≤256;omega) hxb hcX hcE hcP) fun _ v1 w3 r1 h11=>?_
 obtain ⟨tax33,tcx34,rfl,s2⟩:=r1
 refine mvs 3 h11 rfl fun _ h12=>stA h12 s2 3 rfl rfl rfl κ rfl rfl rfl rfl fun _ w4 h13 s3 _=>mv h13 rfl fun _ h14=>h14.sn [11,10,7,0,1,2,3,4] rfl fun h15=>hK4 _ _<|sq fun _ hK5=>sqr fun _ hK6=>mv h15 rfl fun _ h16=>bv h16 (z:=.bool false) rfl (cNe _ _ _ _ rfl) fun _ h17=>h17.sn [28,11,10,7,0,1,2,3,4] rfl fun h18=>hK6 _ _ ?_
 refine wcF h18 rfl rfl<|h18.sk [11,10,7,0,1,2,3,4] rfl fun h19=>wp_skip<|hK5 _ _<|sqr fun _ hK7=>mv h19 rfl fun _ h20=>sv1 h20 rfl (v:=ν (S.length:Int)) (FV h20 rfl rfl υ9) fun _ h21=>cl h21 rfl (cF Tryz.func17) (GK s3 hn0 ω) fun _ v2 w5 r2 h22=>?_
 obtain ⟨rfl,s4⟩:=r2
 refine mv h22 rfl fun _ h23=>h23.sn [12,11,10,7,0,1,2,3,4] rfl fun h24=>hK7 _ _<|sq fun _ hK8=>wp_label ?_
 refine hK8 _ _ ?_
 refine sq fun _ hK9=>sqr fun _ hK10=>mv h24 rfl fun _ h25=>wpList_nil<|hK10 _ _<|wp_block ?_
 refine Nu (fun (k:Nat) (ta2:Option Addr) (tc2:Nat) a' w'=>Kn 104 [(33,ν (k:Int)),(12,ν (n0:Int)),(10,ν 0),(7,π g4),(0,π fx),(1,ν i),(2,.agg (Ap x).toArray),(3,σ S),(4,ν sp)] a'∧Sep w' [Ae fx 83 [π K.tg,π mx],Ae mx 103 [π K.tg],txP K ta2 tc2 M ((alS M sp y P1 k).2),Ae g4 45 (Ap ((alS M sp y P1 k).1)),Ch.many R]∧(k≤n0)) (fun (k:Nat) (ta2:Option Addr) (tc2:Nat)=>4-k) 0 tax33 tcx34 ⟨h25.subs rfl,s4,Nat.zero_le _⟩ ?_
 rintro k1 ta292 tc293 a1 w6 ⟨h26,s5,hk90⟩ K1 hK11
 refine sqr fun _ hK12=>bv h26 (z:=.bool (decide ((k1:Int)<4))) rfl (cLt _ _ _ _ rfl) fun _ h27=>wpList_nil<|hK12 _ _<|sq fun _ hK13=>?_
 rcases bC (decide ((k1:Int)<4)) with hc1 | hc1
 ·skip
  have hp1:(k1:Int)<4:=(dT hc1)
  refine wcT h27 rfl hc1<|h27.sk [33,12,10,7,0,1,2,3,4] rfl fun h28=>wp_skip<|hK13 _ _<|sq fun _ hK14=>wp_block ?_
  refine sqr fun _ hK15=>mvs 2 h28 rfl fun _ h29=>h29.sn [13,33,12,10,7,0,1,2,3,4] rfl fun h30=>hK15 _ _<|sq fun _ hK16=>wp_block ?_
  refine sqr fun _ hK17=>mvs 2 h30 rfl fun _ h31=>bv h31 (z:=.bool (decide ((k1:Int)=(n0:Int)))) rfl (cEq _ _ _ _ rfl) fun _ h32=>mv h32 rfl fun _ h33=>h33.sn [36,13,33,12,10,7,0,1,2,3,4] rfl fun h34=>hK17 _ _ ?_
  rcases bC (decide ((k1:Int)=(n0:Int))) with hc2 | hc2
  ·skip
   have hp2:(k1:Int)=(n0:Int):=(dT hc2)
   refine wcT h34 rfl hc2<|h34.sk [13,33,12,10,7,0,1,2,3,4] rfl fun h35=>wp_exit ?_
   refine hK9 _ _ ?_
   refine sqr fun _ hK18=>mvs 2 h35 rfl fun _ h36=>bv h36 (z:=ν ((n0:Int)*64)) rfl (RY _ _ _ ω ω ω) fun _ h37=>cl h37 rfl (cF Tryz.func58) (FR (L:=S) (n:=(n0*64)) (i:=(n0:Int)*64) s5 (by first | rfl | omega) ω ω) fun _ v3 w8 r3 h38=>?_
   obtain ⟨rfl,s6⟩:=r3
   refine h38.sk [65,64,63,62,13,33,12,10,7,0,1,2,4] rfl fun h39=>mv h39 rfl fun _ h40=>h40.sn [3,13,33,12,10,7,0,1,2,4] rfl fun h41=>hK18 _ _<|sq fun _ hK19=>sqr fun _ hK20=>mvs 2 h41 rfl fun _ h42=>wpList_nil<|hK20 _ _<|wp_block ?_
   have hk9:k1=n0:=ω
   refine Nu (fun (k:Nat) (ta2:Option Addr) (tc2:Nat) a' w'=>Kn 104 [(67,ν (k:Int)),(66,ν (n0:Int)),(3,σ (rzL S (n0*64))),(13,ν (k1:Int)),(33,ν (k1:Int)),(12,ν (n0:Int)),(10,ν 0),(7,π g4),(0,π fx),(1,ν i),(2,.agg (Ap x).toArray),(4,ν sp)] a'∧Sep w' [Ae fx 83 [π K.tg,π mx],Ae mx 103 [π K.tg],txP K ta2 tc2 M (wrP M z (rzL S (n0*64)) P2 k),Ae g4 45 (Ap z),Ch.many R]∧(k≤n0)) (fun (k:Nat) (ta2:Option Addr) (tc2:Nat)=>n0-k) 0 ta292 tc293 ⟨h42.subs rfl,(show Sep _ [Ae fx 83 [π K.tg,π mx],Ae mx 103 [π K.tg],txP K ta292 tc293 M (wrP M z (rzL S (n0*64)) P2 0),Ae g4 45 (Ap z),Ch.many R] from by have z9:=s6;rw [hk9,hz] at z9;exact z9),Nat.zero_le _⟩ ?_
   rintro k2 ta2153 tc2154 a2 w9 ⟨h43,s7,hk151⟩ K2 hK21
   refine sqr fun _ hK22=>bv h43 (z:=.bool (decide ((k2:Int)<(n0:Int)))) rfl (cLt _ _ _ _ rfl) fun _ h44=>wpList_nil<|hK22 _ _<|sq fun _ hK23=>?_
   rcases bC (decide ((k2:Int)<(n0:Int))) with hc3 | hc3
   ·skip
    have hp3:(k2:Int)<(n0:Int):=(dT hc3)
    refine wcT h44 rfl hc3<|h44.sk [67,66,3,13,33,12,10,7,0,1,2,4] rfl fun h45=>wp_skip<|hK23 _ _<|sq fun _ hK24=>wp_block ?_
    refine sqr fun _ hK25=>mvs 2 h45 rfl fun _ h46=>h46.sn [14,67,66,3,13,33,12,10,7,0,1,2,4] rfl fun h47=>hK25 _ _<|sqr fun _ hK26=>mv h47 rfl fun _ h48=>fav h48 rfl (fQ 3) fun _ h49=>sv1 h49 rfl (v:=.pointer (some ⟨g4,3+k2,none⟩)) (BS h49 rfl rfl rfl (fun w=>Lq g4 k2 ω ω w)) fun _ h50=>sw1 h50 rfl (v:=ν (z.blk k2)) (rld h50 rfl rfl (ldB υ3 rfl (s7.get 3 rfl:Blk _ _ _ _) (Ee z ω))) fun _ h51=>?_
    obtain ⟨q178,hq1⟩:=hfd k2 ω
    have hq179i:=DA hq1
    have hcb9:=Nw hrz (ω:k2<n0)
    refine cl h51 rfl (cF Tryz.func34) (Bl s7 (JC (k:=q178.k) (n:=q178.n) (a:=q178.a) (s:=q178.s) hq1 _)) fun _ v4 w10 r4 h52=>?_
    obtain ⟨rfl,s9⟩:=r4
    refine mvs 3 h52 rfl fun _ h53=>so (wn rfl) fun _ hK27=>AW h53 rfl rfl rfl rfl (z:=[ν 0,ν 0,ν 0,ν 0]) (fun _=>rfl) s9 fun _ g1 w11 h54 s10 _ _=>hK27 _ _ ?_
    refine stA h54 s10 0 rfl rfl rfl κ rfl rfl rfl rfl fun _ w12 h55 s11 _=>mv h55 rfl fun _ h56=>h56.sn [15,14,67,66,3,13,33,12,10,7,0,1,2,4] rfl fun h57=>hK26 _ _<|sq fun _ hK28=>?_
    have s12:=s11.drew
    refine wp_region_held_drew (S:=fun w'=>Sep w' [Ae g1 78 [ν q178.k,ν q178.n,ν q178.a,ν q178.s],Ae fx 83 [π K.tg,π mx],Ae mx 103 [π K.tg],Ae g4 45 (Ap z),Ch.many R]) κ (s12.pk [0,1,2,4,5] rfl) (fun hq2=>?_)
    refine tv1 hq2 h57 0 rfl rfl (v:=π fx) (fun w1 _=>(AG h57 rfl rfl) w1) fun _ h58=>?_
    refine tv1 hq2 h58 1 rfl rfl (v:=π fx) (fun w1 _=>(Lt h58 rfl rfl) w1) fun _ h59=>?_
    refine tv1 hq2 h59 2 rfl rfl (v:=π fx) (fun w1 _=>(rfa h59 rfl rfl (fQ 0)) w1) fun _ h60=>?_
    refine tv1 hq2 h60 3 rfl rfl (v:=π K.tg) (fun w1 hSw=>(rld h60 rfl rfl (ldB υ30 rfl (hSw.get 1 rfl:Blk _ _ _ _) rfl))) fun _ h61=>?_
    refine tv1 hq2 h61 4 rfl rfl (v:=.pointer (some ⟨g1,2,none⟩)) (fun w1 _=>(rfa h61 rfl rfl (fQ 2)) w1) fun _ h62=>?_
    refine tv1 hq2 h62 5 rfl rfl (v:=ν q178.a) (fun w1 hSw=>(rld h62 rfl rfl (ldB υ3 rfl (hSw.get 0 rfl:Blk _ _ _ _) rfl))) fun _ h63=>?_
    refine tv1 hq2 h63 6 rfl rfl (v:=σ (rzL S (n0*64))) (fun w1 _=>(AG h63 rfl rfl) w1) fun _ h64=>?_
    refine tv1 hq2 h64 7 rfl rfl (v:=ν (k2:Int)) (fun w1 _=>(AG h64 rfl rfl) w1) fun _ h65=>?_
    refine tv1 hq2 h65 8 rfl rfl (v:=ν ((k2:Int)*64)) (fun w1 _=>(Co h65 rfl rfl rfl (RY _ _ _ ω ω ω)) w1) fun _ h66=>?_
    refine tv1 hq2 h66 9 rfl rfl (v:=ν (k2:Int)) (fun w1 _=>(AG h66 rfl rfl) w1) fun _ h67=>?_
    refine tv1 hq2 h67 10 rfl rfl (v:=ν ((k2+1:Nat):Int)) (fun w1 _=>(Co h67 rfl rfl rfl (CO _ _ _ ω ω ω)) w1) fun _ h68=>?_
    refine tv1 hq2 h68 11 rfl rfl (v:=ν (((k2+1:Nat):Int)*64)) (fun w1 _=>(Co h68 rfl rfl rfl (RY _ _ _ ω ω ω)) w1) fun _ h69=>?_
    refine tv1 hq2 h69 12 rfl rfl (v:=σ (((rzL S (n0*64)).take ((((k2+1:Nat):Int)*64).toNat)).drop (((k2:Int)*64).toNat))) (fun w1 _=>(TA h69 rfl rfl (vl:=(some (ν ((k2:Int)*64)))) (vh:=(some (ν (((k2+1:Nat):Int)*64)))) rfl rfl (fun w=>(slT 9 υ9 (rzL S (n0*64)) (a:=((k2:Int)*64).toNat) (b:=(((k2+1:Nat):Int)*64).toNat) (.inr ⟨_,rfl,ω⟩) (.inr ⟨_,rfl,ω⟩) ω ω) w)) w1) fun _ h70=>?_
    refine to_ 13 rfl (wn rfl) κ fun _ hK29=>Vb h70 rfl rfl rfl rfl (X:=((rzL S (n0*64)).take ((((k2+1:Nat):Int)*64).toNat)).drop (((k2:Int)*64).toNat)) rfl υ9 υ74 υ5 (by unfold maxLen;omega) s12 fun _ g2 c241 w13 h71 s13=>?_
    refine hK29 _ _ (s13.pk [1,2,3,5,6] rfl) fun hq3=>?_
    refine to_ 14 rfl (wn rfl) κ fun _ hK30=>BM h71 rfl rfl rfl (xs:=[.tmp 81,.tmp 83,.tmp 91]) rfl (cF Tryz.func75) rfl (vs:=[π K.tg,ν q178.a,.slice (some ⟨g2,0,none⟩) ((((rzL S (n0*64)).take ((((k2+1:Nat):Int)*64).toNat)).drop (((k2:Int)*64).toNat)).length) c241]) rfl (args:=#[π K.tg,ν q178.a,.slice (some ⟨g2,0,none⟩) ((((rzL S (n0*64)).take ((((k2+1:Nat):Int)*64).toNat)).drop (((k2:Int)*64).toNat)).length) c241]) rfl (Nk (xs:=((rzL S (n0*64)).take ((((k2+1:Nat):Int)*64).toNat)).drop (((k2:Int)*64).toNat)) (s13.pk [4,0,1,2,3,5,6] rfl) (s13.get 0 rfl:Bp _ _ _ _∧_).1 hq1 (by have z9:=hst k2 ω;exact z9) (by unfold Ho;omega) (Nw hrz ω)) fun _ v5 w14 r5 h72=>?_
    obtain ⟨tax248,tcx249,rfl,s14⟩:=r5
    refine hK30 _ _ (s14.pk [2,3,4,5,6] rfl) fun hq4=>?_
    refine tv1 hq4 h72 15 rfl rfl (v:=ν 0) (fun w1 _=>(BJ h72 rfl rfl) w1) fun _ h73=>?_
    refine h73.sk [17,15,14,67,66,3,13,33,12,10,7,0,1,2,4] rfl fun h74=>?_
    refine wpAnyH_done κ ?_ _
    refine hK28 _ _ ?_
    refine sqr fun _ hK31=>mv h74 rfl fun _ h75=>bv h75 (z:=.bool false) rfl (cNe _ _ _ _ rfl) fun _ h76=>h76.sn [94,17,15,14,67,66,3,13,33,12,10,7,0,1,2,4] rfl fun h77=>hK31 _ _<|wcF h77 rfl rfl<|h77.sk [17,15,14,67,66,3,13,33,12,10,7,0,1,2,4] rfl fun h78=>wp_skip<|hK24 _ _<|wp_region_lit<|bv h78 (z:=ν ((k2+1:Nat):Int)) rfl (CO _ _ _ ω ω ω) fun _ h79=>?_
    refine h79.sk [96,17,15,14,66,3,13,33,12,10,7,0,1,2,4] rfl fun h80=>mv h80 rfl fun _ h81=>h81.sk [67,17,15,14,66,3,13,33,12,10,7,0,1,2,4] rfl fun h82=>wpList_nil ?_
    exact hK21 (k2+1) tax248 tcx249 _ _ ⟨h82.subs rfl,(s14.pk [3,4,0,5,6] rfl),ω⟩ ω
   ·skip
    have hp4:¬ ((k2:Int)<(n0:Int)):=(dF hc3)
    refine wcF h44 rfl hc3<|h44.sk [67,66,3,13,33,12,10,7,0,1,2,4] rfl fun h83=>wp_exit ?_
    refine hK19 _ _ ?_
    refine sq fun _ hK32=>?_
    have s15:=s7.drew
    refine wp_region_held_drew (S:=fun w'=>Sep w' [Ae fx 83 [π K.tg,π mx],Ae mx 103 [π K.tg],Ae g4 45 (Ap z),Ch.many R]) κ (s15.pk [0,1,3,4] rfl) (fun hq5=>?_)
    refine tv1 hq5 h83 0 rfl rfl (v:=π fx) (fun w1 _=>(AG h83 rfl rfl) w1) fun _ h84=>?_
    refine tv1 hq5 h84 1 rfl rfl (v:=π fx) (fun w1 _=>(Lt h84 rfl rfl) w1) fun _ h85=>?_
    refine tv1 hq5 h85 2 rfl rfl (v:=.pointer (some ⟨fx,1,none⟩)) (fun w1 _=>(rfa h85 rfl rfl (fQ 1)) w1) fun _ h86=>?_
    refine tv1 hq5 h86 3 rfl rfl (v:=π mx) (fun w1 hSw=>(rld h86 rfl rfl (ldB υ31 rfl (hSw.get 0 rfl:Blk _ _ _ _) rfl))) fun _ h87=>?_
    refine tv1 hq5 h87 4 rfl rfl (v:=ν i) (fun w1 _=>(AG h87 rfl rfl) w1) fun _ h88=>?_
    refine tv1 hq5 h88 5 rfl rfl (v:=.agg (Ap z).toArray) (fun w1 hSw=>(rld h88 rfl rfl (ldA υ45 rfl (n:=15) κ (hSw.get 2 rfl:Blk _ _ _ _) rfl rfl))) fun _ h89=>?_
    refine to_ 6 rfl (wn rfl) κ fun _ hK33=>BM h89 rfl rfl rfl (xs:=[.tmp 100,.tmp 101,.tmp 102]) rfl (cF Tryz.func47) rfl (vs:=[π mx,ν i,.agg (Ap z).toArray]) rfl (args:=#[π mx,ν i,.agg (Ap z).toArray]) rfl (Ex (i:=i) (x:=z) (s15.pk [1,2,0,3,4] rfl) hM) fun _ v6 w15 r6 h90=>?_
    obtain ⟨tax291,tcx292,rfl,s16⟩:=r6
    refine hK33 _ _ (s16.pk [2,0,3,4] rfl) fun hq6=>h90.sk [103,102,101,100,99,98,97,67,66,3,13,33,12,7,0,1,2,4] rfl fun h91=>?_
    refine tv1 hq6 h91 7 rfl rfl (v:=ν (Cg M (wrP M z (rzL S (n0*64)) P2 k2) i z)) (fun w1 _=>(BJ h91 rfl rfl) w1) fun _ h92=>?_
    refine h92.sk [10,67,66,3,13,33,12,7,0,1,2,4] rfl fun h93=>?_
    refine wpAnyH_done κ ?_ _
    refine hK32 _ _ ?_
    refine wp_ret ?_
    try simp only [Exit.then,Exit.inBlock,Exit.noGoto]
    refine BR (v:=ν (Cg M (wrP M z (rzL S (n0*64)) P2 k2) i z)) (Ef h93 rfl rfl) h93.defs ?_
    obtain rfl:n0=k2:=ω
    exact ⟨tax291,tcx292,rfl,Sep.tail_un (xs:=[_,_,_]) (s16.pk [2,0,1,4] rfl)⟩
  ·skip
   have hp5:¬ ((k1:Int)=(n0:Int)):=(dF hc2)
   refine wcF h34 rfl hc2<|h34.sk [13,33,12,10,7,0,1,2,3,4] rfl fun h94=>sqr fun _ hK34=>mv h94 rfl fun _ h95=>fav h95 rfl (fQ 3) fun _ h96=>sv1 h96 rfl (v:=.pointer (some ⟨g4,3+k1,none⟩)) (BS h96 rfl rfl rfl (fun w=>Lq g4 k1 ω ω w)) fun _ h97=>sw1 h97 rfl (v:=ν (((alS M sp y P1 k1).1).blk k1)) (rld h97 rfl rfl (ldB υ3 rfl (s5.get 3 rfl:Blk _ _ _ _) (Ee ((alS M sp y P1 k1).1) ω))) fun _ h98=>bv h98 (z:=.bool (decide (((alS M sp y P1 k1).1).blk k1≠0))) rfl (cNe _ _ _ _ rfl) fun _ h99=>mv h99 rfl fun _ h100=>h100.sk [40,13,33,12,10,7,0,1,2,3,4] rfl fun h101=>?_
   refine wpList_nil<|hK34 _ _ ?_
   rcases bC (decide (((alS M sp y P1 k1).1).blk k1≠0)) with hc4 | hc4
   ·skip
    have hp6:((alS M sp y P1 k1).1).blk k1≠0:=(dT hc4)
    refine wcT h101 rfl hc4<|h101.sk [13,33,12,10,7,0,1,2,3,4] rfl fun h102=>wp_exit ?_
    refine hK14 _ _ ?_
    refine wp_region_lit<|bv h102 (z:=ν ((k1+1:Nat):Int)) rfl (CO _ _ _ ω ω ω) fun _ h103=>h103.sk [61,13,12,10,7,0,1,2,3,4] rfl fun h104=>mv h104 rfl fun _ h105=>h105.sk [33,13,12,10,7,0,1,2,3,4] rfl fun h106=>wpList_nil ?_
    have ha9:=Afa (M:=M) (sp:=sp) (x:=y) (P:=P1) (k:=k1) ω
    exact hK11 (k1+1) ta292 tc293 _ _ ⟨h106.subs rfl,(by rw [ha9];exact s5),ω⟩ ω
   ·skip
    have hp7:¬ (((alS M sp y P1 k1).1).blk k1≠0):=(dF hc4)
    refine wcF h101 rfl hc4<|h101.sk [13,33,12,10,7,0,1,2,3,4] rfl fun h107=>wp_skip<|hK16 _ _<|sqr fun _ hK35=>mvs 3 h107 rfl fun _ h108=>fav h108 rfl (fQ 1) fun _ h109=>ldv h109 s5 0 υ31 rfl rfl rfl rfl fun _ h110=>mv h110 rfl fun _ h111=>?_
    have hb344:=hal k1 ω ω
    refine cl h111 rfl (cF Tryz.func74) (Sa (spare:=sp) (s5.pk [1,2,0,3,4] rfl) hM ω hb344) fun _ v7 w16 r7 h112=>?_
    obtain ⟨tax345,tcx346,rfl,s17⟩:=r7
    refine mvs 3 h112 rfl fun _ h113=>fav h113 rfl (fQ 3) fun _ h114=>sv1 h114 rfl (v:=.pointer (some ⟨g4,3+k1,none⟩)) (BS h114 rfl rfl rfl (fun w=>Lq g4 k1 ω ω w)) fun _ h115=>so (wn rfl) fun _ hK36=>FH h115 rfl rfl s17 3 rfl rfl rfl [ν (bN M (alS M sp y P1 k1).2 sp)] rfl κ rfl (by show 3+k1+1≤15;omega) (L':=Ap (((alS M sp y P1 k1).1).setB k1 (bN M (alS M sp y P1 k1).2 sp))) (Ky ((alS M sp y P1 k1).1) ω) (cs':=[Ae mx 103 [π K.tg],txP K tax345 tcx346 M (bP M (alS M sp y P1 k1).2 sp),Ae fx 83 [π K.tg,π mx],Ae g4 45 (Ap (((alS M sp y P1 k1).1).setB k1 (bN M (alS M sp y P1 k1).2 sp))),Ch.many R]) rfl fun _ w17 h116 s18 _=>hK36 _ _ ?_
    refine mv h116 rfl fun _ h117=>h117.sn [11,13,33,12,10,7,0,1,2,3,4] rfl fun h118=>hK35 _ _<|sqr fun _ hK37=>mv h118 rfl fun _ h119=>bv h119 (z:=.bool false) rfl (cNe _ _ _ _ rfl) fun _ h120=>h120.sn [59,11,13,33,12,10,7,0,1,2,3,4] rfl fun h121=>hK37 _ _<|wcF h121 rfl rfl<|h121.sk [11,13,33,12,10,7,0,1,2,3,4] rfl fun h122=>?_
    refine wp_skip<|hK14 _ _<|wp_region_lit<|bv h122 (z:=ν ((k1+1:Nat):Int)) rfl (CO _ _ _ ω ω ω) fun _ h123=>h123.sk [61,11,13,12,10,7,0,1,2,3,4] rfl fun h124=>mv h124 rfl fun _ h125=>h125.sk [33,11,13,12,10,7,0,1,2,3,4] rfl fun h126=>wpList_nil ?_
    have ha9:=Ae9 (M:=M) (sp:=sp) (x:=y) (P:=P1) (k:=k1) ω
    exact hK11 (k1+1) tax345 tcx346 _ _ ⟨h126.subs rfl,(by rw [ha9];exact (s18.pk [2,0,1,3,4] rfl)),ω⟩ ω
 ·skip
  have hp8:¬ ((k1:Int)<4):=(dF hc1)
  refine wcF h27 rfl hc1<|h27.sk [33,12,10,7,0,1,2,3,4] rfl fun h127=>wp_exit ?_
  refine hK9 _ _ ?_
  refine sqr fun _ hK38=>mvs 2 h127 rfl fun _ h128=>bv h128 (z:=ν ((n0:Int)*64)) rfl (RY _ _ _ ω ω ω) fun _ h129=>cl h129 rfl (cF Tryz.func58) (FR (L:=S) (n:=(n0*64)) (i:=(n0:Int)*64) s5 (by first | rfl | omega) ω ω) fun _ v8 w18 r8 h130=>?_
  obtain ⟨rfl,s19⟩:=r8
  refine h130.sk [65,64,63,62,33,12,10,7,0,1,2,4] rfl fun h131=>mv h131 rfl fun _ h132=>h132.sn [3,33,12,10,7,0,1,2,4] rfl fun h133=>hK38 _ _<|sq fun _ hK39=>sqr fun _ hK40=>mvs 2 h133 rfl fun _ h134=>wpList_nil<|hK40 _ _<|wp_block ?_
  have hk9:k1=n0:=ω
  refine Nu (fun (k:Nat) (ta2:Option Addr) (tc2:Nat) a' w'=>Kn 104 [(67,ν (k:Int)),(66,ν (n0:Int)),(3,σ (rzL S (n0*64))),(33,ν (k1:Int)),(12,ν (n0:Int)),(10,ν 0),(7,π g4),(0,π fx),(1,ν i),(2,.agg (Ap x).toArray),(4,ν sp)] a'∧Sep w' [Ae fx 83 [π K.tg,π mx],Ae mx 103 [π K.tg],txP K ta2 tc2 M (wrP M z (rzL S (n0*64)) P2 k),Ae g4 45 (Ap z),Ch.many R]∧(k≤n0)) (fun (k:Nat) (ta2:Option Addr) (tc2:Nat)=>n0-k) 0 ta292 tc293 ⟨h134.subs rfl,(show Sep _ [Ae fx 83 [π K.tg,π mx],Ae mx 103 [π K.tg],txP K ta292 tc293 M (wrP M z (rzL S (n0*64)) P2 0),Ae g4 45 (Ap z),Ch.many R] from by have z9:=s19;rw [hk9,hz] at z9;exact z9),Nat.zero_le _⟩ ?_
  rintro k3 ta2419 tc2420 a3 w19 ⟨h135,s20,hk417⟩ K3 hK41
  refine sqr fun _ hK42=>bv h135 (z:=.bool (decide ((k3:Int)<(n0:Int)))) rfl (cLt _ _ _ _ rfl) fun _ h136=>wpList_nil<|hK42 _ _<|sq fun _ hK43=>?_
  rcases bC (decide ((k3:Int)<(n0:Int))) with hc5 | hc5
  ·skip
   have hp9:(k3:Int)<(n0:Int):=(dT hc5)
   refine wcT h136 rfl hc5<|h136.sk [67,66,3,33,12,10,7,0,1,2,4] rfl fun h137=>wp_skip<|hK43 _ _<|sq fun _ hK44=>wp_block ?_
   refine sqr fun _ hK45=>mvs 2 h137 rfl fun _ h138=>h138.sn [14,67,66,3,33,12,10,7,0,1,2,4] rfl fun h139=>hK45 _ _<|sqr fun _ hK46=>mv h139 rfl fun _ h140=>fav h140 rfl (fQ 3) fun _ h141=>sv1 h141 rfl (v:=.pointer (some ⟨g4,3+k3,none⟩)) (BS h141 rfl rfl rfl (fun w=>Lq g4 k3 ω ω w)) fun _ h142=>sw1 h142 rfl (v:=ν (z.blk k3)) (rld h142 rfl rfl (ldB υ3 rfl (s20.get 3 rfl:Blk _ _ _ _) (Ee z ω))) fun _ h143=>?_
   obtain ⟨q444,hq7⟩:=hfd k3 ω
   have hq445i:=DA hq7
   have hcb9:=Nw hrz (ω:k3<n0)
   refine cl h143 rfl (cF Tryz.func34) (Bl s20 (JC (k:=q444.k) (n:=q444.n) (a:=q444.a) (s:=q444.s) hq7 _)) fun _ v9 w20 r9 h144=>?_
   obtain ⟨rfl,s21⟩:=r9
   refine mvs 3 h144 rfl fun _ h145=>so (wn rfl) fun _ hK47=>AW h145 rfl rfl rfl rfl (z:=[ν 0,ν 0,ν 0,ν 0]) (fun _=>rfl) s21 fun _ g3 w21 h146 s22 _ _=>hK47 _ _ ?_
   refine stA h146 s22 0 rfl rfl rfl κ rfl rfl rfl rfl fun _ w22 h147 s23 _=>mv h147 rfl fun _ h148=>h148.sn [15,14,67,66,3,33,12,10,7,0,1,2,4] rfl fun h149=>hK46 _ _<|sq fun _ hK48=>?_
   have s24:=s23.drew
   refine wp_region_held_drew (S:=fun w'=>Sep w' [Ae g3 78 [ν q444.k,ν q444.n,ν q444.a,ν q444.s],Ae fx 83 [π K.tg,π mx],Ae mx 103 [π K.tg],Ae g4 45 (Ap z),Ch.many R]) κ (s24.pk [0,1,2,4,5] rfl) (fun hq8=>?_)
   refine tv1 hq8 h149 0 rfl rfl (v:=π fx) (fun w1 _=>(AG h149 rfl rfl) w1) fun _ h150=>?_
   refine tv1 hq8 h150 1 rfl rfl (v:=π fx) (fun w1 _=>(Lt h150 rfl rfl) w1) fun _ h151=>?_
   refine tv1 hq8 h151 2 rfl rfl (v:=π fx) (fun w1 _=>(rfa h151 rfl rfl (fQ 0)) w1) fun _ h152=>?_
   refine tv1 hq8 h152 3 rfl rfl (v:=π K.tg) (fun w1 hSw=>(rld h152 rfl rfl (ldB υ30 rfl (hSw.get 1 rfl:Blk _ _ _ _) rfl))) fun _ h153=>?_
   refine tv1 hq8 h153 4 rfl rfl (v:=.pointer (some ⟨g3,2,none⟩)) (fun w1 _=>(rfa h153 rfl rfl (fQ 2)) w1) fun _ h154=>?_
   refine tv1 hq8 h154 5 rfl rfl (v:=ν q444.a) (fun w1 hSw=>(rld h154 rfl rfl (ldB υ3 rfl (hSw.get 0 rfl:Blk _ _ _ _) rfl))) fun _ h155=>?_
   refine tv1 hq8 h155 6 rfl rfl (v:=σ (rzL S (n0*64))) (fun w1 _=>(AG h155 rfl rfl) w1) fun _ h156=>?_
   refine tv1 hq8 h156 7 rfl rfl (v:=ν (k3:Int)) (fun w1 _=>(AG h156 rfl rfl) w1) fun _ h157=>?_
   refine tv1 hq8 h157 8 rfl rfl (v:=ν ((k3:Int)*64)) (fun w1 _=>(Co h157 rfl rfl rfl (RY _ _ _ ω ω ω)) w1) fun _ h158=>?_
   refine tv1 hq8 h158 9 rfl rfl (v:=ν (k3:Int)) (fun w1 _=>(AG h158 rfl rfl) w1) fun _ h159=>?_
   refine tv1 hq8 h159 10 rfl rfl (v:=ν ((k3+1:Nat):Int)) (fun w1 _=>(Co h159 rfl rfl rfl (CO _ _ _ ω ω ω)) w1) fun _ h160=>?_
   refine tv1 hq8 h160 11 rfl rfl (v:=ν (((k3+1:Nat):Int)*64)) (fun w1 _=>(Co h160 rfl rfl rfl (RY _ _ _ ω ω ω)) w1) fun _ h161=>?_
   refine tv1 hq8 h161 12 rfl rfl (v:=σ (((rzL S (n0*64)).take ((((k3+1:Nat):Int)*64).toNat)).drop (((k3:Int)*64).toNat))) (fun w1 _=>(TA h161 rfl rfl (vl:=(some (ν ((k3:Int)*64)))) (vh:=(some (ν (((k3+1:Nat):Int)*64)))) rfl rfl (fun w=>(slT 9 υ9 (rzL S (n0*64)) (a:=((k3:Int)*64).toNat) (b:=(((k3+1:Nat):Int)*64).toNat) (.inr ⟨_,rfl,ω⟩) (.inr ⟨_,rfl,ω⟩) ω ω) w)) w1) fun _ h162=>?_
   refine to_ 13 rfl (wn rfl) κ fun _ hK49=>Vb h162 rfl rfl rfl rfl (X:=((rzL S (n0*64)).take ((((k3+1:Nat):Int)*64).toNat)).drop (((k3:Int)*64).toNat)) rfl υ9 υ74 υ5 (by unfold maxLen;omega) s24 fun _ g5 c507 w23 h163 s25=>?_
   refine hK49 _ _ (s25.pk [1,2,3,5,6] rfl) fun hq9=>?_
   refine to_ 14 rfl (wn rfl) κ fun _ hK50=>BM h163 rfl rfl rfl (xs:=[.tmp 81,.tmp 83,.tmp 91]) rfl (cF Tryz.func75) rfl (vs:=[π K.tg,ν q444.a,.slice (some ⟨g5,0,none⟩) ((((rzL S (n0*64)).take ((((k3+1:Nat):Int)*64).toNat)).drop (((k3:Int)*64).toNat)).length) c507]) rfl (args:=#[π K.tg,ν q444.a,.slice (some ⟨g5,0,none⟩) ((((rzL S (n0*64)).take ((((k3+1:Nat):Int)*64).toNat)).drop (((k3:Int)*64).toNat)).length) c507]) rfl (Nk (xs:=((rzL S (n0*64)).take ((((k3+1:Nat):Int)*64).toNat)).drop (((k3:Int)*64).toNat)) (s25.pk [4,0,1,2,3,5,6] rfl) (s25.get 0 rfl:Bp _ _ _ _∧_).1 hq7 (by have z9:=hst k3 ω;exact z9) (by unfold Ho;omega) (Nw hrz ω)) fun _ v10 w24 r10 h164=>?_
   obtain ⟨tax514,tcx515,rfl,s26⟩:=r10
   refine hK50 _ _ (s26.pk [2,3,4,5,6] rfl) fun hq10=>?_
   refine tv1 hq10 h164 15 rfl rfl (v:=ν 0) (fun w1 _=>(BJ h164 rfl rfl) w1) fun _ h165=>?_
   refine h165.sk [17,15,14,67,66,3,33,12,10,7,0,1,2,4] rfl fun h166=>?_
   refine wpAnyH_done κ ?_ _
   refine hK48 _ _ ?_
   refine sqr fun _ hK51=>mv h166 rfl fun _ h167=>bv h167 (z:=.bool false) rfl (cNe _ _ _ _ rfl) fun _ h168=>h168.sn [94,17,15,14,67,66,3,33,12,10,7,0,1,2,4] rfl fun h169=>hK51 _ _<|wcF h169 rfl rfl<|h169.sk [17,15,14,67,66,3,33,12,10,7,0,1,2,4] rfl fun h170=>wp_skip<|hK44 _ _<|wp_region_lit<|bv h170 (z:=ν ((k3+1:Nat):Int)) rfl (CO _ _ _ ω ω ω) fun _ h171=>?_
   refine h171.sk [96,17,15,14,66,3,33,12,10,7,0,1,2,4] rfl fun h172=>mv h172 rfl fun _ h173=>h173.sk [67,17,15,14,66,3,33,12,10,7,0,1,2,4] rfl fun h174=>wpList_nil ?_
   exact hK41 (k3+1) tax514 tcx515 _ _ ⟨h174.subs rfl,(s26.pk [3,4,0,5,6] rfl),ω⟩ ω
  ·skip
   have hp10:¬ ((k3:Int)<(n0:Int)):=(dF hc5)
   refine wcF h136 rfl hc5<|h136.sk [67,66,3,33,12,10,7,0,1,2,4] rfl fun h175=>wp_exit ?_
   refine hK39 _ _ ?_
   refine sq fun _ hK52=>?_
   have s27:=s20.drew
   refine wp_region_held_drew (S:=fun w'=>Sep w' [Ae fx 83 [π K.tg,π mx],Ae mx 103 [π K.tg],Ae g4 45 (Ap z),Ch.many R]) κ (s27.pk [0,1,3,4] rfl) (fun hq11=>?_)
   refine tv1 hq11 h175 0 rfl rfl (v:=π fx) (fun w1 _=>(AG h175 rfl rfl) w1) fun _ h176=>?_
   refine tv1 hq11 h176 1 rfl rfl (v:=π fx) (fun w1 _=>(Lt h176 rfl rfl) w1) fun _ h177=>?_
   refine tv1 hq11 h177 2 rfl rfl (v:=.pointer (some ⟨fx,1,none⟩)) (fun w1 _=>(rfa h177 rfl rfl (fQ 1)) w1) fun _ h178=>?_
   refine tv1 hq11 h178 3 rfl rfl (v:=π mx) (fun w1 hSw=>(rld h178 rfl rfl (ldB υ31 rfl (hSw.get 0 rfl:Blk _ _ _ _) rfl))) fun _ h179=>?_
   refine tv1 hq11 h179 4 rfl rfl (v:=ν i) (fun w1 _=>(AG h179 rfl rfl) w1) fun _ h180=>?_
   refine tv1 hq11 h180 5 rfl rfl (v:=.agg (Ap z).toArray) (fun w1 hSw=>(rld h180 rfl rfl (ldA υ45 rfl (n:=15) κ (hSw.get 2 rfl:Blk _ _ _ _) rfl rfl))) fun _ h181=>?_
   refine to_ 6 rfl (wn rfl) κ fun _ hK53=>BM h181 rfl rfl rfl (xs:=[.tmp 100,.tmp 101,.tmp 102]) rfl (cF Tryz.func47) rfl (vs:=[π mx,ν i,.agg (Ap z).toArray]) rfl (args:=#[π mx,ν i,.agg (Ap z).toArray]) rfl (Ex (i:=i) (x:=z) (s27.pk [1,2,0,3,4] rfl) hM) fun _ v11 w25 r11 h182=>?_
   obtain ⟨tax557,tcx558,rfl,s28⟩:=r11
   refine hK53 _ _ (s28.pk [2,0,3,4] rfl) fun hq12=>h182.sk [103,102,101,100,99,98,97,67,66,3,33,12,7,0,1,2,4] rfl fun h183=>?_
   refine tv1 hq12 h183 7 rfl rfl (v:=ν (Cg M (wrP M z (rzL S (n0*64)) P2 k3) i z)) (fun w1 _=>(BJ h183 rfl rfl) w1) fun _ h184=>?_
   refine h184.sk [10,67,66,3,33,12,7,0,1,2,4] rfl fun h185=>?_
   refine wpAnyH_done κ ?_ _
   refine hK52 _ _ ?_
   refine wp_ret ?_
   try simp only [Exit.then,Exit.inBlock,Exit.noGoto]
   refine BR (v:=ν (Cg M (wrP M z (rzL S (n0*64)) P2 k3) i z)) (Ef h185 rfl rfl) h185.defs ?_
   obtain rfl:n0=k3:=ω
   exact ⟨tax557,tcx558,rfl,Sep.tail_un (xs:=[_,_,_]) (s28.pk [2,0,1,4] rfl)⟩
end
section
structure SetH (M:MemM) (P:List PtM) (i sp:Int) (x y z:InoT) (n0:Nat) (S:List UInt8) (P1 P2:List PtM):Prop where
 fE:IG M P i=0
 fX:IH M P i=x
 l:S.length≤256
 hsp:-9223372036854775808≤sp∧sp≤9223372036854775807
 hn:Bh (S.length:Int)=(n0:Int)
 xb:∀ k,-9223372036854775808≤x.blk k∧x.blk k≤9223372036854775807
 cX:Bv (szX x (S.length:Int)) n0 (4-n0)=y
 cE:KP M P (szX x (S.length:Int)) n0=0
 cP:Jv M P (szX x (S.length:Int)) n0=P1
 al:∀ k,k<n0→(alS M sp y P1 k).1.blk k=0→bE M (alS M sp y P1 k).2 sp=0
 hz:alS M sp y P1 n0=(z,P2)
 fd:∀ k,k<n0→∃ q,Bj 7 (z.blk k)=some q
 st:∀ k,k<n0→stE M (wrP M z (rzL S (n0*64)) P2 k) 7 (z.blk k) 64=0
 sE:Cg M (wrP M z (rzL S (n0*64)) P2 n0) i z=0
section
variable {w:World} {R:List Ch} {fx mx:Nat} {K:VolK} {ta:Option Addr} {tc:Nat} {M:MemM} {P P1 P2:List PtM} {x y z:InoT} {n0:Nat} {i sp:Int} {S:List UInt8}
theorem NW (hS:Sep w ([Ae fx 83 [π K.tg,π mx],mtC mx K,txP K ta tc M P]++R)) (hM:M.V.length=23168) (hE:IG M P i=0) (hX:IH M P i=x) :
  CallsR Tryz.prog 33 #[π fx,ν i] w (fun v w'=>v=.tuple #[.agg (Ap x).toArray,ν 0]∧Sep w' ([Ae fx 83 [π K.tg,π mx],mtC mx K,txP K ta tc M P]++R)):=
 Calls.mono (Adl hS hM) fun e w' q=>by rw [hE,hX] at q;exact q
theorem QQ (hS:Sep w (txP K ta tc M P::R)):CallsR Tryz.prog 40 #[π K.tg] w (fun v w'=>∃ la lc,v=.slice la P.length lc∧Sep w' (txP K ta tc M P::R)):=by
 have h:VolP w K ta tc M P:=hS.get 0 rfl
 exact Calls.mono (QP h.b h.o.row (Nat.le_trans h.k.n ω)) fun e w' ⟨la,lc,e1,_,b⟩=>⟨_,e1,la,lc,rfl,hS.mono b⟩
theorem Zs (hS:Sep w ([Ae fx 83 [π K.tg,π mx],mtC mx K,txP K ta tc M P]++R)) (hM:M.V.length=23168) (H:SetH M P i sp x y z n0 S P1 P2) :
  CallsR Tryz.prog 41 #[π fx,ν i,.agg (Ap x).toArray,σ S,ν sp] w (fun v w'=>∃ ta' tc',v=ν 0∧Sep w' ([Ae fx 83 [π K.tg,π mx],mtC mx K,txP K ta' tc' M (BE M (wrP M z (rzL S (n0*64)) P2 n0) i z)]++R)):=
 Calls.mono (Aey hS hM H.l H.hsp H.hn H.xb H.cX H.cE H.cP H.al H.hz H.fd H.st) fun e w' q=>by rw [H.sE] at q;exact q
end
theorem Ac4 {w:World} {R:List Ch} {fx:Nat} {mx:Nat} {K:VolK} {ta:Option Addr} {tc:Nat} {M:MemM} {P:List PtM} {i sp:Int} {x y z:InoT} {n0:Nat} {S:List UInt8} {P1 P2:List PtM} (hS0:Sep w ([Ae fx 83 [π K.tg,π mx],Ae mx 103 [π K.tg],txP K ta tc M P]++R)) (hM:M.V.length=23168) (H:SetH M P i sp x y z n0 S P1 P2) :
  CallsR Tryz.prog 16 #[π fx,ν i,σ S,ν sp] w (fun v w'=>∃ ta' tc',v=ν 0∧Sep w' ([Ae fx 83 [π K.tg,π mx],Ae mx 103 [π K.tg],txP K ta' tc' M (BE M (wrP M z (rzL S (n0*64)) P2 n0) i z)]++R)):=by
 have hS:Sep w [Ae fx 83 [π K.tg,π mx],Ae mx 103 [π K.tg],txP K ta tc M P,Ch.many R]:=Sep.tail_many (xs:=[_,_,_]) hS0;clear hS0
 have hS256:=H.l
 refine Bd Tryz.func16 rfl (N:=42) Tryz.ntmps16 (by show 4≤42;decide) [(0,π fx),(1,ν i),(2,σ S),(3,ν sp)] rfl fun _ h1=>sqr fun _ hK3=>mv h1 rfl fun _ h4=>wpList_nil<|hK3 _ _<|sqr fun _ hK6=>mvs 2 h4 rfl fun _ h9=>cl h9 rfl (cF Tryz.func33) (NW hS hM H.fE H.fX) fun _ v1 w1 r1 h2=>?_
 obtain ⟨rfl,s1⟩:=r1
 refine mvs 3 h2 rfl fun _ h3=>so (wn rfl) fun _ hK1=>AW h3 rfl rfl rfl rfl (z:=[ν 0,ν 0,ν 0,ν 0,ν 0,ν 0,ν 0,ν 0,ν 0,ν 0,ν 0,ν 0,ν 0,ν 0,ν 0]) (fun _=>rfl) s1 fun _ g1 w2 h5 s2 _ _=>hK1 _ _ ?_
 refine stA h5 s2 0 rfl rfl rfl κ rfl rfl rfl rfl fun _ w3 h6 s3 _=>mv h6 rfl fun _ h7=>h7.sn [10,9,8,0,1,2,3] rfl fun h8=>hK6 _ _<|sq fun _ hK2=>sqr fun _ hK4=>mv h8 rfl fun _ h10=>bv h10 (z:=.bool false) rfl (cNe _ _ _ _ rfl) fun _ h11=>h11.sn [20,10,9,8,0,1,2,3] rfl fun h12=>hK4 _ _<|wcF h12 rfl rfl ?_
 refine h12.sk [10,9,8,0,1,2,3] rfl fun h13=>wp_skip<|hK2 _ _<|sq fun _ hK5=>sqr fun _ hK7=>mv h13 rfl fun _ h14=>sv1 h14 rfl (v:=ν (S.length:Int)) (FV h14 rfl rfl υ9) fun _ h15=>bv h15 (z:=.bool false) rfl (cGt _ _ _ _ (decide_eq_false ω)) fun _ h16=>h16.sn [24,10,9,8,0,1,2,3] rfl fun h17=>hK7 _ _<|wcF h17 rfl rfl<|h17.sk [10,9,8,0,1,2,3] rfl fun h18=>?_
 refine wp_skip<|hK5 _ _<|sqr fun _ hK8=>mvs 2 h18 rfl fun _ h19=>fav h19 rfl (fQ 0) fun _ h20=>ldv h20 s3 1 υ30 rfl rfl rfl rfl fun _ h21=>cl h21 rfl (cF Tryz.func40) (QQ (s3.pk [3,0,1,2,4] rfl)) fun _ v2 w4 r2 h22=>?_
 obtain ⟨la_x68,lc_x69,rfl,s4⟩:=r2
 refine mv h22 rfl fun _ h23=>h23.sn [11,10,9,8,0,1,2,3] rfl fun h24=>hK8 _ _<|sq fun _ hK9=>sqr fun _ hK10=>mvs 2 h24 rfl fun _ h25=>sw1 h25 rfl (v:=.agg (Ap x).toArray) (rld h25 rfl rfl (ldA υ45 rfl (n:=15) κ (s4.get 1 rfl:Blk _ _ _ _) rfl rfl)) fun _ h26=>mvs 2 h26 rfl fun _ h27=>cl h27 rfl (cF Tryz.func41) (Zs (s4.pk [2,3,0,1,4] rfl) hM H) fun _ v3 w5 r3 h28=>?_
 obtain ⟨tax92,tcx93,rfl,s5⟩:=r3
 refine mv h28 rfl fun _ h29=>h29.sn [12,11,10,9,8,0,1,2,3] rfl fun h30=>hK10 _ _<|sqr fun _ hK11=>mv h30 rfl fun _ h31=>bv h31 (z:=.bool false) rfl (cNe _ _ _ _ rfl) fun _ h32=>h32.sn [37,12,11,10,9,8,0,1,2,3] rfl fun h33=>hK11 _ _<|wcF h33 rfl rfl<|h33.sk [12,11,10,9,8,0,1,2,3] rfl fun h34=>?_
 refine wp_skip<|hK9 _ _<|sqr fun _ hK12=>h34.sk [12,11,10,9,0,1,2,3] rfl fun h35=>mv h35 rfl fun _ h36=>wpList_nil<|hK12 _ _<|wp_ret ?_

 refine BR (v:=ν 0) (Ef h36 rfl rfl) h36.defs ?_
 exact ⟨tax92,tcx93,rfl,Sep.tail_un (xs:=[_,_,_]) (s5.pk [0,1,2,4] rfl)⟩
end
section
theorem NB {w:World} {R:List Ch} {b:Nat} {p:Option Addr} {v:Value} (hS:Sep w (Ae b 76 [.pointer p,v]::R)) (hp:p=none∨p=some ⟨b,0,none⟩):CallsR Tryz.prog 66 #[π b] w (fun x w'=>x=.tuple #[]∧Sep w' (Ae b 76 [π b,v]::R)):=by
 have hb:Blk w b 76 [.pointer p,v]:=hS.get 0 rfl
 rcases hp with rfl | rfl
 ·refine Calls.mono (Go.Proofs.Any.Builder_copyCheck_fresh (ρ:=Fx) { Ng with } CW.toX72 b w (hb.cell (i:=0) (by show 0<2;omega)) (by unfold World.shape?;rw [show w.heap[b]? = _ from hb];rfl) (Blk.frozen hb 0)) fun e w' z=>?_
  obtain ⟨e1,e2⟩:=z
  subst e2
  exact ⟨_,e1,rfl,hS.head (Turns.of_row (TJ (Ka w (some b)) 0 _)) (fun k _ q=>by cases q;rfl) (c':=Ae b 76 [π b,v]) (hb.set 0 _) fun k q=>.inl q⟩
 ·refine Calls.mono (Go.Proofs.Any.Builder_copyCheck_used (ρ:=Fx) { Ng with } CW.toX72 b w (hb.cell (i:=0) (by show 0<2;omega))) fun e w' z=>?_
  obtain ⟨e1,e2⟩:=z
  subst e2
  exact ⟨_,e1,rfl,hS⟩
theorem Ack {w:World} {R:List Ch} {b:Nat} {p:Option Addr} {ba:Option Addr} {bc:Nat} {ad:Addr} {yc:Nat} {xs ys:List UInt8} (hS0:Sep w ([Ae b 76 [.pointer p,.slice ba xs.length bc],BQ 0 5 1 ba (xs).length bc ((xs).map Ag),BQ 0 5 1 (some ad) (ys).length yc ((ys).map Ag)]++R)) (hp:p=none∨p=some ⟨b,0,none⟩) (hx:xs.length≤1000000) (hy2:ys.length≤1000000) (hy:0<ys.length) :
  CallsR Tryz.prog 36 #[π b,.slice (some ad) ys.length yc] w (fun v w'=>∃ ba' bc',v=.tuple #[ν ys.length,.nilIface]∧Sep w' ([Ae b 76 [π b,.slice ba' ((xs++ys).length) bc'],BQ 0 5 1 ba' ((xs++ys)).length bc' (((xs++ys)).map Ag),BQ 0 5 1 (some ad) (ys).length yc ((ys).map Ag)]++R)):=by
 have hS:Sep w [Ae b 76 [.pointer p,.slice ba xs.length bc],BQ 0 5 1 ba (xs).length bc ((xs).map Ag),BQ 0 5 1 (some ad) (ys).length yc ((ys).map Ag),Ch.many R]:=Sep.tail_many (xs:=[_,_,_]) hS0;clear hS0
 refine Bd Tryz.func36 rfl (N:=19) Tryz.ntmps36 (by show 2≤19;decide) [(0,π b),(1,.slice (some ad) ys.length yc)] rfl fun _ h1=>sqr fun _ hK3=>mvs 2 h1 rfl fun _ h6=>wpList_nil<|hK3 _ _<|sqr fun _ hK8=>mv h6 rfl fun _ h9=>cl h9 rfl (cF Tryz.func66) (NB hS hp) fun _ v1 w1 r1 h2=>?_
 obtain ⟨rfl,s1⟩:=r1
 refine h2.sn [5,4,0,1] rfl fun h3=>hK8 _ _<|sqr fun _ hK1=>mvs 3 h3 rfl fun _ h4=>fav h4 rfl (fQ 1) fun _ h5=>ldv h5 s1 0 υ74 rfl rfl rfl rfl fun _ h7=>mv h7 rfl fun _ h8=>so (wn rfl) fun _ hK2=>Acl h8 rfl rfl rfl rfl E8 s1 1 rfl rfl rfl (s1.get 2 rfl:Own _ _ _ _ _ _ _ _).row hy (List.all_eq_true.2 (CH _)) ω ω (n':=(xs++ys).length) (List.length_append).symm fun a1 p32 c33 w2 h10 s2 _=>hK2 _ _ ?_
 have s3:Sep w2 [Ae b 76 [π b,.slice ba xs.length bc],BQ 0 5 1 p32 ((xs++ys)).length c33 (((xs++ys)).map Ag),BQ 0 5 1 (some ad) (ys).length yc ((ys).map Ag),Ch.many R]:=by rw [show (xs++ys).map Ag=xs.map Ag++ys.map Ag from List.map_append];exact s2
 refine mv h10 rfl fun _ h11=>fav h11 rfl (fQ 1) fun _ h12=>st1 h12 s3 0 rfl rfl κ rfl rfl rfl rfl fun _ w3 h13 s4 _=>h13.sn [5,4,0,1] rfl fun h14=>hK1 _ _<|sqr fun _ hK4=>mv h14 rfl fun _ h15=>sv1 h15 rfl (v:=ν (ys.length:Int)) (Re h15 rfl rfl υ74) fun _ h16=>h16.sk [18,17,5,0,1] rfl fun h17=>mv h17 rfl fun _ h18=>?_
 refine h18.sk [4,18,17,0,1] rfl fun h19=>mv h19 rfl fun _ h20=>h20.sn [5,4,0,1] rfl fun h21=>hK4 _ _<|wp_ret ?_

 refine BR (v:=.tuple #[ν (ys.length:Int),.nilIface]) (Fc h21 rfl rfl rfl) h21.defs ?_
 exact ⟨p32,c33,rfl,Sep.tail_un (xs:=[_,_,_]) s4⟩
end
section
theorem Pe (w:World) (g n:Nat):Turns (fun k=>k=g) w (w.drew.freeze ⟨g,0,none⟩ n):=by
  have b:=Lib.below_freeze (B:=0) (Below.drew (Below.refl 0 w)) (p:=⟨g,0,none⟩) (Nat.zero_le _) n
  refine ⟨b.os,b.tape,b.output,b.size,fun k hk hn=>?_⟩
  have hn:g≠k:=fun e=>hn e.symm
  unfold World.freeze
  split
  · rfl
  · simp only [Array.getElem?_modify];rw [if_neg hn];rfl
theorem Zx {w:World} {R:List Ch} {b:Nat} {p:Value} {ba:Option Addr} {bc:Nat} {xs:List UInt8} (hS:Sep w (Ae b 76 [p,.slice ba xs.length bc]::BQ 0 5 1 ba xs.length bc (xs.map Ag)::R)) (h0:xs≠[]) :
    CallsR Tryz.prog 37 #[π b] w (fun v w'=>v=σ xs∧Sep w' R):=by
  have hb:Blk w b 76 [p,.slice ba xs.length bc]:=hS.get 0 rfl
  have ho:Own w 0 5 1 ba xs.length bc (xs.map Ag):=hS.get 1 rfl
  have hl0:xs.length≠0:=fun e=>h0 (List.eq_nil_of_length_eq_zero e)
  have hr:=ho.row
  obtain ⟨g,cap,cur,hv,hB,hg,hnc,hcm,hcs,htk⟩:∃ g cap cur,Value.slice ba xs.length bc=.slice (some ⟨g,0,none⟩) xs.length cap∧0≤g∧w.heap[g]? = some (.cells cur 5 (0,0))∧xs.length≤cap∧cap≤maxLen∧cur.size=cap*1∧cur.toList.take (xs.length*1)=xs.map Ag:=by
    rcases ho.2 with ⟨_,hz⟩ | ⟨g,cap,cur,q⟩
    · exact absurd hz hl0
    · exact ⟨g,cap,cur,q⟩
  injection hv with e1 _ e2
  subst e1 e2
  have hcell:∀ (j:Nat) (x:UInt8),xs[j]? = some x→w.cell? ⟨g,j,none⟩=some (.int .u8 x.toNat):=by
    intro j x hx
    obtain ⟨b',off,e,_,hc⟩:=hr.2.2.2.2 ω
    cases e
    have:=hc j (Ag x) (by rw [List.getElem?_map,hx];rfl)
    rw [Nat.zero_add] at this;exact this
  have c1:w.drew.cell? ⟨b,1,none⟩=some (.slice (some ⟨g,0,none⟩) xs.length bc):=hb.cell (i:=1) (by show 1<2;omega)
  have hSD:(Builtin.unsafeSliceData_ #[74] 130 #[.slice (some ⟨g,0,none⟩) xs.length bc]).run Tryz.prog w.drew=.ok (π g) w.drew:=Lib.run_unsafeSliceData_row _ _ _ _ _ _ ω
  have hUS:(Builtin.unsafeString_ #[130,3] 9 #[π g,ν xs.length]).run Tryz.prog w.drew=.ok (.string ⟨xs.toArray⟩) (w.drew.freeze ⟨g,0,none⟩ xs.length):=
    Lib.run_unsafeString_row w.drew 130 3 9 5 υ130 κ g cur.size (by have hg':w.drew.heap[g]? = some (.cells cur 5 (0,0)):=hg;simp [World.shape?,hg']) xs h0 ω (by unfold maxLen at hcm;omega) (fun j x hx=>by
      have z:=hcell j x hx
      unfold Addr.add
      split
      · subst j;exact z
      · rw [Nat.zero_add];exact z)
  have mixed:=Ng.mixed
  have u1:=υ76
  have u2:=υ73
  have u3:=υ74
  have fin:CallsR Tryz.prog 37 #[π b] w (fun v w'=>v=σ xs∧w'=w.drew.freeze ⟨g,0,none⟩ xs.length):=by
    clear hS hr ho hcell
    go_enter Tryz.func37,Tryz.ntmps37
    go_wp2
    go_region_o
    all_goals (go_wp2;go_ret;exact ⟨_,rfl,rfl,rfl⟩)
  refine Calls.mono fin fun e w' z=>?_
  obtain ⟨v,e1,e2,rfl⟩:=z
  refine ⟨v,e1,e2,?_⟩
  have t:=Pe w g xs.length
  have u:=hS.upd 1 rfl t (fun k _ (e:k=g)=>by subst e;rfl) (c':=BQ 0 5 1 none 0 0 []) (Own.nil _ _ _ _) (fun k e=>by cases e)
  exact Sep.swap (A:=[_,_]) (B:=[]) (R:=R) u ⟨fun i d hi=>by simp at hi,fun i j d e _ hi=>by simp at hi⟩ (fun i c hi=>by simp at hi)
end
section
def Hk (M:MemM) (P:List PtM) (x:InoT):Nat→List UInt8
 | 0=>[]
 | k+1=>Hk M P x k++Bc M P 7 (x.blk k)
section
variable {M:MemM} {P:List PtM} {x:InoT} {n:Nat}
theorem LG (hM:M.V.length=23168) {kd nm:Int} {q:PartT} (h:Bj kd nm=some q) (hk:kd≠5∧kd≠6):(Bc M P kd nm).length=64:=by
 rw [CC h,MZ (JH hM h),Pb h hk.1 hk.2];rfl
theorem Ul (hM:M.V.length=23168) (hfd:∀ k,k<n→∃ q,Bj 7 (x.blk k)=some q):∀ k,k≤n→(Hk M P x k).length=64*k
 | 0,_=>rfl
 | k+1,hk=>by
  obtain ⟨q,hq⟩:=hfd k ω
  show (Hk M P x k++_).length=_
  rw [List.length_append,Ul hM hfd k ω,LG hM hq (by decide)];omega
theorem Qz {s:Int} (h:Bh s=(n:Int)) (hs:0≤s∧s≤256):s≤64*(n:Int):=by unfold Bh at h;split at h<;>omega
end
theorem ST {w:World} {R:List Ch} {K:VolK} {ta:Option Addr} {tc:Nat} {M:MemM} {P:List PtM} {nm:Int} {q:PartT} (hS:Sep w (txP K ta tc M P::R)) (hM:M.V.length=23168) (h:Bj 7 nm=some q) (h0:0≤q.a∧q.a≤23168∧0≤q.s∧q.s≤4096) :
  CallsR Tryz.prog 35 #[pG K.tg,ν q.a,ν q.s] w (fun v w'=>∃ ad c,v=.tuple #[.slice (some ad) (Bc M P 7 nm).length c,ν 0]∧Sep w' (BQ 0 5 1 (some ad) (Bc M P 7 nm).length c ((Bc M P 7 nm).map Ag)::txP K ta tc M P::R)):=by
 have hl:=LG hM (P:=P) h (by decide)
 rw [CC h] at hl ⊢
 refine Calls.mono (SU hS (JH hM h) (by unfold Ho;omega) (by unfold Ho;omega)) fun e w' z=>?_
 obtain ⟨v,e1,a,c,e2,s⟩:=z
 cases a with
 | none=>
  have o:Own w' 0 5 1 none _ c _:=s.get 0 rfl
  have:=o.row.2.2.2.1 rfl
  have:=o.row.2.1
  omega
 | some ad=>exact ⟨v,e1,ad,c,e2,s⟩
theorem PF {w:World} {R:List Ch} {b:Nat} {p:Value} {ba:Option Addr} {bc:Nat} {xs:List UInt8} (hS:Sep w (Ae b 76 [p,.slice ba xs.length bc]::BQ 0 5 1 ba xs.length bc (xs.map Ag)::R)) (h0:xs=[]→ba=none∧bc=0) :
  CallsR Tryz.prog 37 #[π b] w (fun v w'=>v=σ xs∧Sep w' R):=by
 by_cases hx:xs=[]
 ·obtain ⟨rfl,rfl⟩:=h0 hx
  subst hx
  have hb:Blk w b 76 [p,.slice none 0 0]:=hS.get 0 rfl
  have hR:Sep w R:=Sep.swap (A:=[_,_]) (B:=[]) (R:=R) hS ⟨fun i d hi=>by simp at hi,fun i j d e _ hi=>by simp at hi⟩ (fun i c hi=>by simp at hi)
  exact Calls.mono (Go.Proofs.Any.Builder_String_nil (ρ:=Fx) { Ng with } CW w.heap.size b p w hb) fun e w' z=>⟨_,z.1,rfl,hR.mono z.2⟩
 ·exact Zx hS hx
theorem Xq {w:World} {R:List Ch} {fx:Nat} {mx:Nat} {K:VolK} {ta:Option Addr} {tc:Nat} {M:MemM} {P:List PtM} {i:Int} {x:InoT} {n0:Nat} (hS0:Sep w ([Ae fx 83 [π K.tg,π mx],Ae mx 103 [π K.tg],txP K ta tc M P]++R)) (hM:M.V.length=23168) (hfE:IG M P i=0) (hfX:IH M P i=x) (hs:0≤x.s∧x.s≤256) (hn0:Bh x.s=(n0:Int)) (hfd:∀ k,k<n0→∃ q,Bj 7 (x.blk k)=some q) :
  CallsR Tryz.prog 13 #[π fx,ν i] w (fun v w'=>v=.tuple #[σ ((Hk M P x n0).take x.s.toNat),ν 0]∧Sep w' ([Ae fx 83 [π K.tg,π mx],Ae mx 103 [π K.tg],txP K ta tc M P]++R)):=by
 have hS:Sep w [Ae fx 83 [π K.tg,π mx],Ae mx 103 [π K.tg],txP K ta tc M P,Ch.many R]:=Sep.tail_many (xs:=[_,_,_]) hS0;clear hS0
 have hn4:n0≤4:=JO hn0 hs
 have hns:=Qz hn0 hs
 have hbl:∀ k,k≤n0→(Hk M P x k).length=64*k:=fun k hk=>Ul hM hfd k hk
 refine Bd Tryz.func13 rfl (N:=56) Tryz.ntmps13 (by show 2≤56;decide) [(0,π fx),(1,ν i)] rfl fun _ h1=>sqr fun _ hK3=>mvs 2 h1 rfl fun _ h6=>wpList_nil<|hK3 _ _<|sqr fun _ hK8=>mvs 2 h6 rfl fun _ h2=>cl h2 rfl (cF Tryz.func33) (NW hS hM hfE hfX) fun _ v1 w2 r1 h3=>?_
 obtain ⟨rfl,s1⟩:=r1
 refine mvs 3 h3 rfl fun _ h4=>so (wn rfl) fun _ hK1=>AW h4 rfl rfl rfl rfl (z:=[ν 0,ν 0,ν 0,ν 0,ν 0,ν 0,ν 0,ν 0,ν 0,ν 0,ν 0,ν 0,ν 0,ν 0,ν 0]) (fun _=>rfl) s1 fun _ g1 w3 h5 s2 _ _=>hK1 _ _ ?_
 refine stA h5 s2 0 rfl rfl rfl κ rfl rfl rfl rfl fun _ w4 h7 s3 _=>mv h7 rfl fun _ h8=>h8.sn [7,6,5,4,0,1] rfl fun h9=>hK8 _ _<|sq fun _ hK2=>sqr fun _ hK4=>mv h9 rfl fun _ h10=>bv h10 (z:=.bool false) rfl (cNe _ _ _ _ rfl) fun _ h11=>h11.sn [21,7,6,5,4,0,1] rfl fun h12=>hK4 _ _<|wcF h12 rfl rfl ?_
 refine h12.sk [7,6,5,4,0,1] rfl fun h13=>wp_skip<|hK2 _ _<|sqr fun _ hK5=>so (wn rfl) fun _ hK6=>AW h13 rfl rfl rfl rfl (z:=[.pointer none,.slice none 0 0]) (fun _=>rfl) s3 fun _ g2 w5 h14 s4 _ _=>hK6 _ _ ?_
 refine wpList_nil<|hK5 _ _<|sq fun _ hK7=>sqr fun _ hK9=>fav h14 rfl (fQ 2) fun _ h15=>ldv h15 s4 1 υ3 rfl rfl rfl rfl fun _ h16=>cl h16 rfl (cF Tryz.func17) (GK s4 hn0 ω) fun _ v2 w6 r2 h17=>?_
 obtain ⟨rfl,s5⟩:=r2
 refine mv h17 rfl fun _ h18=>h18.sn [26,25,8,7,6,5,4,0,1] rfl fun h19=>hK9 _ _<|wp_block ?_
 have s6:=Sep.ownNil s5 0 5 1
 refine Ii (fun (k:Nat) (pp:Option Addr) (ba:Option Addr) (bc:Nat) a' w'=>Kn 56 [(26,ν (k:Int)),(25,ν (n0:Int)),(8,π g2),(7,ν 0),(6,π g1),(5,ν 0),(4,σ []),(0,π fx),(1,ν i)] a'∧Sep w' [BQ 0 5 1 ba ((Hk M P x k)).length bc (((Hk M P x k)).map Ag),Ae g2 76 [.pointer pp,.slice ba ((Hk M P x k).length) bc],Ae g1 45 (Ap x),Ae fx 83 [π K.tg,π mx],Ae mx 103 [π K.tg],txP K ta tc M P,Ch.many R]∧(k≤n0)∧(pp=none∨pp=some ⟨g2,0,none⟩)∧(k=0→ba=none∧bc=0)) (fun (k:Nat) (pp:Option Addr) (ba:Option Addr) (bc:Nat)=>n0-k) 0 none none 0 ⟨h19.subs rfl,s6,Nat.zero_le _,.inl rfl,(fun _=>⟨rfl,rfl⟩)⟩ ?_
 rintro k1 pp86 ba87 bc88 a1 w7 ⟨h20,s7,hk82,hp1,hz84⟩ K1 hK10
 refine sqr fun _ hK11=>bv h20 (z:=.bool (decide ((k1:Int)<(n0:Int)))) rfl (cLt _ _ _ _ rfl) fun _ h21=>wpList_nil<|hK11 _ _<|sq fun _ hK12=>?_
 rcases bC (decide ((k1:Int)<(n0:Int))) with hc1 | hc1
 ·skip
  have hp2:(k1:Int)<(n0:Int):=(dT hc1)
  refine wcT h21 rfl hc1<|h21.sk [26,25,8,7,6,5,4,0,1] rfl fun h22=>wp_skip<|hK12 _ _<|sq fun _ hK13=>wp_block ?_
  refine sqr fun _ hK14=>mvs 2 h22 rfl fun _ h23=>h23.sn [9,26,25,8,7,6,5,4,0,1] rfl fun h24=>hK14 _ _<|sqr fun _ hK15=>mv h24 rfl fun _ h25=>fav h25 rfl (fQ 3) fun _ h26=>sv1 h26 rfl (v:=.pointer (some ⟨g1,3+k1,none⟩)) (BS h26 rfl rfl rfl (fun w=>Lq g1 k1 ω ω w)) fun _ h27=>sw1 h27 rfl (v:=ν (x.blk k1)) (rld h27 rfl rfl (ldB υ3 rfl (s7.get 2 rfl:Blk _ _ _ _) (Ee x ω))) fun _ h28=>?_
  obtain ⟨q112,hq1⟩:=hfd k1 ω
  have hq113i:=DA hq1
  have hbk9:=hbl k1 ω
  refine cl h28 rfl (cF Tryz.func34) (Bl s7 (JC (k:=q112.k) (n:=q112.n) (a:=q112.a) (s:=q112.s) hq1 _)) fun _ v3 w8 r3 h29=>?_
  obtain ⟨rfl,s8⟩:=r3
  refine mvs 3 h29 rfl fun _ h30=>so (wn rfl) fun _ hK16=>AW h30 rfl rfl rfl rfl (z:=[ν 0,ν 0,ν 0,ν 0]) (fun _=>rfl) s8 fun _ g3 w9 h31 s9 _ _=>hK16 _ _ ?_
  refine stA h31 s9 0 rfl rfl rfl κ rfl rfl rfl rfl fun _ w10 h32 s10 _=>mv h32 rfl fun _ h33=>h33.sn [10,9,26,25,8,7,6,5,4,0,1] rfl fun h34=>hK15 _ _<|sq fun _ hK17=>?_
  have s11:=s10.drew
  refine wp_region_held_drew (S:=fun w'=>Sep w' [Ae g3 78 [ν q112.k,ν q112.n,ν q112.a,ν q112.s],BQ 0 5 1 ba87 ((Hk M P x k1)).length bc88 (((Hk M P x k1)).map Ag),Ae g2 76 [.pointer pp86,.slice ba87 ((Hk M P x k1).length) bc88],Ae g1 45 (Ap x),Ae fx 83 [π K.tg,π mx],Ae mx 103 [π K.tg],txP K ta tc M P,Ch.many R]) κ s11 (fun hq2=>?_)
  refine tv1 hq2 h34 0 rfl rfl (v:=π fx) (fun w1 _=>(AG h34 rfl rfl) w1) fun _ h35=>?_
  refine tv1 hq2 h35 1 rfl rfl (v:=π fx) (fun w1 _=>(Lt h35 rfl rfl) w1) fun _ h36=>?_
  refine tv1 hq2 h36 2 rfl rfl (v:=π fx) (fun w1 _=>(rfa h36 rfl rfl (fQ 0)) w1) fun _ h37=>?_
  refine tv1 hq2 h37 3 rfl rfl (v:=π K.tg) (fun w1 hSw=>(rld h37 rfl rfl (ldB υ30 rfl (hSw.get 4 rfl:Blk _ _ _ _) rfl))) fun _ h38=>?_
  refine tv1 hq2 h38 4 rfl rfl (v:=.pointer (some ⟨g3,2,none⟩)) (fun w1 _=>(rfa h38 rfl rfl (fQ 2)) w1) fun _ h39=>?_
  refine tv1 hq2 h39 5 rfl rfl (v:=ν q112.a) (fun w1 hSw=>(rld h39 rfl rfl (ldB υ3 rfl (hSw.get 0 rfl:Blk _ _ _ _) rfl))) fun _ h40=>?_
  refine tv1 hq2 h40 6 rfl rfl (v:=.pointer (some ⟨g3,3,none⟩)) (fun w1 _=>(rfa h40 rfl rfl (fQ 3)) w1) fun _ h41=>?_
  refine tv1 hq2 h41 7 rfl rfl (v:=ν q112.s) (fun w1 hSw=>(rld h41 rfl rfl (ldB υ3 rfl (hSw.get 0 rfl:Blk _ _ _ _) rfl))) fun _ h42=>?_
  refine to_ 8 rfl (wn rfl) κ fun _ hK18=>BM h42 rfl rfl rfl (xs:=[.tmp 41,.tmp 43,.tmp 45]) rfl (cF Tryz.func35) rfl (vs:=[π K.tg,ν q112.a,ν q112.s]) rfl (args:=#[π K.tg,ν q112.a,ν q112.s]) rfl (ST (s11.pk [6,0,1,2,3,4,5,7] rfl) hM hq1 ω) fun _ v4 w11 r4 h43=>?_
  obtain ⟨ad_x164,rc_x165,rfl,s12⟩:=r4
  refine hK18 _ _ (s12.pk [2,3,4,5,6,7,1,8] rfl) fun hq3=>?_
  refine tv1 hq3 h43 9 rfl rfl (v:=.tuple #[.slice (some ad_x164) ((Bc M P 7 (x.blk k1)).length) rc_x165,ν 0]) (fun w1 _=>(AG h43 rfl rfl) w1) fun _ h44=>?_
  refine tv1 hq3 h44 10 rfl rfl (v:=.slice (some ad_x164) ((Bc M P 7 (x.blk k1)).length) rc_x165) (fun w1 _=>(Zg h44 rfl rfl rfl) w1) fun _ h45=>?_
  refine tv1 hq3 h45 11 rfl rfl (v:=ν 0) (fun w1 _=>(Zg h45 rfl rfl rfl) w1) fun _ h46=>?_
  refine tv1 hq3 h46 12 rfl rfl (v:=.slice (some ad_x164) ((Bc M P 7 (x.blk k1)).length) rc_x165) (fun w1 _=>(BJ h46 rfl rfl) w1) fun _ h47=>?_
  refine tv1 hq3 h47 13 rfl rfl (v:=ν 0) (fun w1 _=>(BJ h47 rfl rfl) w1) fun _ h48=>?_
  refine h48.sk [12,10,9,26,25,8,7,6,5,4,0,1] rfl fun h49=>?_
  refine wpAnyH_done κ ?_ _
  refine hK17 _ _ ?_
  refine wp_region_lit<|mv h49 rfl fun _ h50=>?_
  have hly9:=LG hM (P:=P) hq1 ω
  refine cl h50 rfl (cF Tryz.func36) (Ack (s12.pk [4,3,0,1,2,5,6,7,8] rfl) hp1 ω ω ω) fun _ v5 w12 r5 h51=>?_
  obtain ⟨nb_x186,nc_x187,rfl,s13⟩:=r5
  refine h51.sn [12,10,9,26,25,8,7,6,5,4,0,1] rfl fun h52=>hK13 _ _<|wp_region_lit<|bv h52 (z:=ν ((k1+1:Nat):Int)) rfl (CO _ _ _ ω ω ω) fun _ h53=>h53.sk [51,12,10,9,25,8,7,6,5,4,0,1] rfl fun h54=>mv h54 rfl fun _ h55=>h55.sk [26,12,10,9,25,8,7,6,5,4,0,1] rfl fun h56=>wpList_nil ?_
  exact hK10 (k1+1) (some ⟨g2,0,none⟩) nb_x186 nc_x187 _ _ ⟨h56.subs rfl,(s13.pk [1,0,5,6,7,3,8] rfl),ω,.inr rfl,(fun q=>absurd q (Nat.succ_ne_zero _))⟩ ω
 ·skip
  have hp3:¬ ((k1:Int)<(n0:Int)):=(dF hc1)
  refine wcF h21 rfl hc1<|h21.sk [26,25,8,7,6,5,4,0,1] rfl fun h57=>wp_exit ?_
  refine hK7 _ _ ?_
  refine sq fun _ hK19=>?_
  have s14:=s7.drew
  refine wp_region_held_drew (S:=fun w'=>Sep w' [Ae g1 45 (Ap x),Ae fx 83 [π K.tg,π mx],Ae mx 103 [π K.tg],txP K ta tc M P,Ch.many R]) κ (s14.pk [2,3,4,5,6] rfl) (fun hq4=>?_)
  refine tv1 hq4 h57 1 rfl rfl (v:=.pointer (some ⟨g1,2,none⟩)) (fun w1 _=>(rfa h57 rfl rfl (fQ 2)) w1) fun _ h58=>?_
  refine tv1 hq4 h58 2 rfl rfl (v:=ν x.s) (fun w1 hSw=>(rld h58 rfl rfl (ldB υ3 rfl (hSw.get 0 rfl:Blk _ _ _ _) rfl))) fun _ h59=>?_
  have hbk9:=hbl k1 ω
  refine to_ 0 rfl (wn rfl) κ fun _ hK20=>BM h59 rfl rfl rfl (xs:=[.tmp 8]) rfl (cF Tryz.func37) rfl (vs:=[π g2]) rfl (args:=#[π g2]) rfl (PF (s14.pk [1,0,2,3,4,5,6] rfl) (fun e9=>hz84 (by rw [e9] at hbk9;simp at hbk9;omega))) fun _ v6 w13 r6 h60=>?_
  obtain ⟨rfl,s15⟩:=r6
  refine hK20 _ _ s15 fun hq5=>?_
  refine tv1 hq5 h60 3 rfl rfl (v:=σ ((Hk M P x k1).take ((x.s).toNat))) (fun w1 _=>(TA h60 rfl rfl (vl:=none) (vh:=(some (ν x.s))) rfl rfl (fun w=>(fun w=>((slT 9 υ9 (Hk M P x k1) (a:=0) (b:=(x.s).toNat) (.inl ⟨rfl,rfl⟩) (.inr ⟨_,rfl,ω⟩) ω ω) w).trans (by rw [List.drop_zero])) w)) w1) fun _ h61=>?_
  refine h61.sk [55,52,54,53,26,25,8,7,6,5,0,1] rfl fun h62=>?_
  refine tv1 hq5 h62 4 rfl rfl (v:=σ ((Hk M P x k1).take ((x.s).toNat))) (fun w1 _=>(BJ h62 rfl rfl) w1) fun _ h63=>?_
  refine h63.sk [4,55,52,54,53,26,25,8,7,6,0,1] rfl fun h64=>?_
  refine tv1 hq5 h64 5 rfl rfl (v:=ν 0) (fun w1 _=>(BJ h64 rfl rfl) w1) fun _ h65=>?_
  refine h65.sk [5,4,26,25,8,7,6,0,1] rfl fun h66=>?_
  refine wpAnyH_done κ ?_ _
  refine hK19 _ _ ?_
  refine wp_ret ?_
  try simp only [Exit.then,Exit.inBlock]
  refine BR (v:=.tuple #[σ ((Hk M P x k1).take ((x.s).toNat)),ν 0]) (Fc h66 rfl rfl rfl) h66.defs ?_
  obtain rfl:n0=k1:=ω
  exact ⟨rfl,Sep.tail_un (xs:=[_,_,_]) (s15.pk [1,2,3,4] rfl)⟩
end
section
end
section
def ykX (n:Int):Nat→InoT
  | 0=>szX opX n
  | k+1=>(ykX n k).setB k ((k:Int)+3)
def skS:Nat→BG
  | 0=>s4S
  | k+1=>BX (BX (skS k) 3 0 (AR (CV (skS k)) ((k:Int)+3))) 7 ((k:Int)+3) (List.replicate 64 0)
theorem Ado (m:List UInt8):DI m 0=m:=if_neg (by decide)
theorem Abv (x:InoT):(Ce x).length≤64:=by
  unfold Ce;split
  · split
    · decide
    · rename_i h _;have:=JW x;omega
  · exact Nat.zero_le _
section
variable {M:MemM}
theorem Aew:∀ i:Fin 4,CQ s4S ((i.val:Int)+2)=0:=by decide +kernel
theorem Ab7 (i:Nat) (hi:i<4):CJ s4S ((i:Int)+2)=opX:=by
  rcases (ω:i=0∨i=1∨i=2∨i=3) with rfl | rfl | rfl | rfl<;>kernel_rfl
end
end
section
open Go.RowKit Go.WideShapes
theorem YN (k n:Nat) (h:n<256 ^ k):BW (le k n)=n:=by
  induction k generalizing n with
  | zero=>simp [le,BW] at *;omega
  | succ k ih=>
    have h':n / 256<256 ^ k:=by
      rw [Nat.div_lt_iff_lt_mul ω];rw [Nat.pow_succ] at h;exact h
    simp only [le,BW]
    rw [ih _ h']
    have:(UInt8.ofNat n).toNat=n % 256:=by simp
    rw [this];omega
theorem Ys {i:InoT} (h:JJ i=IR):i=AT:=by
  cases i
  unfold JJ IR at h
  simp only [List.cons.injEq,and_true] at h
  obtain ⟨h0,h1,h2,h3,h4,h5,h6,h7,h8,h9,h10,h11,h12,h13,h14⟩:=h
  subst h0 h1 h2 h3 h4 h5 h6 h7 h8 h9 h10 h11 h12 h13 h14
  rfl
theorem VW {i:InoT} (hm:Cm i=true) (hk:i.k=0):i=AT:=by
  have:=It (i:=i) ω ω
  rw [hm] at this
  exact Ys (of_decide_eq_true this.symm)
theorem Jj {i:InoT} (hm:Cm i=true) (hk:i.k≠0):Ce i=Hs i++le 4 (CP (Hs i)):=by rw [Wx hm hk,Pw]
theorem Oq {i:InoT} (hm:Cm i=true):(Ce i).length=64:=by
  by_cases hk:i.k=0
  · rw [KC hm hk];simp
  · rw [Jj hm hk,List.length_append,JK,AA]
theorem Me {i:InoT} (hm:Cm i=true) (hk:i.k≠0):Bf (Ce i)=i:=by
  have hkd:=Oi hm
  have hlow:=YD hm
  have hX:=SN hm
  rw [Jj hm hk]
  generalize CP (Hs i)=z
  unfold Hs
  rw [hX]
  have e:∀ n:Int,0≤n→n≤255→((UInt8.ofNat n.toNat).toNat:Int)=n:=by
    intro n h0 h1
    have:(UInt8.ofNat n.toNat).toNat=n.toNat % 256:=by simp
    rw [this];omega
  have es:∀ n:Int,0≤n→n≤256→((UInt8.ofNat n.toNat).toNat:Int)+256*((UInt8.ofNat (n.toNat / 256)).toNat:Int)=n:=by
    intro n h0 h1
    have e1:(UInt8.ofNat n.toNat).toNat=n.toNat % 256:=by simp
    have e2:(UInt8.ofNat (n.toNat / 256)).toNat=n.toNat / 256 % 256:=by simp
    rw [e1,e2];omega
  clear hX
  obtain ⟨k,l,s,b0,b1,b2,b3,o0,o1,o2,o3,o4,o5,o6,o7⟩:=i
  simp only [InoT.B,InoT.O] at *
  show (⟨((UInt8.ofNat k.toNat).toNat:Int),((UInt8.ofNat l.toNat).toNat:Int),((UInt8.ofNat s.toNat).toNat:Int)+256*((UInt8.ofNat (s.toNat / 256)).toNat:Int),((UInt8.ofNat b0.toNat).toNat:Int),((UInt8.ofNat b1.toNat).toNat:Int),((UInt8.ofNat b2.toNat).toNat:Int),((UInt8.ofNat b3.toNat).toNat:Int),((UInt8.ofNat o0.toNat).toNat:Int),((UInt8.ofNat o1.toNat).toNat:Int),((UInt8.ofNat o2.toNat).toNat:Int),((UInt8.ofNat o3.toNat).toNat:Int),((UInt8.ofNat o4.toNat).toNat:Int),((UInt8.ofNat o5.toNat).toNat:Int),((UInt8.ofNat o6.toNat).toNat:Int),((UInt8.ofNat o7.toNat).toNat:Int)⟩:InoT)=_
  have H:∀ n∈[b0,b1,b2,b3]++[o0,o1,o2,o3,o4,o5,o6,o7],((UInt8.ofNat n.toNat).toNat:Int)=n:=fun n hn=>e n (hlow n hn).1 (hlow n hn).2
  rw [e k hkd.1 ω,e l hkd.2.2.1 ω,es s hkd.2.2.2.2.1 hkd.2.2.2.2.2,H b0 (by simp),H b1 (by simp),H b2 (by simp),H b3 (by simp),H o0 (by simp),H o1 (by simp),H o2 (by simp),H o3 (by simp),H o4 (by simp),H o5 (by simp),H o6 (by simp),H o7 (by simp)]
theorem Zy {Y t:List UInt8} (hY:Y.length=60) (ht:t.length=4):(Y++t).take 60=Y∧slI (Y++t) 60 4=t:=by
  refine ⟨by rw [← hY];exact List.take_left,?_⟩
  unfold slI
  rw [← hY,List.drop_left,← ht,List.take_length]
theorem WO {i:InoT} (hm:Cm i=true) (hk:i.k≠0):Lj (Ce i)=true:=by
  rw [Jj hm hk]
  obtain ⟨h1,h2⟩:=Zy (JK i) (AA 4 (CP (Hs i)))
  unfold Lj
  rw [h1,h2]
  exact decide_eq_true (YN 4 _ (Nat.lt_of_lt_of_le (EA _) (by decide)))
theorem ZZ {i:InoT} (hm:Cm i=true) (hk:i.k≠0):(bAt (Ce i) 0:Int)=i.k:=congrArg InoT.k (Me hm hk)
theorem Abx {i:InoT} (hm:Cm i=true) (hk:i.k≠0):Ce i≠EY:=by
  intro e
  have:=ZZ hm hk
  rw [e] at this
  exact hk this.symm
theorem Wy {i:InoT} (hm:Cm i=true):rdI (Ce i)=i∧rdE (Ce i)=0:=by
  have hl:=Oq hm
  have ht:(Ce i).take 64=Ce i:=List.take_of_length_le ω
  by_cases hk:i.k=0
  · have e0:=VW hm hk
    obtain ⟨h1,h2⟩:=UO (xs:=Ce i) ω (by rw [ht];exact KC hm hk)
    exact ⟨by rw [h1,e0],h2⟩
  · have hf:=Me hm hk
    obtain ⟨h1,h2⟩:=UN (xs:=Ce i) ω (by rw [ht];exact Abx hm hk) (by rw [ht];exact WO hm hk) (by
      rw [ht];unfold KD;rw [hf,hm,Bool.true_and];exact decide_eq_true rfl)
    rw [ht,hf] at h1
    exact ⟨h1,h2⟩
end
section
theorem Lk {m:List UInt8} (h:m.length=16) {b c:Int} (hb:1≤b∧b≤128):CM (AR m b) c=(CM m c||decide (c=b)):=by
  unfold AR CM
  rw [if_pos hb,Kp _ _ _ h ω]
  by_cases hc:1≤c∧c≤128
  · rw [decide_eq_true hc,Bool.true_and,Bool.true_and];congr 1;exact decide_eq_decide.2 ω
  · rw [decide_eq_false hc,decide_eq_false (ω:¬ c=b)];rfl
theorem RM {m:List UInt8} (h:m.length=16) {b c:Int} (hb:1≤b∧b≤128):CM (DI m b) c=(CM m c&&!decide (c=b)):=by
  unfold DI CM
  rw [if_pos hb,Ko _ _ _ h ω]
  by_cases hc:1≤c∧c≤128
  · rw [decide_eq_true hc,Bool.true_and,Bool.true_and];congr 2;exact decide_eq_decide.2 ω
  · rw [decide_eq_false hc];rfl
theorem Ih {m:List UInt8} {b:Int} (h:CM m b=true):1≤b∧b≤128:=by
  unfold CM at h;rw [Bool.and_eq_true] at h;exact of_decide_eq_true h.1
def Ks (m:List UInt8):Nat:=(Dq m 128).length
theorem IY {p q:Nat→Bool} {k:Nat} (hp:p k=false) (hq:q k=true) (h:∀ j,j≠k→q j=p j):∀ n,((List.range n).filter q).length=((List.range n).filter p).length+(if k<n then 1 else 0)
  | 0=>rfl
  | n+1=>by
    rw [List.range_succ,List.filter_append,List.filter_append,List.length_append,List.length_append,IY hp hq h n]
    by_cases e:n=k
    · subst e
      rw [if_neg (Nat.lt_irrefl n),if_pos (Nat.lt_succ_self n)]
      simp [hp,hq]
    · have e1:(List.filter q [n]).length=(List.filter p [n]).length:=by simp [h n e,List.filter_cons]
      rw [e1]
      by_cases l:k<n
      · rw [if_pos l,if_pos ω];omega
      · rw [if_neg l,if_neg ω];omega
theorem Xw {m:List UInt8} (h:m.length=16) {b:Int} (hb:1≤b∧b≤128) (hu:CM m b=false):Ks (AR m b)=Ks m+1:=by
  have hu2:Ej m (b-1).toNat=false:=by unfold CM at hu;rw [decide_eq_true hb,Bool.true_and] at hu;exact hu
  have z:=IY (p:=Ej m) (q:=Ej (AR m b)) (k:=(b-1).toNat) hu2 (by unfold AR;rw [if_pos hb,Kp _ _ _ h ω];simp) (fun j hj=>by unfold AR;rw [if_pos hb,Kp _ _ _ h ω,decide_eq_false hj,Bool.or_false]) 128
  rw [if_pos ω] at z;exact z
theorem Xv {m:List UInt8} (h:m.length=16) {b:Int} (hu:CM m b=true):Ks m=Ks (DI m b)+1:=by
  have hb:=Ih hu
  have hu2:Ej m (b-1).toNat=true:=by unfold CM at hu;rw [decide_eq_true hb,Bool.true_and] at hu;exact hu
  have z:=IY (q:=Ej m) (p:=Ej (DI m b)) (k:=(b-1).toNat) (by unfold DI;rw [if_pos hb,Ko _ _ _ h ω];simp) hu2 (fun j hj=>by unfold DI;rw [if_pos hb,Ko _ _ _ h ω,decide_eq_false hj,Bool.not_false,Bool.and_true]) 128
  rw [if_pos ω] at z;exact z
theorem JE (m:List UInt8):∀ n i:Nat,(∃ j,i≤j∧j<i+n∧CI m 1 n i=(j:Int)+1∧Ej m j=false)∨(∀ j,i≤j→j<i+n→Ej m j=true)
  | 0,i=>.inr fun j h1 h2=>ω
  | n+1,i=>by
    unfold CI
    by_cases c:Ej m i=false
    · exact .inl ⟨i,Nat.le_refl _,ω,by rw [if_pos ⟨ω,c⟩],c⟩
    · rw [if_neg (fun e=>c e.2)]
      rcases JE m n (i+1) with ⟨j,h1,h2,h3,h4⟩ | h
      · exact .inl ⟨j,ω,ω,h3,h4⟩
      · refine .inr fun j h1 h2=>?_
        by_cases e:j=i
        · subst e;simpa using c
        · exact h j ω ω
theorem Mh {m:List UInt8} (h:Ks m<128):1≤Ar m 1∧Ar m 1≤128∧CM m (Ar m 1)=false:=by
  rcases JE m 128 0 with ⟨j,h1,h2,h3,h4⟩ | hA
  · have e:Ar m 1=(j:Int)+1:=h3
    rw [e]
    refine ⟨ω,ω,?_⟩
    unfold CM;rw [show ((j:Int)+1-1).toNat=j by omega,h4,Bool.and_false]
  · exfalso
    have:Ks m=128:=by
      unfold Ks Dq
      rw [List.filter_eq_self.2 fun j hj=>hA j (Nat.zero_le _) (by have:=List.mem_range.1 hj;omega),List.length_range]
    omega
theorem DY (x:InoT) {j:Nat} (hj:j<4) (b:Int) (i:Nat):(x.setB j b).blk i=if i=j then b else x.blk i:=by
  rcases (ω:j=0∨j=1∨j=2∨j=3) with rfl | rfl | rfl | rfl <;>
    (match i with
     | 0=>rfl
     | 1=>rfl
     | 2=>rfl
     | 3=>rfl
     | n+4=>rfl)
theorem Aab (x:InoT) {i:Nat} (h:4≤i):x.blk i=0:=by
  obtain ⟨n,rfl⟩:∃ n,i=n+4:=⟨i-4,ω⟩
  rfl
def Gc (v:Int):Nat:=if v=0 then 0 else 1
theorem FN (v:Int):Gc v≤1:=by unfold Gc;split<;>omega
def nzI (x:InoT):Nat:=Gc (x.blk 0)+Gc (x.blk 1)+Gc (x.blk 2)+Gc (x.blk 3)
theorem UG (x:InoT) {j:Nat} (hj:j<4) (b:Int):nzI (x.setB j b)+Gc (x.blk j)=nzI x+Gc b:=by
  unfold nzI
  rw [DY x hj,DY x hj,DY x hj,DY x hj]
  rcases (ω:j=0∨j=1∨j=2∨j=3) with rfl | rfl | rfl | rfl<;>simp<;>omega
theorem Af9 {x:InoT} {n k:Nat} (hn:n≤4) (hk:k<n) (h0:x.blk k=0) (h:∀ j,n≤j→x.blk j=0):nzI x<n:=by
  have z:Gc 0=0:=rfl
  unfold nzI
  have a0:=FN (x.blk 0);have a1:=FN (x.blk 1);have a2:=FN (x.blk 2);have a3:=FN (x.blk 3)
  have g:∀ j,(n≤j∨j=k)→Gc (x.blk j)=0:=fun j hj=>by
    rcases hj with hj | hj
    · rw [h j hj];rfl
    · rw [hj,h0];rfl
  have g0:(n≤0∨0=k)→Gc (x.blk 0)=0:=g 0
  have g1:(n≤1∨1=k)→Gc (x.blk 1)=0:=g 1
  have g2:(n≤2∨2=k)→Gc (x.blk 2)=0:=g 2
  have g3:(n≤3∨3=k)→Gc (x.blk 3)=0:=g 3
  rcases (ω:k=0∨k=1∨k=2∨k=3) with rfl | rfl | rfl | rfl <;>
    (rcases (ω:n=1∨n=2∨n=3∨n=4) with rfl | rfl | rfl | rfl<;>first | omega | (simp at g0 g1 g2 g3;omega))
theorem Af8 {x:InoT} {n:Nat} (hn:n≤4) (h:∀ j,x.blk j≠0↔j<n):nzI x=n:=by
  have g:∀ j,Gc (x.blk j)=if j<n then 1 else 0:=fun j=>by
    unfold Gc
    by_cases e:j<n
    · rw [if_neg ((h j).2 e),if_pos e]
    · rw [if_pos (Classical.not_not.1 fun q=>e ((h j).1 q)),if_neg e]
  unfold nzI
  rw [g,g,g,g]
  rcases (ω:n=0∨n=1∨n=2∨n=3∨n=4) with rfl | rfl | rfl | rfl | rfl<;>rfl
abbrev DW:=Nat→InoT
def Dy (X:DW) (k:Nat) (x:InoT):DW:=fun i=>if i=k then x else X i
theorem Dm (X:DW) (k:Nat) (x:InoT):Dy X k x k=x:=if_pos rfl
theorem Ff {X:DW} {k i:Nat} {x:InoT} (h:i≠k):Dy X k x i=X i:=if_neg h
theorem RK (X:DW) (k:Nat) (x y:InoT):Dy (Dy X k x) k y=Dy X k y:=by
  funext i;unfold Dy;split<;>rfl
def Jn (X:DW):Nat:=nzI (X 0)+nzI (X 1)+nzI (X 2)+nzI (X 3)
theorem LI (X:DW) {k:Nat} (hk:k<4) (x:InoT):Jn (Dy X k x)+nzI (X k)=Jn X+nzI x:=by
  unfold Jn Dy
  rcases (ω:k=0∨k=1∨k=2∨k=3) with rfl | rfl | rfl | rfl<;>simp<;>omega
structure MapOk (m:List UInt8) (X:DW):Prop where
  l:m.length=16
  u:∀ k j,k<4→(X k).blk j≠0→CM m ((X k).blk j)=true
  d:∀ k k' j j',k<4→k'<4→(X k).blk j≠0→(X k).blk j=(X k').blk j'→k=k'∧j=j'
  c:Ks m=2+Jn X
theorem MapOk.give {m:List UInt8} {X:DW} (H:MapOk m X) {k j:Nat} (hk:k<4) (hj:j<4):MapOk (DI m ((X k).blk j)) (Dy X k ((X k).setB j 0)):=by
  have b':∀ i q,(Dy X k ((X k).setB j 0) i).blk q=if i=k∧q=j then 0 else (X i).blk q:=fun i q=>by
    unfold Dy;split
    · next e=>subst e;rw [DY _ hj];simp
    · next e=>rw [if_neg (fun z=>e z.1)]
  have tt:=LI X hk ((X k).setB j 0)
  have nn:=UG (X k) hj 0
  have z0:Gc 0=0:=rfl
  by_cases h0:(X k).blk j=0
  · have e:DI m ((X k).blk j)=m:=by rw [h0];exact Ado m
    rw [e]
    refine ⟨H.l,fun i q hi=>?_,fun i i' q q' hi hi'=>?_,?_⟩
    · rw [b'];split
      · exact fun z=>absurd rfl z
      · exact H.u i q hi
    · rw [b',b'];split
      · exact fun z=>absurd rfl z
      · split
        · exact fun z z2=>absurd z2 z
        · exact H.d i i' q q' hi hi'
    · have:=H.c
      have e0:Gc ((X k).blk j)=0:=by rw [h0];rfl
      omega
  · have hu:=H.u k j hk h0
    have hb:=Ih hu
    refine ⟨by rw [Ay];exact H.l,fun i q hi=>?_,fun i i' q q' hi hi'=>?_,?_⟩
    · rw [b'];split
      · exact fun z=>absurd rfl z
      · next e=>
        intro z
        rw [RM H.l hb,H.u i q hi z,decide_eq_false (fun q9=>e (H.d i k q j hi hk z q9))];rfl
    · rw [b',b'];split
      · exact fun z=>absurd rfl z
      · split
        · exact fun z z2=>absurd z2 z
        · exact H.d i i' q q' hi hi'
    · have:=H.c
      have g:=Xv H.l hu
      have e1:Gc ((X k).blk j)=1:=if_neg h0
      omega
theorem MapOk.take {m:List UInt8} {X:DW} (H:MapOk m X) {k j:Nat} {b:Int} (hk:k<4) (hj:j<4) (h0:(X k).blk j=0) (hb:1≤b∧b≤128) (hu:CM m b=false):MapOk (AR m b) (Dy X k ((X k).setB j b)):=by
  have b':∀ i q,(Dy X k ((X k).setB j b) i).blk q=if i=k∧q=j then b else (X i).blk q:=fun i q=>by
    unfold Dy;split
    · next e=>subst e;rw [DY _ hj];simp
    · next e=>rw [if_neg (fun z=>e z.1)]
  have tt:=LI X hk ((X k).setB j b)
  have nn:=UG (X k) hj b
  have nb:∀ i q,i<4→(X i).blk q≠0→(X i).blk q≠b:=fun i q hi z e=>by
    have:=H.u i q hi z;rw [e,hu] at this;cases this
  refine ⟨by rw [AZ];exact H.l,fun i q hi=>?_,fun i i' q q' hi hi'=>?_,?_⟩
  · rw [b',Lk H.l hb];split
    · intro _;simp
    · intro z;rw [H.u i q hi z];rfl
  · rw [b',b']
    by_cases e:i=k∧q=j
    · rw [if_pos e]
      by_cases e':i'=k∧q'=j
      · exact fun _ _=>⟨e.1.trans e'.1.symm,e.2.trans e'.2.symm⟩
      · rw [if_neg e']
        intro z z2
        exact absurd z2.symm (nb i' q' hi' (by rw [← z2];exact z))
    · rw [if_neg e]
      by_cases e':i'=k∧q'=j
      · rw [if_pos e']
        exact fun z z2=>absurd z2 (nb i q hi z)
      · rw [if_neg e'];exact H.d i i' q q' hi hi'
  · have:=H.c
    have g:=Xw H.l hb hu
    have e1:Gc b=1:=if_neg ω
    have e0:Gc ((X k).blk j)=0:=by rw [h0];rfl
    omega
end
section
def NA (s:BG) (x:InoT):Nat→List UInt8
  | 0=>[]
  | k+1=>NA s x k++s 7 (x.blk k)
theorem IU {s s':BG} {x:InoT}:∀ {n:Nat},(∀ j,j<n→s' 7 (x.blk j)=s 7 (x.blk j))→NA s' x n=NA s x n
  | 0,_=>rfl
  | n+1,h=>by unfold NA;rw [IU fun j hj=>h j ω,h n ω]
theorem Xo {M:MemM} {P:List PtM} {s:BG} {n:Nat} (V:Vol M P s n) (x:InoT):∀ k,Hk M P x k=NA s x k
  | 0=>rfl
  | k+1=>by unfold Hk NA;rw [Xo V x k,← V.s];rfl
theorem Vol.l7 {M:MemM} {P:List PtM} {s:BG} {n:Nat} (V:Vol M P s n) {kd b:Int} {q:PartT} (h:Bj kd b=some q) (hk:kd=3∨kd=4∨kd=7):(s kd b).length=64:=by
  have z:=LG (P:=P) V.m h ω
  rw [← V.s];unfold OH;rw [if_pos hk];exact z
theorem Ahi:∀ j:Fin 128,EU 7 ((j.val:Int)+1)=true:=by decide +kernel
theorem Ir {b:Int} (h:1≤b∧b≤128):EU 7 b=true:=by
  have z:=Ahi ⟨(b-1).toNat,ω⟩
  rw [show (((⟨(b-1).toNat,ω⟩:Fin 128).val:Nat):Int)+1=b by show ((b-1).toNat:Int)+1=b;omega] at z;exact z
theorem RL {s:BG} {kd nm:Int} {xs:List UInt8} (h:(s kd nm).length≤xs.length):BX s kd nm xs kd nm=xs:=by
  unfold BX;rw [if_pos ⟨rfl,rfl⟩,List.drop_of_length_le h,List.append_nil]
theorem FB {s:BG} {kd nm a b:Int} {xs:List UInt8} (h:¬ (a=kd∧b=nm)):BX s kd nm xs a b=s a b:=if_neg h
theorem Qs {s:BG} {m:List UInt8} (h:m.length=16):CV (BX s 3 0 m)=m:=by
  have e:BX s 3 0 m 3 0=m++(s 3 0).drop m.length:=if_pos ⟨rfl,rfl⟩
  unfold CV;rw [e];unfold Gw
  rw [if_neg (by rw [List.length_append];omega),← h,List.take_left]
theorem Mw {s s':BG} (h:s' 3 0=s 3 0):CV s'=CV s:=by unfold CV;rw [h]
structure FilOk (v:BG) (X:DW) (T:Nat→List UInt8):Prop where
  m:MapOk (CV v) X
  e:∀ k:Nat,k<4→CQ v ((k:Int)+2)=0
  x:∀ k:Nat,k<4→CJ v ((k:Int)+2)=X k
  k:∀ k,k<4→(X k).k=1
  y:∀ k,k<4→Cm (X k)=true
  s:∀ k,k<4→(X k).s=((T k).length:Int)∧(T k).length≤256
  t:∀ k,k<4→(NA v (X k) (Bh ((T k).length:Int)).toNat).take (T k).length=T k
theorem MA {x:InoT} (hk:x.k=1):Cm x=(Dp x&&!twI x):=by
  unfold Cm;rw [if_neg ω,if_pos hk]
theorem QC {j n s:Int}:okB j n s=true↔(j<s↔n≠0)∧0≤n∧n≤128:=by
  unfold okB
  rw [Bool.and_eq_true,decide_eq_true_eq,beq_iff_eq]
  by_cases h:n=0<;>by_cases h2:j<s<;>simp [h,h2]
theorem Abb {x:InoT} (hk:x.k=1) (hm:Cm x=true) (j:Nat):x.blk j≠0↔(j<4∧(64:Int)*j<x.s):=by
  rw [MA hk] at hm
  unfold Dp KR at hm
  simp only [Bool.and_eq_true,QC] at hm
  obtain ⟨⟨⟨_,⟨⟨h0,h1⟩,h2⟩,h3⟩,_⟩,_⟩:=hm
  match j with
  | 0=>show x.b0≠0↔_;rw [← h0.1];omega
  | 1=>show x.b1≠0↔_;rw [← h1.1];omega
  | 2=>show x.b2≠0↔_;rw [← h2.1];omega
  | 3=>show x.b3≠0↔_;rw [← h3.1];omega
  | n+4=>show (0:Int)≠0↔_;omega
theorem Oj {n:Nat} {n0:Nat} (h:Bh (n:Int)=(n0:Int)) (hn:n≤256) (j:Nat):j<n0↔(j<4∧(64:Int)*j<n):=by
  unfold Bh at h;split at h<;>omega
theorem Agt {a b c d:Nat} (h1:b≠0→b≠a) (h2:c≠0→c≠b∧c≠a) (h3:d≠0→d≠c∧d≠b∧d≠a):tw a b c d=false:=by
  unfold tw twC
  have t:∀ (n:Nat) (l:List Nat),(n≠0→n∉l)→((n != 0)&&decide (n∈l))=false:=fun n l h=>by
    by_cases e:n=0
    · simp [e]
    · rw [decide_eq_false (h e),Bool.and_false]
  rw [t a [] (by simp),t b [a] (by simpa using h1),t c [b,a] (by simpa using h2),t d [c,b,a] (by simpa using h3)];rfl
theorem Abc {x z:InoT} {n:Nat} (hk:x.k=1) (hm:Cm x=true) (hz:z.k=x.k∧z.l=x.l∧z.o0=x.o0∧z.o1=x.o1∧z.o2=x.o2∧z.o3=x.o3∧z.o4=x.o4∧z.o5=x.o5∧z.o6=x.o6∧z.o7=x.o7) (hs:z.s=(n:Int)) (hn:n≤256)
    (hb:∀ j,z.blk j≠0↔(j<4∧(64:Int)*j<n)) (hr:∀ j,0≤z.blk j∧z.blk j≤128) (hd:∀ j j',z.blk j≠0→z.blk j=z.blk j'→j=j'):Cm z=true:=by
  obtain ⟨zk,zl,z0,z1,z2,z3,z4,z5,z6,z7⟩:=hz
  rw [MA (zk.trans hk)]
  rw [MA hk] at hm
  unfold Dp at hm ⊢
  simp only [Bool.and_eq_true] at hm
  obtain ⟨⟨⟨g1,_⟩,g2⟩,_⟩:=hm
  have e1:Fp z.l z.s=true:=by
    unfold Fp at g1 ⊢
    have:=of_decide_eq_true g1
    exact decide_eq_true ⟨ω,ω,ω,ω⟩
  have e2:Mf z=true:=by unfold Mf at g2 ⊢;rw [z0,z1,z2,z3,z4,z5,z6,z7];exact g2
  have e3:KR z=true:=by
    unfold KR
    simp only [Bool.and_eq_true,QC]
    have b0:z.b0≠0↔_:=hb 0
    have b1:z.b1≠0↔_:=hb 1
    have b2:z.b2≠0↔_:=hb 2
    have b3:z.b3≠0↔_:=hb 3
    rw [hs]
    exact ⟨⟨⟨⟨by rw [b0];omega,hr 0⟩,by rw [b1];omega,hr 1⟩,by rw [b2];omega,hr 2⟩,by rw [b3];omega,hr 3⟩
  have e4:twI z=false:=by
    unfold twI
    have r0:0≤z.b0∧_:=hr 0
    have r1:0≤z.b1∧_:=hr 1
    have r2:0≤z.b2∧_:=hr 2
    have r3:0≤z.b3∧_:=hr 3
    have d10:z.b1≠0→z.b1=z.b0→1=0:=hd 1 0
    have d21:z.b2≠0→z.b2=z.b1→2=1:=hd 2 1
    have d20:z.b2≠0→z.b2=z.b0→2=0:=hd 2 0
    have d32:z.b3≠0→z.b3=z.b2→3=2:=hd 3 2
    have d31:z.b3≠0→z.b3=z.b1→3=1:=hd 3 1
    have d30:z.b3≠0→z.b3=z.b0→3=0:=hd 3 0
    exact Agt (fun h e=>by have:=d10 ω ω;omega) (fun h=>⟨fun e=>by have:=d21 ω ω;omega,fun e=>by have:=d20 ω ω;omega⟩)
      (fun h=>⟨fun e=>by have:=d32 ω ω;omega,fun e=>by have:=d31 ω ω;omega,fun e=>by have:=d30 ω ω;omega⟩)
  rw [e1,e2,e3,e4];rfl
def JY (z x:InoT):Prop:=z.k=x.k∧z.l=x.l∧z.o0=x.o0∧z.o1=x.o1∧z.o2=x.o2∧z.o3=x.o3∧z.o4=x.o4∧z.o5=x.o5∧z.o6=x.o6∧z.o7=x.o7
theorem KI {z x:InoT} (h:JY z x) (j:Nat) (b:Int):JY (z.setB j b) x∧(z.setB j b).s=z.s:=by
  unfold InoT.setB;split<;>exact ⟨h,rfl⟩
theorem Uo {m:List UInt8} {X:DW} {k:Nat} {x:InoT} {n0:Nat} (hk:k<4) (H:MapOk m (Dy X k x)):∀ i,n0+i≤4→MapOk (Cx x n0 m i) (Dy X k (Bv x n0 i))∧JY (Bv x n0 i) x∧(Bv x n0 i).s=x.s∧∀ j,(Bv x n0 i).blk j=if n0≤j∧j<n0+i then 0 else x.blk j
  | 0,_=>⟨H,⟨rfl,rfl,rfl,rfl,rfl,rfl,rfl,rfl,rfl,rfl⟩,rfl,fun j=>by rw [if_neg ω];rfl⟩
  | i+1,h=>by
    obtain ⟨i1,i2,i3,i4⟩:=Uo (n0:=n0) hk H i ω
    have z:=i1.give (j:=n0+i) hk ω
    rw [Dm,RK] at z
    refine ⟨z,(KI i2 _ _).1,(KI i2 _ _).2.trans i3,fun j=>?_⟩
    show ((Bv x n0 i).setB (n0+i) 0).blk j=_
    rw [DY _ (ω:n0+i<4),i4]
    by_cases e:j=n0+i
    · rw [if_pos e,if_pos ω]
    · rw [if_neg e]
      by_cases e2:n0≤j∧j<n0+i
      · rw [if_pos e2,if_pos ω]
      · rw [if_neg e2,if_neg ω]
end
section
section
variable {M:MemM} {P:List PtM} {s:BG} {c:Nat} {X:DW} {k n0:Nat} {y z:InoT} {sp:Int}
structure AlOk (M:MemM) (s:BG) (X:DW) (k c i:Nat) (y x:InoT) (P:List PtM) (s':BG) (c':Nat):Prop where
  v:Vol M P s' c'
  c:c'≤c+2*i
  m:MapOk (CV s') (Dy X k x)
  r:JY x y∧x.s=y.s
  lo:∀ j,j<i→x.blk j≠0
  hi:∀ j,i≤j→x.blk j=y.blk j
  n4:∀ a,s' 4 a=s 4 a
  n7:∀ b,CM (CV s) b=true→s' 7 b=s 7 b∧CM (CV s') b=true
theorem ZT (hk:k<4) {x:InoT} {m:List UInt8} (H:MapOk m (Dy X k x)) (hn:n0≤4) {i:Nat} (hi:i<n0) (h0:x.blk i=0) (hz:∀ j,n0≤j→x.blk j=0) (hr:((2+Jn (Dy X k AT)+n0:Nat):Int)≤128-max sp 0):¬ 128-((Dq m 128).length:Int)≤max sp 0∧Ks m<128:=by
  have t1:=LI X hk x
  have t2:=LI X hk AT
  have z0:nzI AT=0:=rfl
  have lt:=Af9 hn hi h0 hz
  have cc:=H.c
  have e:Ks m=(Dq m 128).length:=rfl
  rw [← e]
  constructor<;>omega
theorem Acn (V:Vol M P s c) (hc:c≤30) (hk:k<4) (hn:n0≤4) (H:MapOk (CV s) (Dy X k y)) :
    ∀ i,i≤n0→(∀ j,j≤i→∃ s' c',AlOk M s X k c j y (alS M sp y P j).1 (alS M sp y P j).2 s' c'∧(j<i→(alS M sp y P j).1.blk j=0→bE M (alS M sp y P j).2 sp=0)) ∨
      ∃ f,f<i∧(∀ j,j<f→(alS M sp y P j).1.blk j=0→bE M (alS M sp y P j).2 sp=0)∧(alS M sp y P f).1.blk f=0∧bE M (alS M sp y P f).2 sp=18∧∃ s' c',AlOk M s X k c f y (alS M sp y P f).1 (alS M sp y P f).2 s' c'
  | 0,_=>.inl fun j hj=>by
    obtain rfl:j=0:=ω
    exact ⟨s,c,⟨V,ω,H,⟨⟨rfl,rfl,rfl,rfl,rfl,rfl,rfl,rfl,rfl,rfl⟩,rfl⟩,fun j hj=>ω,fun j _=>rfl,fun _=>rfl,fun b h=>⟨rfl,h⟩⟩,fun h=>ω⟩
  | i+1,hi=>by
    rcases Acn V hc hk hn H i ω with ih | ⟨f,hf,g⟩
    case inr=>exact .inr ⟨f,ω,g⟩
    obtain ⟨s1,c1,A,_⟩:=ih i (Nat.le_refl _)
    have ac:=A.c
    have up:(∃ s' c',AlOk M s X k c (i+1) y (alS M sp y P (i+1)).1 (alS M sp y P (i+1)).2 s' c')→((alS M sp y P i).1.blk i=0→bE M (alS M sp y P i).2 sp=0)→∀ j,j≤i+1→∃ s' c',AlOk M s X k c j y (alS M sp y P j).1 (alS M sp y P j).2 s' c'∧(j<i+1→(alS M sp y P j).1.blk j=0→bE M (alS M sp y P j).2 sp=0):=fun h1 h2 j hj=>by
      by_cases e:j=i+1
      · subst e
        obtain ⟨s',c',B⟩:=h1
        exact ⟨s',c',B,fun h=>ω⟩
      · obtain ⟨s',c',B,hB⟩:=ih j ω
        refine ⟨s',c',B,fun _ h0=>?_⟩
        by_cases e2:j=i
        · subst e2;exact h2 h0
        · exact hB ω h0
    by_cases h0:(alS M sp y P i).1.blk i=0
    · by_cases r1:128-((Dq (CV s1) 128).length:Int)≤max sp 0
      · refine .inr ⟨i,ω,fun j hj h=>?_,h0,?_,s1,c1,A⟩
        · obtain ⟨_,_,_,hB⟩:=ih j ω
          exact hB hj h
        · unfold bE;rw [if_pos (by unfold Dd;rw [Pm A.v];exact r1)]
      · have r2:Ks (CV s1)<128:=by unfold Ks;omega
        obtain ⟨f1,f2,f3⟩:=Mh r2
        obtain ⟨q,hq⟩:=Bk (Ir ⟨f1,f2⟩)
        have bv:=Kq A.v rfl rfl r1 hq ω
        refine .inl (up ?_ fun _=>bv.2.1)
        rw [Ae9 (fun h=>h h0)]
        have nb:∀ b,CM (CV s1) b=true→b≠Ar (CV s1) 1:=fun b h e=>by rw [e,f3] at h;cases h
        have tk:=A.m.take hk (ω:i<4) (by rw [Dm];exact h0) ⟨f1,f2⟩ f3
        rw [Dm,RK] at tk
        have em:CV (BX (BX s1 3 0 (AR (CV s1) (Ar (CV s1) 1))) 7 (Ar (CV s1) 1) (List.replicate 64 0))=AR (CV s1) (Ar (CV s1) 1):=
          (Mw (FB (fun e=>absurd e.1 (by decide)))).trans (Qs (by rw [AZ];exact A.m.l))
        have rs:=KI A.r.1 i (Ar (CV s1) 1)
        refine ⟨_,c1+2,bv.2.2,ω,?_,⟨?_,?_⟩,fun j hj=>?_,fun j hj=>?_,fun a=>?_,fun b h=>?_⟩
        · rw [em,bv.1];exact tk
        · rw [bv.1];exact rs.1
        · rw [bv.1];exact rs.2.trans A.r.2
        · rw [bv.1,DY _ (ω:i<4)]
          by_cases e:j=i
          · rw [if_pos e];omega
          · rw [if_neg e];exact A.lo j ω
        · rw [bv.1,DY _ (ω:i<4),if_neg ω];exact A.hi j ω
        · rw [FB (fun e=>absurd e.1 (by decide)),FB (fun e=>absurd e.1 (by decide))];exact A.n4 a
        · have u:=A.n7 b h
          rw [FB (fun e=>nb b u.2 e.2),FB (fun e=>absurd e.1 (by decide)),em,Lk A.m.l ⟨f1,f2⟩,u.2]
          exact ⟨u.1,rfl⟩
    · refine .inl (up ?_ fun h=>absurd h h0)
      rw [Afa h0]
      refine ⟨s1,c1,A.v,ω,A.m,A.r,fun j hj=>?_,fun j hj=>A.hi j ω,A.n4,A.n7⟩
      by_cases e:j=i
      · rw [e];exact h0
      · exact A.lo j ω
theorem Ac8 (V:Vol M P s c) (hc:c≤30) (hk:k<4) (hn:n0≤4) (H:MapOk (CV s) (Dy X k y)) (hz:∀ j,n0≤j→y.blk j=0) (hr:∀ j,j<n0→y.blk j=0→((2+Jn (Dy X k AT)+n0:Nat):Int)≤128-max sp 0) :
    ∀ j,j≤n0→∃ s' c',AlOk M s X k c j y (alS M sp y P j).1 (alS M sp y P j).2 s' c'∧(j<n0→(alS M sp y P j).1.blk j=0→bE M (alS M sp y P j).2 sp=0):=by
  rcases Acn (sp:=sp) V hc hk hn H n0 (Nat.le_refl _) with h | ⟨f,hf,_,g2,g3,s',c',A⟩
  · exact h
  · exfalso
    have ac:=A.c
    have yf:y.blk f=0:=(A.hi f (Nat.le_refl _)).symm.trans g2
    obtain ⟨r1,r2⟩:=ZT hk A.m hn hf g2 (fun j hj=>(A.hi j ω).trans (hz j hj)) (hr f hf yf)
    obtain ⟨f1,f2,f3⟩:=Mh r2
    obtain ⟨q,hq⟩:=Bk (Ir ⟨f1,f2⟩)
    rw [(Kq A.v rfl rfl r1 hq ω).2.1] at g3
    exact absurd g3 (by decide)
theorem NT {Y:List UInt8} {n j:Nat} (h:Y.length=n*64) (hj:j<n):(GE Y j).length=64:=by unfold GE;exact Nw h hj
theorem ZP (V:Vol M P s c) (hc:c≤50) (hn:n0≤4) {Y:List UInt8} (hY:Y.length=n0*64) (hb:∀ j,j<n0→1≤z.blk j∧z.blk j≤128) (hd:∀ j j',j<n0→z.blk j=z.blk j'→j=j') :
    ∀ i,i≤n0→∃ s',Vol M (wrP M z Y P i) s' (c+i)∧(i<n0→stE M (wrP M z Y P i) 7 (z.blk i) 64=0)∧(∀ a b,(a=7→∀ j,j<i→b≠z.blk j)→s' a b=s a b)∧∀ j,j<i→s' 7 (z.blk j)=GE Y j:=by
  have st:∀ {i:Nat} {P':List PtM} {s':BG},Vol M P' s' (c+i)→i<n0→stE M P' 7 (z.blk i) 64=0∧Vol M (stP M P' 7 (z.blk i) (GE Y i)) (BX s' 7 (z.blk i) (GE Y i)) (c+i+1):=fun {i P' s'} v hi=>by
    obtain ⟨q,hq⟩:=Bk (Ir (hb i hi))
    have l:=NT hY hi
    have u:=v.put (xs:=GE Y i) hq (.inr (.inr rfl)) ω ω
    rw [l] at u;exact u
  intro i
  induction i with
  | zero=>exact fun _=>⟨s,V,fun h=>(st (i:=0) V h).1,fun _ _ _=>rfl,fun j hj=>ω⟩
  | succ i ih=>
    intro hi
    obtain ⟨s1,v,_,g1,g2⟩:=ih ω
    have u:=(st v ω).2
    refine ⟨_,u,fun h=>(st (i:=i+1) u h).1,fun a b h=>?_,fun j hj=>?_⟩
    · rw [FB (fun e=>h e.1 i ω e.2)]
      exact g1 a b fun e j hj=>h e j ω
    · by_cases e:j=i
      · rw [e]
        obtain ⟨q,hq⟩:=Bk (Ir (hb i ω))
        exact RL (by rw [v.l7 hq (.inr (.inr rfl)),NT hY ω];exact Nat.le_refl _)
      · rw [FB (fun q=>e (hd j i ω q.2))]
        exact g2 j ω
theorem Xp {s':BG} {Y:List UInt8} (hg:∀ j,j<n0→s' 7 (z.blk j)=GE Y j):∀ i,i≤n0→NA s' z i=Y.take (i*64)
  | 0,_=>by simp [NA]
  | i+1,h=>by
    unfold NA
    rw [Xp hg i ω,hg i ω]
    unfold GE
    rw [show ((((i+1:Nat):Int)*64).toNat)=(i+1)*64 by omega,show (((i:Int)*64).toNat)=i*64 by omega]
    have e:Y.take (i*64)=(Y.take ((i+1)*64)).take (i*64):=by rw [List.take_take,Nat.min_eq_left ω]
    rw [e,List.take_append_drop]
end
end
section
theorem MapOk.congr {m:List UInt8} {X Y:DW} (H:MapOk m X) (h:∀ i j,(Y i).blk j=(X i).blk j):MapOk m Y:=by
  have t:Jn Y=Jn X:=by unfold Jn nzI;simp only [h]
  exact ⟨H.l,fun k j hk=>by rw [h];exact H.u k j hk,fun k k' j j' hk hk'=>by rw [h,h];exact H.d k k' j j' hk hk',by rw [t];exact H.c⟩
theorem KX {s s':BG} {i:Int} (h:s' 4 i=s 4 i):CQ s' i=CQ s i∧CJ s' i=CJ s i:=by
  unfold CQ CJ;rw [h];exact ⟨rfl,rfl⟩
theorem UA {k:Nat} (h:k<4):EU 4 ((k:Int)+2)=true:=by
  have:=Yg ⟨k+1,ω⟩;rw [show (k:Int)+2=((k+1+1:Nat):Int) by omega];exact this
def RJ (T:Nat→List UInt8) (k:Nat) (S:List UInt8):Nat→List UInt8:=fun i=>if i=k then S else T i
theorem MO {a b c:InoT} (h:JY a b) (g:JY b c):JY a c:=by
  unfold JY at *;simp only [h,g,and_self]
theorem Pq (x:InoT):nzI x≤4:=by
  unfold nzI
  have a0:=FN (x.blk 0);have a1:=FN (x.blk 1);have a2:=FN (x.blk 2);have a3:=FN (x.blk 3)
  omega
section
variable {M:MemM} {s:BG} {X:DW} {T:Nat→List UInt8} {k n0:Nat} {sp:Int} {S:List UInt8}
theorem FilOk.blk (H:FilOk s X T) {i:Nat} (hi:i<4) (j:Nat):(X i).blk j≠0↔j<(Bh ((T i).length:Int)).toNat:=by
  rw [Abb (H.k i hi) (H.y i hi),(H.s i hi).1]
  have h:=(H.s i hi).2
  exact (Oj (n0:=(Bh ((T i).length:Int)).toNat) (by unfold Bh;split<;>omega) h j).symm
theorem FilOk.tot (H:FilOk s X T):Jn X=(Bh ((T 0).length:Int)).toNat+(Bh ((T 1).length:Int)).toNat+(Bh ((T 2).length:Int)).toNat+(Bh ((T 3).length:Int)).toNat:=by
  have g:∀ i,i<4→nzI (X i)=(Bh ((T i).length:Int)).toNat:=fun i hi=>Af8 (by have:=(H.s i hi).2;unfold Bh;split<;>omega) (H.blk hi)
  unfold Jn;rw [g 0 ω,g 1 ω,g 2 ω,g 3 ω]
theorem Aag (V:Vol M [] s 0) (x0:InoT) (hl:(CV s).length=16):KP M [] x0 n0=0∧∃ s1 c1,Vol M (Jv M [] x0 n0) s1 c1∧c1≤1∧CV s1=Cx x0 n0 (CV s) (4-n0)∧∀ a b,a≠3→s1 a b=s a b:=by
  have em:=Pm V
  have l16:=AK x0 n0 hl (4-n0)
  have z:=Ne V (xs:=Cx x0 n0 (CV s) (4-n0)) l16 ω
  unfold KP Jv
  rw [em]
  by_cases h:Cx x0 n0 (CV s) (4-n0)=CV s
  · rw [if_pos h,if_pos h]
    exact ⟨rfl,s,0,V,ω,h.symm,fun _ _ _=>rfl⟩
  · rw [if_neg h,if_neg h]
    exact ⟨z.1,_,1,z.2,ω,Qs l16,fun a b e=>FB fun q=>e q.1⟩
theorem Ab9 (V:Vol M [] s 0) (H:FilOk s X T) (hk:k<4) (hS:S.length≤256) (hsp:-9223372036854775808≤sp∧sp≤9223372036854775807) (hn:Bh (S.length:Int)=(n0:Int)) (hr:∀ j,j<n0→(X k).blk j=0→((2+Jn (Dy X k AT)+n0:Nat):Int)≤128-max sp 0) :
    ∃ y z P1 P2,SetH M [] ((k:Int)+2) sp (X k) y z n0 S P1 P2∧∃ s' c',c'≤20∧Vol M (BE M (wrP M z (rzL S (n0*64)) P2 n0) ((k:Int)+2) z) s' c'∧FilOk s' (Dy X k z) (RJ T k S)∧∀ i:Int,i≠(k:Int)+2→s' 4 i=s 4 i:=by
  have hn4:n0≤4:=JO hn ω
  have hsz:S.length≤n0*64:=by have:=Qz hn ω;omega
  have H0:MapOk (CV s) (Dy X k (szX (X k) (S.length:Int))):=H.m.congr fun i j=>by
    unfold Dy;split
    · next e=>rw [e];rfl
    · rfl
  obtain ⟨C1,C2,C3,C4⟩:=Uo (n0:=n0) hk H0 (4-n0) ω
  obtain ⟨hcE,s1,c1,V1,hc1,em1,es1⟩:=Aag (n0:=n0) V (szX (X k) (S.length:Int)) H.m.l
  have hz:∀ j,n0≤j→(Bv (szX (X k) (S.length:Int)) n0 (4-n0)).blk j=0:=fun j hj=>by
    by_cases h4:j<4
    · rw [C4,if_pos ω]
    · exact Aab _ ω
  have fE:IG M [] ((k:Int)+2)=0∧IH M [] ((k:Int)+2)=X k:=by
    have hE:AS M [] ((k:Int)+2)=0:=(EV V _).trans (H.e k hk)
    have hR:An M [] ((k:Int)+2)=X k:=(Fr V _).trans (H.x k hk)
    have h1:=H.k k hk
    unfold IG IH
    rw [hR,hE]
    constructor<;>simp [h1]
  have al:=Ac8 (sp:=sp) V1 ω hk hn4 (by rw [em1];exact C1) hz (fun j hj h=>hr j hj (by rw [C4,if_neg ω] at h;exact h))
  obtain ⟨s2,c2,A,_⟩:=al n0 (Nat.le_refl _)
  generalize hzz:alS M sp (Bv (szX (X k) (S.length:Int)) n0 (4-n0)) (Jv M [] (szX (X k) (S.length:Int)) n0) n0=zz at A
  obtain ⟨z,P2⟩:=zz
  dsimp only at A
  have zi:∀ j,z.blk j≠0↔j<n0:=fun j=>⟨fun h=>Classical.byContradiction fun q=>h ((A.hi j ω).trans (hz j ω)),A.lo j⟩
  have zu:∀ j,z.blk j≠0→1≤z.blk j∧z.blk j≤128:=fun j h=>by
    have:=A.m.u k j hk (by rw [Dm];exact h)
    rw [Dm] at this;exact Ih this
  have zd:∀ j j',z.blk j≠0→z.blk j=z.blk j'→j=j':=fun j j' h e=>(A.m.d k k j j' hk hk (by rw [Dm];exact h) (by rw [Dm];exact e)).2
  have ac:=A.c
  obtain ⟨s3,V3,_,g1,g2⟩:=ZP (z:=z) A.v ω hn4 (IA S (n0*64)) (fun j hj=>zu j ((zi j).2 hj)) (fun j j' hj e=>zd j j' ((zi j).2 hj) e) n0 (Nat.le_refl _)
  have wr:=ZP (z:=z) A.v ω hn4 (IA S (n0*64)) (fun j hj=>zu j ((zi j).2 hj)) (fun j j' hj e=>zd j j' ((zi j).2 hj) e)
  have rz:JY z (X k):=MO A.r.1 (MO C2 ⟨rfl,rfl,rfl,rfl,rfl,rfl,rfl,rfl,rfl,rfl⟩)
  have zs:z.s=(S.length:Int):=A.r.2.trans C3
  have hm:Cm z=true:=Abc (H.k k hk) (H.y k hk) rz zs hS (fun j=>(zi j).trans (Oj hn hS j)) (fun j=>by
    by_cases h:z.blk j=0
    · omega
    · have:=zu j h;omega) zd
  have hp:Ev z=0:=if_pos hm
  obtain ⟨q4,hq4⟩:=Bk (UA hk)
  have si:=Gy V3 hq4 hp rfl (Abv _) ω
  refine ⟨_,z,_,P2,{
    fE:=fE.1
    fX:=fE.2
    l:=hS
    hsp:=hsp
    hn:=hn
    xb:=fun j=>by
      by_cases h:(X k).blk j=0
      · rw [h];decide
      · have:=Ih (H.m.u k j hk h);omega
    cX:=rfl
    cE:=hcE
    cP:=rfl
    al:=fun j hj h=>by obtain ⟨_,_,_,b⟩:=al j ω;exact b hj h
    hz:=hzz
    fd:=fun j hj=>Bk (Ir (zu j ((zi j).2 hj)))
    st:=fun j hj=>by obtain ⟨_,_,b,_⟩:=wr j ω;exact b hj
    sE:=si.1 },_,_,ω,si.2,?_⟩
  have e4:∀ i:Int,i≠(k:Int)+2→BX s3 4 ((k:Int)+2) (Ce z) 4 i=s 4 i:=fun i hi=>by
    rw [FB (fun q=>hi q.2),g1 _ _ (fun q=>absurd q (by decide)),A.n4,es1 _ _ (by decide)]
  have k4:BX s3 4 ((k:Int)+2) (Ce z) 4 ((k:Int)+2)=Ce z:=RL (by rw [V3.l7 hq4 (.inr (.inl rfl)),Oq hm];exact Nat.le_refl _)
  have e7:∀ b,BX s3 4 ((k:Int)+2) (Ce z) 7 b=s3 7 b:=fun b=>FB fun q=>absurd q.1 (by decide)
  have rd:=Wy hm
  have em:CV (BX s3 4 ((k:Int)+2) (Ce z))=CV s2:=Mw ((FB fun q=>absurd q.1 (by decide)).trans (g1 _ _ fun q=>absurd q (by decide)))
  refine ⟨⟨by rw [em];exact A.m,fun i hi=>?_,fun i hi=>?_,fun i hi=>?_,fun i hi=>?_,fun i hi=>?_,fun i hi=>?_⟩,e4⟩
  · by_cases e:i=k
    · subst e;unfold CQ;rw [k4,if_pos (UA hi),if_pos rd.2]
    · rw [(KX (e4 ((i:Int)+2) ω)).1];exact H.e i hi
  · by_cases e:i=k
    · subst e;unfold CJ;rw [k4,Dm];exact rd.1
    · rw [(KX (e4 ((i:Int)+2) ω)).2,Ff e];exact H.x i hi
  · by_cases e:i=k
    · subst e;rw [Dm,rz.1];exact H.k i hi
    · rw [Ff e];exact H.k i hi
  · by_cases e:i=k
    · subst e;rw [Dm];exact hm
    · rw [Ff e];exact H.y i hi
  · unfold RJ
    by_cases e:i=k
    · subst e;rw [Dm,if_pos rfl];exact ⟨zs,hS⟩
    · rw [Ff e,if_neg e];exact H.s i hi
  · unfold RJ
    by_cases e:i=k
    · subst e
      rw [Dm,if_pos rfl,hn,show ((n0:Int)).toNat=n0 by omega,IU (s:=s3) fun j _=>e7 _,Xp g2 n0 (Nat.le_refl _),List.take_of_length_le (l:=rzL S (n0*64)) (by rw [IA];exact Nat.le_refl _),UQ hsz]
      exact List.take_left' rfl
    · rw [Ff e,if_neg e]
      rw [IU (s:=s) fun j hj=>?_]
      · exact H.t i hi
      · have hb:=(H.blk hi j).2 hj
        have u1:CM (CV s1) ((X i).blk j)=true:=by
          have:=C1.u i j hi (by rw [Ff e];exact hb)
          rw [Ff e] at this;rw [em1];exact this
        rw [e7,g1 7 _ (fun _ j' hj' q=>e ((A.m.d i k j j' hi hk (by rw [Ff e];exact hb) (by rw [Ff e,Dm];exact q)).1)),(A.n7 _ u1).1,es1 _ _ (by decide)]
end
end
section
structure VolB where
 M:MemM
 v:Vol M [] s4S 0
theorem Vk {w:World} {R:List Ch} (hS:Sep w R):CallsR Tryz.prog 7 #[] w (fun v w'=>∃ K ta tc,∃ mv:VolB,∃ mx fx vx,v=π vx∧Sep w' (Ae vx 34 [π K.tg,π mx,π fx]::Ae fx 83 [π K.tg,π mx]::Ae mx 103 [π K.tg]::txP K ta tc mv.M []::R)):=
 Calls.mono (Aaa (R:=R) hS) fun e w' z=>by
  obtain ⟨v,e1,K,ta,tc,M,mx,fx,vx,e2,hv,s⟩:=z
  exact ⟨v,e1,K,ta,tc,⟨M,hv⟩,mx,fx,vx,e2,s⟩
section
variable {w:World} {R:List Ch} {fx mx:Nat} {K:VolK} {ta:Option Addr} {tc:Nat} {M:MemM} {S:List UInt8}
def Ah3 (i e:Int):Prop:=(i<1∧e=1)∨(32<i∧e=1)∨(i=1∧e=13)∨(6≤i∧i≤32∧e=10)
theorem Ab8:CQ s4S 1=0∧(CJ s4S 1).k=2:=by decide +kernel
end
end
section
def T0F:Nat→List UInt8:=fun _=>[]
structure VolC where
  M:MemM
  s:BG
  X:DW
  T:Nat→List UInt8
  v:Vol M [] s 0
  h:FilOk s X T
  r:∀ i:Int,(i<2∨5<i)→s 4 i=s4S 4 i
structure VolF where
  M:MemM
  P:List PtM
  s:BG
  c:Nat
  X:DW
  T:Nat→List UInt8
  v:Vol M P s c
  hc:c≤20
  h:FilOk s X T
  r:∀ i:Int,(i<2∨5<i)→s 4 i=s4S 4 i
theorem Adk:FilOk s4S (fun _=>opX) T0F:=by
  have b0:∀ j,opX.blk j=0:=fun j=>match j with
    | 0=>rfl
    | 1=>rfl
    | 2=>rfl
    | 3=>rfl
    | n+4=>rfl
  exact ⟨⟨by decide +kernel,fun _ j _ h=>absurd (b0 j) h,fun _ _ j _ _ _ h=>absurd (b0 j) h,by decide +kernel⟩,fun k hk=>Aew ⟨k,hk⟩,fun k hk=>Ab7 k hk,fun _ _=>rfl,fun _ _=>by decide +kernel,fun _ _=>⟨rfl,Nat.zero_le 256⟩,fun _ _=>rfl⟩
def ZG (m:VolB):VolC:=⟨m.M,s4S,fun _=>opX,T0F,m.v,Adk,fun _ _=>rfl⟩
def ndT (T:Nat→List UInt8) (k:Nat):Nat:=(Bh ((T k).length:Int)).toNat
def Nl (T:Nat→List UInt8):Nat→Int
  | 0=>2
  | k+1=>Nl T k+((ndT T k:Nat):Int)
def szL (T:Nat→List UInt8):List Int:=[((T 0).length:Int),((T 1).length:Int),((T 2).length:Int),((T 3).length:Int)]
theorem Zz (T:Nat→List UInt8) {k:Nat} (h:k<4):(szL T).getD k 0=((T k).length:Int):=by
  rcases (ω:k=0∨k=1∨k=2∨k=3) with rfl | rfl | rfl | rfl<;>rfl
theorem Acf (T:Nat→List UInt8) {k:Nat} (h:k<4) (S:List UInt8):(szL T).set k (S.length:Int)=szL (RJ T k S):=by
  rcases (ω:k=0∨k=1∨k=2∨k=3) with rfl | rfl | rfl | rfl<;>rfl
theorem Ach (T:Nat→List UInt8) (k:Nat) (S:List UInt8):RJ T k S k=S:=if_pos rfl
theorem Af7 {T:Nat→List UInt8} {k:Nat} (h:(T k).length≤256):ndT T k≤4:=by unfold ndT Bh;split<;>omega
theorem VolC.nd (V:VolC) {k:Nat} (h:k<4):ndT V.T k≤4:=Af7 (V.h.s k h).2
theorem VolC.nds (V:VolC) {k:Nat} (h:k<4):Bh ((szL V.T).getD k 0)=((ndT V.T k:Nat):Int):=by
  rw [Zz _ h];unfold ndT Bh;split<;>omega
theorem VolC.cnt (V:VolC):((Dq (Aq V.M []) 128).length:Int)=Nl V.T 4:=by
  have c:=V.h.m.c
  have t:=V.h.tot
  rw [Pm V.v]
  show ((Ks (CV V.s):Nat):Int)=2+((ndT V.T 0:Nat):Int)+((ndT V.T 1:Nat):Int)+((ndT V.T 2:Nat):Int)+((ndT V.T 3:Nat):Int)
  unfold ndT;omega
theorem VolC.room (V:VolC) {k n0:Nat} (hk:k<4) (hn:n0≤4):((2+Jn (Dy V.X k AT)+n0:Nat):Int)≤128-max 0 0:=by
  unfold Jn
  have a0:=Pq (Dy V.X k AT 0);have a1:=Pq (Dy V.X k AT 1);have a2:=Pq (Dy V.X k AT 2);have a3:=Pq (Dy V.X k AT 3)
  omega
section
variable {w:World} {R:List Ch} {fx mx:Nat} {K:VolK} {ta:Option Addr} {tc:Nat} {k:Nat} {S:List UInt8}
theorem Qy (S:List UInt8):∃ n0:Nat,Bh (S.length:Int)=(n0:Int):=⟨(Bh (S.length:Int)).toNat,by unfold Bh;split<;>omega⟩
theorem Agl (V:VolC) (hS:Sep w ([Ae fx 83 [π K.tg,π mx],mtC mx K,txP K ta tc V.M []]++R)) (hk:k<4) {i:Int} (hi:i=(k:Int)+2) (hl:S.length≤256) {sp:Int} (hsp:-9223372036854775808≤sp∧sp≤9223372036854775807) (hr:∀ n0:Nat,Bh (S.length:Int)=(n0:Int)→∀ j,j<n0→(V.X k).blk j=0→((2+Jn (Dy V.X k AT)+n0:Nat):Int)≤128-max sp 0) :
    CallsR Tryz.prog 16 #[π fx,ν i,σ S,ν sp] w (fun v w'=>∃ ta' tc',∃ V':VolF,v=ν 0∧Sep w' ([Ae fx 83 [π K.tg,π mx],mtC mx K,txP K ta' tc' V'.M V'.P]++R)∧V'.T=RJ V.T k S):=by
  subst hi
  obtain ⟨n0,hn⟩:=Qy S
  obtain ⟨y,z,P1,P2,H,s',c',hc,v',f',r'⟩:=Ab9 V.v V.h hk hl hsp hn (hr n0 hn)
  exact Calls.mono (Ac4 hS V.v.m H) fun e w' q=>by
    obtain ⟨v,e1,ta',tc',e2,s⟩:=q
    exact ⟨v,e1,ta',tc',⟨V.M,_,s',c',_,_,v',hc,f',fun i hi=>(r' i ω).trans (V.r i hi)⟩,e2,s,rfl⟩
theorem Aez (V:VolC) (hS:Sep w ([Ae fx 83 [π K.tg,π mx],mtC mx K,txP K ta tc V.M []]++R)) (hk:k<4) {i:Int} (hi:i=(k:Int)+2) (hl:S.length≤256) :
    CallsR Tryz.prog 16 #[π fx,ν i,σ S,ν 0] w (fun v w'=>∃ ta' tc',∃ V':VolF,v=ν 0∧Sep w' ([Ae fx 83 [π K.tg,π mx],mtC mx K,txP K ta' tc' V'.M V'.P]++R)∧V'.T=RJ V.T k S):=
  Agl V hS hk hi hl (by decide) fun n0 hn _ _ _=>V.room hk (JO hn ω)
theorem Xz (V:VolF) (hS:Sep w (txP K ta tc V.M V.P::R)):CallsR Tryz.prog 12 #[pG K.tg] w (fun x w'=>∃ ta' tc',∃ V':VolC,x=ν 0∧Sep w' (txP K ta' tc' V'.M []::R)∧V'.T=V.T):=by
  have z:=V.v.com (by have:=V.hc;omega)
  exact Calls.mono (Hl hS z.1 z.2.1 rfl) fun e w' q=>by
    obtain ⟨v,e1,ta',tc',e2,s⟩:=q
    exact ⟨v,e1,ta',tc',⟨_,V.s,V.X,V.T,z.2.2,V.h,V.r⟩,e2,s,rfl⟩
theorem Aae {M:MemM} {P:List PtM} {s:BG} {c:Nat} {X:DW} {T:Nat→List UInt8} (v:Vol M P s c) (h:FilOk s X T) (hS:Sep w ([Ae fx 83 [π K.tg,π mx],mtC mx K,txP K ta tc M P]++R)) (hk:k<4) {i:Int} (hi:i=(k:Int)+2) (hT:T k=S) :
    CallsR Tryz.prog 13 #[π fx,ν i] w (fun v w'=>v=.tuple #[σ S,ν 0]∧Sep w' ([Ae fx 83 [π K.tg,π mx],mtC mx K,txP K ta tc M P]++R)):=by
  subst hT hi
  have hE:AS M P ((k:Int)+2)=0:=(EV v _).trans (h.e k hk)
  have hR:An M P ((k:Int)+2)=X k:=(Fr v _).trans (h.x k hk)
  have h1:=h.k k hk
  have fE:IG M P ((k:Int)+2)=0:=by unfold IG;rw [hR,hE];simp [h1]
  have fX:IH M P ((k:Int)+2)=X k:=by unfold IH;rw [hR,hE];simp [h1]
  have hs:=h.s k hk
  obtain ⟨n0,hn⟩:=Qy (T k)
  have z:=Xq (n0:=n0) hS v.m fE fX ω (by rw [hs.1];exact hn) fun j hj=>by
    have hb:=(h.blk hk j).2 (by rw [hn];omega)
    exact Bk (Ir (Ih (h.m.u k j hk hb)))
  have ht:=h.t k hk
  rw [hn,show ((n0:Int)).toNat=n0 by omega] at ht
  rw [Xo v,hs.1,show ((((T k).length:Nat):Int)).toNat=(T k).length by omega,ht] at z
  exact z
theorem Aaz (V:VolC) (hS:Sep w ([mtC mx K,txP K ta tc V.M []]++R)) (hk:k<4) {i:Int} (hi:i=(k:Int)+2):CallsR Tryz.prog 15 #[π mx,ν i] w (fun v w'=>∃ x:InoT,v=.tuple #[.agg (Ap x).toArray,ν 0]∧Sep w' ([mtC mx K,txP K ta tc V.M []]++R)∧x.s=(((V.T k).length:Nat):Int)):=
  Calls.mono (EC hS V.v.m) fun e w' q=>by
    subst hi
    rw [EV V.v,Fr V.v,V.h.e k hk,V.h.x k hk] at q
    obtain ⟨v,e1,e2,s⟩:=q
    exact ⟨v,e1,_,e2,s,(V.h.s k hk).1⟩
def IP:InoT:=rtX 4 2 1
def Tl:Nat→Int
  | 0=>0
  | k+1=>if IP.blk k≠0 then Tl k+1 else Tl k
theorem Aet (m:VolB) (hS:Sep w ([mtC mx K,txP K ta tc m.M []]++R)):CallsR Tryz.prog 15 #[π mx,ν 1] w (fun v w'=>v=.tuple #[.agg (Ap IP).toArray,ν 0]∧Sep w' ([mtC mx K,txP K ta tc m.M []]++R)):=
  Calls.mono (EC hS m.v.m) fun e w' q=>by
    rw [EV m.v,Fr m.v,Ab8.1,show CJ s4S 1=IP from κ] at q
    exact q
def md4 (n:Nat):Nat:=n % 4
theorem Ad2 (n:Nat):md4 n<4:=Nat.mod_lt _ (by decide)
theorem Ags (n:Nat):((n:Int)).tmod 4=((md4 n:Nat):Int):=(Int.ofNat_tmod n 4).symm
end
end
end Go.Proofs.YtbfgjinpchbajaaGreatDoor
