/- Parts of the proof. -/
import Derived.Test.YthiplgahhejmcaaGreatDoorQam
namespace Go.Proofs.YthiplgahhejmcaaGreatDoor
open Go.RowKit
open _root_.Go.Proofs.Tryz
set_option linter.unusedSimpArgs false
set_option linter.unusedVariables false
set_option linter.unusedSectionVars false
set_option maxRecDepth 100000
set_option maxHeartbeats 8000000
section
theorem Lu (T:TypeId) {E:TypeId} (hu:prog.underlying T=some (.pointer E)) (x y:Operand) (p:Addr) (w:World):(do eqGuard .eql T x y (.pointer (some p)) (.pointer none);binOp .eql T (.pointer (some p)) (.pointer none):Sem Value).run prog w=.ok (.bool false) w:=Rd T hu x y (some p) w
theorem ZR {k:Int} (h:DO 4 k=true):1≤k∧k≤32:=by
 obtain ⟨q,hq⟩:=Ca h
 obtain ⟨h1,h2,h3⟩:=Kf hq
 have z:=List.all_eq_true.1 (show (BD.all fun x=>!decide (x.k=4)||decide (1≤x.n∧x.n≤32))=true by decide +kernel) q h1
 rw [decide_eq_true h2] at z
 rw [← h3];exact dT (by simpa using z)
theorem TE {k:Int} (h1:1≤k) (h2:k≤32):DO 4 k=true:=by
 have z:=Acd ⟨k.toNat-1,ω⟩
 rw [show (((k.toNat-1+1:Nat)):Int)=k by omega] at z;exact z
theorem TF {k:Int} (h:¬ (1≤k∧k≤32)):DO 4 k=false:=by
 cases q:DO 4 k with
 | false=>rfl
 | true=>exact absurd (ZR q) h
def XR (x:InoT) (i:Int):Bool:=((AS x)&&(decide (i≥1)))&&(decide (i≤32))
theorem CW {x:InoT} {i:Int} (h:XR x i=true):1≤i∧i≤32∧AS x=true:=by
 unfold XR at h;simp only [Bool.and_eq_true,decide_eq_true_eq] at h;exact ⟨h.1.2,h.2,h.1.1⟩
theorem Sb {x:InoT} {i:Int} (h:XR x i=false):AS x=false∨¬ (1≤i∧i≤32):=by
 cases q:AS x with
 | false=>exact .inl rfl
 | true=>right;intro ⟨h1,h2⟩;unfold XR at h;rw [q,decide_eq_true h1,decide_eq_true h2] at h;cases h
section
variable {M:MemM} {P:List PtM} {s:CS} {n:Nat}
theorem EG (V:Vol M P s n) {k:Int} (h:¬ (1≤k∧k≤32)):AX M P k=1:=by unfold AX;rw [TF h];rfl
theorem Ae5:∀ j:Fin 32,CK sAS (((j.val+1:Nat)):Int)=0:=by decide +kernel
theorem JH (V:Vol M P sAS n) {k:Int} (h1:1≤k) (h2:k≤32):AX M P k=0:=by
 have z:=Ae5 ⟨k.toNat-1,ω⟩
 rw [show (((k.toNat-1+1:Nat)):Int)=k by omega] at z
 rw [CV V];exact z
theorem Aa4 {ob d:Λ} (h:ob.length=64):rdI (ob++d)=rdI ob∧rdE (ob++d)=rdE ob:=by
 have e:(ob++d).take 64=ob.take 64:=List.take_append_of_le_length ω
 have l1:¬ (ob++d).length<64:=by rw [List.length_append];omega
 have l2:¬ ob.length<64:=ω
 unfold rdI rdE;rw [e,if_neg l1,if_neg l1,if_neg l2,if_neg l2];exact ⟨rfl,rfl⟩
theorem JI (V:Vol M P s n) {i:Int} {x:InoT} (h1:1≤i) (h2:i≤32) (hm:AS x=true) (hn:n<64:=by decide) :
  Bj M P i x=0∧Vol M (Br M P i x) (BF s 4 i (Cc x)) (n+1)∧(Al M (Br M P i x) i=x∧AX M (Br M P i x) i=0)∧∀ k,k≠i→Al M (Br M P i x) k=Al M P k∧AX M (Br M P i x) k=AX M P k:=by
 obtain ⟨q,hq⟩:=Ca (TE h1 h2)
 have l:=TU hm
 have z:=EF V (x:=x) hq (show Dg x=0 by unfold Dg;rw [if_pos hm]) rfl ω hn
 have pr:=VD hm
 have ap:=Aa4 (ob:=Cc x) (d:=(s 4 i).drop (Cc x).length) l
 have u:BF s 4 i (Cc x) 4 i=Cc x++(s 4 i).drop (Cc x).length:=by unfold BF;rw [if_pos ⟨rfl,rfl⟩]
 refine ⟨z.1,z.2,⟨?_,?_⟩,fun k hk=>?_⟩
 ·rw [Dy z.2];unfold CL;rw [u,ap.1,pr.1]
 ·rw [CV z.2];unfold CK;rw [TE h1 h2,u,ap.2,pr.2];rfl
 ·have uk:BF s 4 i (Cc x) 4 k=s 4 k:=by unfold BF;rw [if_neg (fun h=>hk h.2)]
  refine ⟨?_,?_⟩
  ·rw [Dy z.2,Dy V];unfold CL;rw [uk]
  ·rw [CV z.2,CV V];unfold CK;rw [uk]
theorem Pb {i:Int} {x:InoT} (h:AS x=false∨¬ (1≤i∧i≤32)):Bj M P i x=1∧Br M P i x=P:=by
 by_cases hm:AS x=true
 ·have hi:=TF (h.resolve_left (by rw [hm];decide))
  have hf:=Kh hi
  have e:Dg x=0:=by unfold Dg;rw [if_pos hm]
  unfold Bj Br;rw [if_pos e,if_pos e];unfold stE stP;rw [hf];exact ⟨rfl,rfl⟩
 ·have e:Dg x=1:=by unfold Dg;rw [if_neg hm]
  unfold Bj Br;rw [e];exact ⟨rfl,rfl⟩
theorem VG {xs d:Λ} (h:xs.length=16):FG (xs++d)=xs:=by
 unfold FG;rw [if_neg (by rw [List.length_append];omega),List.take_append_of_le_length ω,List.take_of_length_le ω]
theorem Fj (V:Vol M P s n) {xs:Λ} (h:xs.length=16) (hn:n<64):stE M P 3 0 16=0∧As M (stP M P 3 0 xs)=xs∧Vol M (stP M P 3 0 xs) (BF s 3 0 xs) (n+1):=by
 have z:=Hy V h hn
 refine ⟨z.1,?_,z.2⟩
 rw [Mc z.2];unfold Ju BF;rw [if_pos ⟨rfl,rfl⟩];exact VG h
end
theorem Ep {w:World} {R:List Ch} {mx:Nat} {K:VolK} {ta:Ω} {tc:Nat} {M:MemM} {P:List PtM} {xs:Λ} (hS0:Sep w ([Ab mx 99 [π K.tg],txP K ta tc M P]++R)) (hM:M.V.length=23168) (h1:xs.length=16) {a:Int} (h:stE M P 3 0 16=a):CallsR prog 10 #[π mx,.agg (Af xs)] w (fun v w'=>∃ ta' tc',v=ν a∧Sep w' ([Ab mx 99 [π K.tg],txP K ta' tc' M (stP M P 3 0 xs)]++R)):=
 Calls.mono (Fr hS0 hM h1) fun e w' z=>by rw [h] at z;exact z
theorem IR {w:World} {R:List Ch} {mx:Nat} {K:VolK} {ta:Ω} {tc:Nat} {M:MemM} {P:List PtM} {xs:Λ} (hS0:Sep w ([Ab mx 99 [π K.tg],txP K ta tc M P]++R)) (hM:M.V.length=23168) (h:As M P=xs):CallsR prog 11 #[π mx] w (fun v w'=>v=.agg (Af xs)∧Sep w' ([Ab mx 99 [π K.tg],txP K ta tc M P]++R)):=
 Calls.mono (TK hS0 hM) fun e w' z=>by rw [h] at z;exact z
theorem FL {w:World} {R:List Ch} {mx:Nat} {K:VolK} {ta:Ω} {tc:Nat} {M:MemM} {P:List PtM} {i a:Int} {x:InoT} (hS0:Sep w ([Ab mx 99 [π K.tg],txP K ta tc M P]++R)) (hM:M.V.length=23168) (h:Bj M P i x=a):CallsR prog 9 #[π mx,ν i,.agg (Ah x).toArray] w (fun v w'=>∃ ta' tc',v=ν a∧Sep w' ([Ab mx 99 [π K.tg],txP K ta' tc' M (Br M P i x)]++R)):=
 Calls.mono (CF hS0 hM) fun e w' z=>by rw [h] at z;exact z
theorem Hx {w:World} {R:List Ch} {mx:Nat} {K:VolK} {ta:Ω} {tc:Nat} {M:MemM} {P:List PtM} {i:Int} {x:InoT} (hS0:Sep w ([Ab mx 99 [π K.tg],txP K ta tc M P]++R)) (hM:M.V.length=23168) (h:Bj M P i x=1∧Br M P i x=P):CallsR prog 9 #[π mx,ν i,.agg (Ah x).toArray] w (fun v w'=>∃ ta' tc',v=ν 1∧Sep w' ([Ab mx 99 [π K.tg],txP K ta' tc' M P]++R)):=
 Calls.mono (CF hS0 hM) fun e w' z=>by rw [h.1,h.2] at z;exact z
theorem MSe {w:World} {R:List Ch} {xs:Λ} {i k:Int} {x:InoT} (hS0:Sep w ([]++R)) (h2:xs.length=16) :
  CallsR prog 3 #[ν i,.agg (Ah x).toArray,.agg (Af xs),ν k] w (fun v w'=>v=.bool true∧Sep w' ([]++R)):=by
 have hS:Sep w [Ch.many R]:=Sep.tail_many (xs:=[]) hS0;clear hS0
 refine AQ func3 rfl (N:=130) ntmps3 (by show 4≤130;decide) [(0,ν i),(1,.agg (Ah x).toArray),(2,.agg (Af xs)),(3,ν k)] rfl fun _ h1=>sqr fun _ hK3=>so (wn rfl) fun _ hK1=>FV h1 rfl rfl rfl rfl rfl (z:=(Ah x)) rfl hS fun _ g4 w7 h5 s8 _ _=>hK1 _ _ ?_
 refine so (wn rfl) fun _ hK2=>FV h5 rfl rfl rfl rfl rfl (z:=(xs).map Ac) rfl s8 fun _ g1 w2 h3 s1 _ _=>hK2 _ _ ?_
 refine mv h3 rfl fun _ h4=>wpList_nil<|hK3 _ _<|sq fun _ hK4=>wp_region_lit ?_
 rcases bC (XR x i) with hc1 | hc1
 ·skip
  obtain ⟨hi1,hi2,hmx⟩:=CW hc1
  rcases bC (decide (k=i)) with hc2 | hc2
  ·skip
   have hp1:k=i:=(dT hc2)
   refine cl h4 rfl (cF func6) (DC s1) fun _ v1 w3 r1 h6=>?_
   obtain ⟨kk_x28,ta_x29,tc_x30,M_x31,mx_x32,vx_x33,pg_x34,rp_x35,rfl,s2,hvl40⟩:=r1
   have hvl0:=hvl40
   refine mv h6 rfl fun _ h7=>h7.sn [9,8,6,5,0,1,2,3] rfl fun h8=>hK4 _ _<|sq fun _ hK5=>sqr fun _ hK6=>mv h8 rfl fun _ h9=>bv h9 (z:=.bool false) rfl (Lu _ υ28 _ _ ⟨vx_x33,0,none⟩) fun _ h10=>h10.sn [20,9,8,6,5,0,1,2,3] rfl fun h11=>hK6 _ _<|wcF h11 rfl rfl<|h11.sk [9,8,6,5,0,1,2,3] rfl fun h12=>?_
   refine wp_skip<|hK5 _ _<|sqr fun _ hK7=>sw1 h12 rfl (v:=.agg (Ah x).toArray) (rld h12 rfl rfl (ldA υ25 rfl (n:=15) κ (s2.get 4 rfl:Blk _ _ _ _) rfl rfl)) fun _ h13=>cl h13 rfl (cF func7) (GA (x:=x) s2) fun _ v2 w4 r2 h14=>?_
   obtain ⟨rfl,s3⟩:=r2
   refine mv h14 rfl fun _ h15=>sg h15 (wT h15 rfl rfl rfl) rfl rfl rfl (v:=ν i) (fun hC1=>Ad h15 rfl rfl _) fun _ h16=>sg h16 (wT h16 rfl rfl rfl) rfl rfl rfl (v:=.bool true) (fun hC2=>Aw h16 rfl (opg rfl hC2) rfl (cGe _ _ _ _ (decide_eq_true ω)) _) fun _ h17=>sv1 h17 rfl (v:=.bool ((AS x)&&true)) (BQ h17 rfl (E:=(AS x)) (F:=true) rfl rfl rfl (fun e=>if_pos (by rw [e];try rfl))) fun _ h18=>mv h18 rfl fun _ h19=>sg h19 (wT h19 rfl rfl rfl) rfl rfl rfl (v:=ν i) (fun hC3=>by have hq:=(And.intro (AV hC3).1 (AV hC3).2);exact Ad h19 rfl rfl _) fun _ h20=>sg h20 (wT h20 rfl rfl rfl) rfl rfl rfl (v:=.bool true) (fun hC4=>by have hq:=(And.intro (AV hC4).1 (AV hC4).2);exact Aw h20 rfl (opg rfl hC4) rfl (cLe _ _ _ _ (decide_eq_true ω)) _) fun _ h21=>sv1 h21 rfl (v:=.bool (((AS x)&&true)&&true)) (BQ h21 rfl (E:=((AS x)&&true)) (F:=true) rfl rfl rfl (fun e=>if_pos (by rw [e];try rfl))) fun _ h22=>mv h22 rfl fun _ h23=>h23.sk [10,9,8,6,5,0,1,2,3] rfl fun h24=>?_
   refine wpList_nil<|hK7 _ _<|sq fun _ hK8=>?_
   have hb88:(((AS x)&&true)&&true)=true:=(by rw [(CW hc1).2.2];rfl);rw [hb88] at h24
   refine wp_region_lit<|mvs 2 h24 rfl fun _ h25=>fav h25 rfl (fQ 2) fun _ h26=>ldv h26 s3 0 υ35 rfl rfl rfl rfl fun _ h27=>mv h27 rfl fun _ h28=>cl h28 rfl (cF func8) (AY (x:=(Al M_x31 [] k)) (s3.pk [1,2,0,3,4,5] rfl) (hvl40).m ⟨rfl,JH hvl40 ω ω⟩) fun _ v3 w5 r3 h29=>?_
   obtain ⟨rfl,s4⟩:=r3
   refine mvs 3 h29 rfl fun _ h30=>so (wn rfl) fun _ hK9=>AB h30 rfl rfl rfl rfl (z:=[ν 0,ν 0,ν 0,ν 0,ν 0,ν 0,ν 0,ν 0,ν 0,ν 0,ν 0,ν 0,ν 0,ν 0,ν 0]) (fun _=>rfl) s4 fun _ g2 w6 h31 s5 _ _=>hK9 _ _ ?_
   refine stA h31 s5 0 rfl rfl rfl κ rfl rfl rfl rfl fun _ w8 h32 s6 _=>mv h32 rfl fun _ h33=>h33.sn [12,11,10,9,8,6,5,0,1,2,3] rfl fun h34=>hK8 _ _<|sq fun _ hK10=>?_
   have s7:=s6.drew
   refine wp_region_held_drew (S:=fun w'=>Sep w' [Ab g2 25 (Ah (Al M_x31 [] k)),Ab mx_x32 99 [π kk_x28.tg],Ab vx_x33 39 (prC (π pg_x34) (π kk_x28.tg) (π mx_x32) (π rp_x35)),Ab g1 27 ((xs).map Ac),Ab g4 25 (Ah x),Ch.many R]) κ (s7.pk [0,1,3,4,5,6] rfl) (fun hq1=>?_)
   refine tv1 hq1 h34 0 rfl rfl (v:=π vx_x33) (fun w1 _=>(Ad h34 rfl rfl) w1) fun _ h35=>?_
   refine tv1 hq1 h35 1 rfl rfl (v:=π vx_x33) (fun w1 _=>(Dz h35 rfl rfl) w1) fun _ h36=>?_
   refine tv1 hq1 h36 2 rfl rfl (v:=.pointer (some ⟨vx_x33,2,none⟩)) (fun w1 _=>(rfa h36 rfl rfl (fQ 2)) w1) fun _ h37=>?_
   refine tv1 hq1 h37 3 rfl rfl (v:=π mx_x32) (fun w1 hSw=>(rld h37 rfl rfl (ldB υ35 rfl (hSw.get 2 rfl:Blk _ _ _ _) rfl))) fun _ h38=>?_
   refine tv1 hq1 h38 4 rfl rfl (v:=ν i) (fun w1 _=>(Ad h38 rfl rfl) w1) fun _ h39=>?_
   refine tv1 hq1 h39 5 rfl rfl (v:=.agg (Ah x).toArray) (fun w1 hSw=>(rld h39 rfl rfl (ldA υ25 rfl (n:=15) κ (hSw.get 4 rfl:Blk _ _ _ _) rfl rfl))) fun _ h40=>?_
   have hs145:=JI hvl40 (CW hc1).1 (CW hc1).2.1 (CW hc1).2.2
   refine to_ 6 rfl (wn rfl) κ fun _ hK11=>AJ h40 rfl rfl rfl (xs:=[.tmp 43,.tmp 44,.tmp 45]) rfl (cF func9) rfl (vs:=[π mx_x32,ν i,.agg (Ah x).toArray]) rfl (args:=#[π mx_x32,ν i,.agg (Ah x).toArray]) rfl (FL (s7.pk [1,2,0,3,4,5,6] rfl) (hvl40).m hs145.1) fun _ v4 w9 r4 h41=>?_
   obtain ⟨tax146,tcx147,rfl,s9⟩:=r4
   refine hK11 _ _ (s9.pk [2,0,3,4,5,6] rfl) fun hq2=>?_
   refine tv1 hq2 h41 7 rfl rfl (v:=ν 0) (fun w1 _=>(AP h41 rfl rfl) w1) fun _ h42=>?_
   refine h42.sk [13,12,11,10,9,8,6,5,0,1,2,3] rfl fun h43=>?_
   refine wpAnyH_done κ ?_ _
   refine hK10 _ _ ?_
   refine sq fun _ hK12=>sqr fun _ hK13=>mv h43 rfl fun _ h44=>bv h44 (z:=.bool true) rfl (cEq _ _ _ _ (show decide ((0:Int)=0)=true from rfl)) fun _ h45=>mv h45 rfl fun _ h46=>bv h46 (z:=.bool false) rfl (DU _ υ4 _ _ _) fun _ h47=>mv h47 rfl fun _ h48=>sv h48 (wF h48 (E:=false) rfl rfl rfl) rfl rfl rfl (v:=ν 0) (Ad h48 rfl rfl) fun _ h49=>sv h49 (wF h49 (E:=false) rfl rfl rfl) rfl rfl rfl (v:=.bool false) (Aw h49 rfl rfl rfl (cNe _ _ _ _ (show decide ((0:Int)≠0)=false from rfl))) fun _ h50=>sv h50 (wF h50 (E:=false) rfl rfl rfl) rfl rfl rfl (v:=.bool false) (Ad h50 rfl rfl) fun _ h51=>su h51 (wT h51 (E:=false) rfl rfl rfl) rfl rfl rfl fun _ h52=>?_
   refine su h52 (wT h52 (E:=false) rfl rfl rfl) rfl rfl rfl fun _ h53=>sv h53 (wF h53 (E:=false) rfl rfl rfl) rfl rfl rfl (v:=.bool false) (Az h53 rfl rfl rfl) fun _ h54=>sv1 h54 rfl (v:=.bool false) (Az h54 rfl rfl rfl) fun _ h55=>mv h55 rfl fun _ h56=>sv h56 (wF h56 (E:=false) rfl rfl rfl) rfl rfl rfl (v:=ν 0) (Ad h56 rfl rfl) fun _ h57=>sv h57 (wF h57 (E:=false) rfl rfl rfl) rfl rfl rfl (v:=.bool true) (Aw h57 rfl rfl rfl (cEq _ _ _ _ (show decide ((0:Int)=0)=true from rfl))) fun _ h58=>sv h58 (wF h58 (E:=false) rfl rfl rfl) rfl rfl rfl (v:=ν k) (Ad h58 rfl rfl) fun _ h59=>sv h59 (wF h59 (E:=false) rfl rfl rfl) rfl rfl rfl (v:=.bool true) (Aw h59 rfl rfl rfl (cGe _ _ _ _ (decide_eq_true ω))) fun _ h60=>sv h60 (wF h60 (E:=false) rfl rfl rfl) rfl rfl rfl (v:=.bool true) (Ad h60 rfl rfl) fun _ h61=>sv h61 (wT h61 (E:=true) rfl rfl rfl) rfl rfl rfl (v:=ν k) (Ad h61 rfl rfl) fun _ h62=>?_
   refine sv h62 (wT h62 (E:=true) rfl rfl rfl) rfl rfl rfl (v:=.bool true) (Aw h62 rfl rfl rfl (cLe _ _ _ _ (decide_eq_true ω))) fun _ h63=>sv h63 (wF h63 (E:=false) rfl rfl rfl) rfl rfl rfl (v:=.bool true) (Az h63 rfl rfl rfl) fun _ h64=>sv h64 (wF h64 (E:=false) rfl rfl rfl) rfl rfl rfl (v:=.bool false) (Aw h64 rfl rfl rfl (DU _ υ4 _ _ _)) fun _ h65=>sv1 h65 rfl (v:=.bool false) (Az h65 rfl rfl rfl) fun _ h66=>h66.sn [69,13,12,11,10,9,8,6,5,0,1,2,3] rfl fun h67=>hK13 _ _<|wcF h67 rfl rfl<|h67.sk [13,12,11,10,9,8,6,5,0,1,2,3] rfl fun h68=>wp_skip<|hK12 _ _<|sq fun _ hK14=>wp_region_lit ?_
   refine mvs 2 h68 rfl fun _ h69=>fav h69 rfl (fQ 2) fun _ h70=>ldv h70 s9 3 υ35 rfl rfl rfl rfl fun _ h71=>mv h71 rfl fun _ h72=>cl h72 rfl (cF func8) (AY (i:=i) s9 (hs145.2.1).m (hs145.2.2.1)) fun _ v5 w10 r5 h73=>?_
   obtain ⟨rfl,s10⟩:=r5
   refine mvs 3 h73 rfl fun _ h74=>so (wn rfl) fun _ hK15=>AB h74 rfl rfl rfl rfl (z:=[ν 0,ν 0,ν 0,ν 0,ν 0,ν 0,ν 0,ν 0,ν 0,ν 0,ν 0,ν 0,ν 0,ν 0,ν 0]) (fun _=>rfl) s10 fun _ g3 w11 h75 s11 _ _=>hK15 _ _ ?_
   refine stA h75 s11 0 rfl rfl rfl κ rfl rfl rfl rfl fun _ w12 h76 s12 _=>mv h76 rfl fun _ h77=>h77.sn [15,14,13,12,11,10,9,8,6,5,0,1,2,3] rfl fun h78=>hK14 _ _<|sq fun _ hK16=>sqr fun _ hK17=>mvs 2 h78 rfl fun _ h79=>sw h79 (wT h79 (E:=true) rfl rfl rfl) rfl rfl rfl (v:=.agg (Ah x).toArray) (rld h79 rfl rfl (ldA υ25 rfl (n:=15) κ (s12.get 0 rfl:Blk _ _ _ _) rfl rfl)) fun _ h80=>sw h80 (wT h80 (E:=true) rfl rfl rfl) rfl rfl rfl (v:=.agg (Ah x).toArray) (rld h80 rfl rfl (ldA υ25 rfl (n:=15) κ (s12.get 6 rfl:Blk _ _ _ _) rfl rfl)) fun _ h81=>sv h81 (wT h81 (E:=true) rfl rfl rfl) rfl rfl rfl (v:=.bool false) (Aw h81 rfl rfl rfl (Iy _ _ (i:=x) (j:=x) (by rw [decide_eq_true rfl];rfl))) fun _ h82=>sv h82 (wT h82 (E:=true) rfl rfl rfl) rfl rfl rfl (v:=.bool false) (Ad h82 rfl rfl) fun _ h83=>?_
   refine sv h83 (wF h83 (E:=false) rfl rfl rfl) rfl rfl rfl (v:=ν 0) (Ad h83 rfl rfl) fun _ h84=>sv h84 (wF h84 (E:=false) rfl rfl rfl) rfl rfl rfl (v:=.bool false) (Aw h84 rfl rfl rfl (cNe _ _ _ _ (show decide ((0:Int)≠0)=false from rfl))) fun _ h85=>sv h85 (wT h85 (E:=true) rfl rfl rfl) rfl rfl rfl (v:=.bool false) (Az h85 rfl rfl rfl) fun _ h86=>sv1 h86 rfl (v:=.bool false) (Az h86 rfl rfl rfl) fun _ h87=>h87.sn [88,15,14,13,12,11,10,9,8,6,5,0,1,2,3] rfl fun h88=>hK17 _ _<|wcF h88 rfl rfl<|h88.sk [15,14,13,12,11,10,9,8,6,5,0,1,2,3] rfl fun h89=>wp_skip<|hK16 _ _<|sq fun _ hK18=>wp_region_lit ?_
   refine mvs 2 h89 rfl fun _ h90=>fav h90 rfl (fQ 2) fun _ h91=>ldv h91 s12 4 υ35 rfl rfl rfl rfl fun _ h92=>mv h92 rfl fun _ h93=>cl h93 rfl (cF func8) (AY (i:=k) (s12.pk [1,2,0,3,4,5,6,7] rfl) (hs145.2.1).m (by rw [show k=i by omega];exact hs145.2.2.1)) fun _ v6 w13 r6 h94=>?_
   obtain ⟨rfl,s13⟩:=r6
   refine mvs 3 h94 rfl fun _ h95=>so (wn rfl) fun _ hK19=>AB h95 rfl rfl rfl rfl (z:=[ν 0,ν 0,ν 0,ν 0,ν 0,ν 0,ν 0,ν 0,ν 0,ν 0,ν 0,ν 0,ν 0,ν 0,ν 0]) (fun _=>rfl) s13 fun _ g5 w14 h96 s14 _ _=>hK19 _ _ ?_
   refine stA h96 s14 0 rfl rfl rfl κ rfl rfl rfl rfl fun _ w15 h97 s15 _=>mv h97 rfl fun _ h98=>h98.sn [17,16,15,14,13,12,11,10,9,8,6,5,0,1,2,3] rfl fun h99=>hK18 _ _<|sq fun _ hK20=>sqr fun _ hK21=>mvs 2 h99 rfl fun _ h100=>bv h100 (z:=.bool false) rfl (cNe _ _ _ _ (show decide ((0:Int)≠0)=false from rfl)) fun _ h101=>mv h101 rfl fun _ h102=>sv h102 (wF h102 (E:=false) rfl rfl rfl) rfl rfl rfl (v:=ν k) (Ad h102 rfl rfl) fun _ h103=>sv h103 (wF h103 (E:=false) rfl rfl rfl) rfl rfl rfl (v:=ν i) (Ad h103 rfl rfl) fun _ h104=>?_
   refine sv h104 (wF h104 (E:=false) rfl rfl rfl) rfl rfl rfl (v:=.bool false) (Aw h104 rfl rfl rfl (cNe _ _ _ _ (decide_eq_false ω))) fun _ h105=>sv h105 (wF h105 (E:=false) rfl rfl rfl) rfl rfl rfl (v:=.bool false) (Ad h105 rfl rfl) fun _ h106=>su h106 (wT h106 (E:=false) rfl rfl rfl) rfl rfl rfl fun _ h107=>su h107 (wT h107 (E:=false) rfl rfl rfl) rfl rfl rfl fun _ h108=>su h108 (wT h108 (E:=false) rfl rfl rfl) rfl rfl rfl fun _ h109=>sv h109 (wF h109 (E:=false) rfl rfl rfl) rfl rfl rfl (v:=.bool false) (Az h109 rfl rfl rfl) fun _ h110=>sv1 h110 rfl (v:=.bool false) (Az h110 rfl rfl rfl) fun _ h111=>h111.sn [110,17,16,15,14,13,12,11,10,9,8,6,5,0,1,2,3] rfl fun h112=>hK21 _ _<|wcF h112 rfl rfl ?_
   refine h112.sk [17,16,15,14,13,12,11,10,9,8,6,5,0,1,2,3] rfl fun h113=>wp_skip<|hK20 _ _<|sq fun _ hK22=>?_
   have s16:=s15.drew
   refine wp_region_held_drew (S:=fun w'=>Sep w' [Ab g5 25 (Ah x),Ab mx_x32 99 [π kk_x28.tg],Ab g3 25 (Ah x),Ab g2 25 (Ah (Al M_x31 [] k)),Ab vx_x33 39 (prC (π pg_x34) (π kk_x28.tg) (π mx_x32) (π rp_x35)),Ab g1 27 ((xs).map Ac),Ab g4 25 (Ah x),Ch.many R]) κ (s16.pk [0,1,3,4,5,6,7,8] rfl) (fun hq3=>?_)
   refine tv1 hq3 h113 0 rfl rfl (v:=π vx_x33) (fun w1 _=>(Ad h113 rfl rfl) w1) fun _ h114=>?_
   refine tv1 hq3 h114 1 rfl rfl (v:=π vx_x33) (fun w1 _=>(Dz h114 rfl rfl) w1) fun _ h115=>?_
   refine tv1 hq3 h115 2 rfl rfl (v:=.pointer (some ⟨vx_x33,2,none⟩)) (fun w1 _=>(rfa h115 rfl rfl (fQ 2)) w1) fun _ h116=>?_
   refine tv1 hq3 h116 3 rfl rfl (v:=π mx_x32) (fun w1 hSw=>(rld h116 rfl rfl (ldB υ35 rfl (hSw.get 4 rfl:Blk _ _ _ _) rfl))) fun _ h117=>?_
   refine tv1 hq3 h117 4 rfl rfl (v:=.agg (Af xs)) (fun w1 hSw=>(rld h117 rfl rfl (Dp υ27 (hSw.get 5 rfl:Blk _ _ _ _) (AZ _ (by first | exact h2 | (rw [Am];exact h2) | exact An _))))) fun _ h118=>?_
   have hv358:=Fj (xs:=xs) hs145.2.1 h2 (by decide)
   refine to_ 5 rfl (wn rfl) κ fun _ hK23=>AJ h118 rfl rfl rfl (xs:=[.tmp 114,.tmp 115]) rfl (cF func10) rfl (vs:=[π mx_x32,.agg (Af xs)]) rfl (args:=#[π mx_x32,.agg (Af xs)]) rfl (Ep (xs:=xs) (s16.pk [1,2,0,3,4,5,6,7,8] rfl) (hs145.2.1).m h2 hv358.1) fun _ v7 w16 r7 h119=>?_
   obtain ⟨tax359,tcx360,rfl,s17⟩:=r7
   refine hK23 _ _ (s17.pk [2,0,3,4,5,6,7,8] rfl) fun hq4=>?_
   refine tv1 hq4 h119 6 rfl rfl (v:=.bool true) (fun w1 _=>Aw h119 rfl rfl rfl (cEq _ _ _ _ (show decide ((0:Int)=0)=true from rfl)) w1) fun _ h120=>?_
   refine tv1 hq4 h120 7 rfl rfl (v:=.bool true) (fun w1 _=>(Ad h120 rfl rfl) w1) fun _ h121=>?_
   refine tv hq4 h121 8 rfl rfl rfl rfl κ κ κ (fun _ _ _ _ h=>h) (wT h121 (E:=true) rfl rfl rfl) (v:=π vx_x33) (fun w1 _=>(Ad h121 rfl rfl) w1) fun _ h122=>?_
   refine tv hq4 h122 9 rfl rfl rfl rfl κ κ κ (fun _ _ _ _ h=>h) (wT h122 (E:=true) rfl rfl rfl) (v:=π vx_x33) (fun w1 _=>(Dz h122 rfl rfl) w1) fun _ h123=>?_
   refine tv hq4 h123 10 rfl rfl rfl rfl κ κ κ (fun _ _ _ _ h=>h) (wT h123 (E:=true) rfl rfl rfl) (v:=.pointer (some ⟨vx_x33,2,none⟩)) (fun w1 _=>(rfa h123 rfl rfl (fQ 2)) w1) fun _ h124=>?_
   refine tv hq4 h124 11 rfl rfl rfl rfl κ κ κ (fun _ _ _ _ h=>h) (wT h124 (E:=true) rfl rfl rfl) (v:=π mx_x32) (fun w1 hSw=>(rld h124 rfl rfl (ldB υ35 rfl (hSw.get 4 rfl:Blk _ _ _ _) rfl))) fun _ h125=>?_
   refine tv hq4 h125 13 rfl rfl rfl rfl κ κ κ (fun _ _ _ _ h=>h) (wT h125 (E:=true) rfl rfl rfl) (v:=.agg (Af xs)) (fun w1 hSw=>(rld h125 rfl rfl (Dp υ27 (hSw.get 5 rfl:Blk _ _ _ _) (AZ _ (by first | exact h2 | (rw [Am];exact h2) | exact An _))))) fun _ h126=>?_
   refine to_ 12 rfl (wT h126 (E:=true) rfl rfl rfl) κ fun _ hK24=>AJ h126 rfl rfl rfl (xs:=[.tmp 122]) rfl (cF func11) rfl (vs:=[π mx_x32]) rfl (args:=#[π mx_x32]) rfl (IR s17 (hv358.2.2).m hv358.2.1) fun _ v8 w17 r8 h127=>?_
   obtain ⟨rfl,s18⟩:=r8
   refine hK24 _ _ (s18.pk [2,0,3,4,5,6,7,8] rfl) fun hq5=>?_
   refine tv hq5 h127 14 rfl rfl rfl rfl κ κ κ (fun _ _ _ _ h=>h) (wT h127 (E:=true) rfl rfl rfl) (v:=.bool true) (fun w1 _=>Aw h127 rfl rfl rfl (IF _ _ (AZ _ (by first | exact h2 | (rw [Am];exact h2) | exact An _)) (AZ _ (by first | exact h2 | (rw [Am];exact h2) | exact An _)) (decide_eq_true rfl)) w1) fun _ h128=>?_
   refine tv1 hq5 h128 15 rfl rfl (v:=.bool true) (fun w1 _=>(Az h128 rfl rfl rfl) w1) fun _ h129=>?_
   refine tv1 hq5 h129 16 rfl rfl (v:=.bool true) (fun w1 _=>(Ad h129 rfl rfl) w1) fun _ h130=>?_
   refine to_ 17 rfl (wT h130 (E:=true) rfl rfl rfl) κ fun _ hK25=>AJ h130 rfl rfl rfl (xs:=[]) rfl (cF func12) rfl (vs:=[]) rfl (args:=#[]) rfl (El s18) fun _ v9 w18 r9 h131=>?_
   obtain ⟨rfl,s19⟩:=r9
   refine hK25 _ _ (s19.pk [2,0,3,4,5,6,7,8] rfl) fun hq6=>?_
   refine tv1 hq6 h131 18 rfl rfl (v:=.bool true) (fun w1 _=>(Az h131 rfl rfl rfl) w1) fun _ h132=>?_
   refine h132.sk [129,128,127,126,125,123,124,122,121,120,119,118,117,116,115,114,113,112,111,17,16,15,14,13,12,11,10,9,6,5,0,1,2,3] rfl fun h133=>?_
   refine tv1 hq6 h133 19 rfl rfl (v:=.bool true) (fun w1 _=>(AP h133 rfl rfl) w1) fun _ h134=>?_
   refine h134.sk [8,17,16,15,14,13,12,11,10,9,6,5,0,1,2,3] rfl fun h135=>?_
   refine wpAnyH_done κ ?_ _
   refine hK22 _ _ ?_
   refine wp_ret ?_
   try simp only [Exit.then,Exit.inBlock]
   refine Bg (v:=.bool true) (Cl h135 rfl rfl) h135.defs ?_
   exact ⟨congrArg Value.bool rfl,Sep.tail_un (xs:=[]) (s19.pk [8] rfl)⟩
  ·skip
   have hp2:¬ (k=i):=(dF hc2)
   rcases bC (decide (1≤k)) with hc3 | hc3
   ·skip
    have hp3:1≤k:=(dT hc3)
    rcases bC (decide (k≤32)) with hc4 | hc4
    ·skip
     have hp4:k≤32:=(dT hc4)
     refine cl h4 rfl (cF func6) (DC s1) fun _ v10 w19 r10 h136=>?_
     obtain ⟨kk_x416,ta_x417,tc_x418,M_x419,mx_x420,vx_x421,pg_x422,rp_x423,rfl,s20,hvl428⟩:=r10
     have hvl0:=hvl428
     refine mv h136 rfl fun _ h137=>h137.sn [9,8,6,5,0,1,2,3] rfl fun h138=>hK4 _ _<|sq fun _ hK26=>sqr fun _ hK27=>mv h138 rfl fun _ h139=>bv h139 (z:=.bool false) rfl (Lu _ υ28 _ _ ⟨vx_x421,0,none⟩) fun _ h140=>h140.sn [20,9,8,6,5,0,1,2,3] rfl fun h141=>hK27 _ _<|wcF h141 rfl rfl<|h141.sk [9,8,6,5,0,1,2,3] rfl fun h142=>?_
     refine wp_skip<|hK26 _ _<|sqr fun _ hK28=>sw1 h142 rfl (v:=.agg (Ah x).toArray) (rld h142 rfl rfl (ldA υ25 rfl (n:=15) κ (s20.get 4 rfl:Blk _ _ _ _) rfl rfl)) fun _ h143=>cl h143 rfl (cF func7) (GA (x:=x) s20) fun _ v11 w20 r11 h144=>?_
     obtain ⟨rfl,s21⟩:=r11
     refine mv h144 rfl fun _ h145=>sg h145 (wT h145 rfl rfl rfl) rfl rfl rfl (v:=ν i) (fun hC5=>Ad h145 rfl rfl _) fun _ h146=>sg h146 (wT h146 rfl rfl rfl) rfl rfl rfl (v:=.bool true) (fun hC6=>Aw h146 rfl (opg rfl hC6) rfl (cGe _ _ _ _ (decide_eq_true ω)) _) fun _ h147=>sv1 h147 rfl (v:=.bool ((AS x)&&true)) (BQ h147 rfl (E:=(AS x)) (F:=true) rfl rfl rfl (fun e=>if_pos (by rw [e];try rfl))) fun _ h148=>mv h148 rfl fun _ h149=>sg h149 (wT h149 rfl rfl rfl) rfl rfl rfl (v:=ν i) (fun hC7=>by have hq:=(And.intro (AV hC7).1 (AV hC7).2);exact Ad h149 rfl rfl _) fun _ h150=>sg h150 (wT h150 rfl rfl rfl) rfl rfl rfl (v:=.bool true) (fun hC8=>by have hq:=(And.intro (AV hC8).1 (AV hC8).2);exact Aw h150 rfl (opg rfl hC8) rfl (cLe _ _ _ _ (decide_eq_true ω)) _) fun _ h151=>sv1 h151 rfl (v:=.bool (((AS x)&&true)&&true)) (BQ h151 rfl (E:=((AS x)&&true)) (F:=true) rfl rfl rfl (fun e=>if_pos (by rw [e];try rfl))) fun _ h152=>mv h152 rfl fun _ h153=>h153.sk [10,9,8,6,5,0,1,2,3] rfl fun h154=>?_
     refine wpList_nil<|hK28 _ _<|sq fun _ hK29=>?_
     have hb476:(((AS x)&&true)&&true)=true:=(by rw [(CW hc1).2.2];rfl);rw [hb476] at h154
     refine wp_region_lit<|mvs 2 h154 rfl fun _ h155=>fav h155 rfl (fQ 2) fun _ h156=>ldv h156 s21 0 υ35 rfl rfl rfl rfl fun _ h157=>mv h157 rfl fun _ h158=>cl h158 rfl (cF func8) (AY (x:=(Al M_x419 [] k)) (s21.pk [1,2,0,3,4,5] rfl) (hvl428).m ⟨rfl,JH hvl428 ω ω⟩) fun _ v12 w21 r12 h159=>?_
     obtain ⟨rfl,s22⟩:=r12
     refine mvs 3 h159 rfl fun _ h160=>so (wn rfl) fun _ hK30=>AB h160 rfl rfl rfl rfl (z:=[ν 0,ν 0,ν 0,ν 0,ν 0,ν 0,ν 0,ν 0,ν 0,ν 0,ν 0,ν 0,ν 0,ν 0,ν 0]) (fun _=>rfl) s22 fun _ g6 w22 h161 s23 _ _=>hK30 _ _ ?_
     refine stA h161 s23 0 rfl rfl rfl κ rfl rfl rfl rfl fun _ w23 h162 s24 _=>mv h162 rfl fun _ h163=>h163.sn [12,11,10,9,8,6,5,0,1,2,3] rfl fun h164=>hK29 _ _<|sq fun _ hK31=>?_
     have s25:=s24.drew
     refine wp_region_held_drew (S:=fun w'=>Sep w' [Ab g6 25 (Ah (Al M_x419 [] k)),Ab mx_x420 99 [π kk_x416.tg],Ab vx_x421 39 (prC (π pg_x422) (π kk_x416.tg) (π mx_x420) (π rp_x423)),Ab g1 27 ((xs).map Ac),Ab g4 25 (Ah x),Ch.many R]) κ (s25.pk [0,1,3,4,5,6] rfl) (fun hq7=>?_)
     refine tv1 hq7 h164 0 rfl rfl (v:=π vx_x421) (fun w1 _=>(Ad h164 rfl rfl) w1) fun _ h165=>?_
     refine tv1 hq7 h165 1 rfl rfl (v:=π vx_x421) (fun w1 _=>(Dz h165 rfl rfl) w1) fun _ h166=>?_
     refine tv1 hq7 h166 2 rfl rfl (v:=.pointer (some ⟨vx_x421,2,none⟩)) (fun w1 _=>(rfa h166 rfl rfl (fQ 2)) w1) fun _ h167=>?_
     refine tv1 hq7 h167 3 rfl rfl (v:=π mx_x420) (fun w1 hSw=>(rld h167 rfl rfl (ldB υ35 rfl (hSw.get 2 rfl:Blk _ _ _ _) rfl))) fun _ h168=>?_
     refine tv1 hq7 h168 4 rfl rfl (v:=ν i) (fun w1 _=>(Ad h168 rfl rfl) w1) fun _ h169=>?_
     refine tv1 hq7 h169 5 rfl rfl (v:=.agg (Ah x).toArray) (fun w1 hSw=>(rld h169 rfl rfl (ldA υ25 rfl (n:=15) κ (hSw.get 4 rfl:Blk _ _ _ _) rfl rfl))) fun _ h170=>?_
     have hs533:=JI hvl428 (CW hc1).1 (CW hc1).2.1 (CW hc1).2.2
     refine to_ 6 rfl (wn rfl) κ fun _ hK32=>AJ h170 rfl rfl rfl (xs:=[.tmp 43,.tmp 44,.tmp 45]) rfl (cF func9) rfl (vs:=[π mx_x420,ν i,.agg (Ah x).toArray]) rfl (args:=#[π mx_x420,ν i,.agg (Ah x).toArray]) rfl (FL (s25.pk [1,2,0,3,4,5,6] rfl) (hvl428).m hs533.1) fun _ v13 w24 r13 h171=>?_
     obtain ⟨tax534,tcx535,rfl,s26⟩:=r13
     refine hK32 _ _ (s26.pk [2,0,3,4,5,6] rfl) fun hq8=>?_
     refine tv1 hq8 h171 7 rfl rfl (v:=ν 0) (fun w1 _=>(AP h171 rfl rfl) w1) fun _ h172=>?_
     refine h172.sk [13,12,11,10,9,8,6,5,0,1,2,3] rfl fun h173=>?_
     refine wpAnyH_done κ ?_ _
     refine hK31 _ _ ?_
     refine sq fun _ hK33=>sqr fun _ hK34=>mv h173 rfl fun _ h174=>bv h174 (z:=.bool true) rfl (cEq _ _ _ _ (show decide ((0:Int)=0)=true from rfl)) fun _ h175=>mv h175 rfl fun _ h176=>bv h176 (z:=.bool false) rfl (DU _ υ4 _ _ _) fun _ h177=>mv h177 rfl fun _ h178=>sv h178 (wF h178 (E:=false) rfl rfl rfl) rfl rfl rfl (v:=ν 0) (Ad h178 rfl rfl) fun _ h179=>sv h179 (wF h179 (E:=false) rfl rfl rfl) rfl rfl rfl (v:=.bool false) (Aw h179 rfl rfl rfl (cNe _ _ _ _ (show decide ((0:Int)≠0)=false from rfl))) fun _ h180=>sv h180 (wF h180 (E:=false) rfl rfl rfl) rfl rfl rfl (v:=.bool false) (Ad h180 rfl rfl) fun _ h181=>su h181 (wT h181 (E:=false) rfl rfl rfl) rfl rfl rfl fun _ h182=>?_
     refine su h182 (wT h182 (E:=false) rfl rfl rfl) rfl rfl rfl fun _ h183=>sv h183 (wF h183 (E:=false) rfl rfl rfl) rfl rfl rfl (v:=.bool false) (Az h183 rfl rfl rfl) fun _ h184=>sv1 h184 rfl (v:=.bool false) (Az h184 rfl rfl rfl) fun _ h185=>mv h185 rfl fun _ h186=>sv h186 (wF h186 (E:=false) rfl rfl rfl) rfl rfl rfl (v:=ν 0) (Ad h186 rfl rfl) fun _ h187=>sv h187 (wF h187 (E:=false) rfl rfl rfl) rfl rfl rfl (v:=.bool true) (Aw h187 rfl rfl rfl (cEq _ _ _ _ (show decide ((0:Int)=0)=true from rfl))) fun _ h188=>sv h188 (wF h188 (E:=false) rfl rfl rfl) rfl rfl rfl (v:=ν k) (Ad h188 rfl rfl) fun _ h189=>sv h189 (wF h189 (E:=false) rfl rfl rfl) rfl rfl rfl (v:=.bool true) (Aw h189 rfl rfl rfl (cGe _ _ _ _ (decide_eq_true ω))) fun _ h190=>sv h190 (wF h190 (E:=false) rfl rfl rfl) rfl rfl rfl (v:=.bool true) (Ad h190 rfl rfl) fun _ h191=>sv h191 (wT h191 (E:=true) rfl rfl rfl) rfl rfl rfl (v:=ν k) (Ad h191 rfl rfl) fun _ h192=>?_
     refine sv h192 (wT h192 (E:=true) rfl rfl rfl) rfl rfl rfl (v:=.bool true) (Aw h192 rfl rfl rfl (cLe _ _ _ _ (decide_eq_true ω))) fun _ h193=>sv h193 (wF h193 (E:=false) rfl rfl rfl) rfl rfl rfl (v:=.bool true) (Az h193 rfl rfl rfl) fun _ h194=>sv h194 (wF h194 (E:=false) rfl rfl rfl) rfl rfl rfl (v:=.bool false) (Aw h194 rfl rfl rfl (DU _ υ4 _ _ _)) fun _ h195=>sv1 h195 rfl (v:=.bool false) (Az h195 rfl rfl rfl) fun _ h196=>h196.sn [69,13,12,11,10,9,8,6,5,0,1,2,3] rfl fun h197=>hK34 _ _<|wcF h197 rfl rfl<|h197.sk [13,12,11,10,9,8,6,5,0,1,2,3] rfl fun h198=>wp_skip<|hK33 _ _<|sq fun _ hK35=>wp_region_lit ?_
     refine mvs 2 h198 rfl fun _ h199=>fav h199 rfl (fQ 2) fun _ h200=>ldv h200 s26 3 υ35 rfl rfl rfl rfl fun _ h201=>mv h201 rfl fun _ h202=>cl h202 rfl (cF func8) (AY (i:=i) s26 (hs533.2.1).m (hs533.2.2.1)) fun _ v14 w25 r14 h203=>?_
     obtain ⟨rfl,s27⟩:=r14
     refine mvs 3 h203 rfl fun _ h204=>so (wn rfl) fun _ hK36=>AB h204 rfl rfl rfl rfl (z:=[ν 0,ν 0,ν 0,ν 0,ν 0,ν 0,ν 0,ν 0,ν 0,ν 0,ν 0,ν 0,ν 0,ν 0,ν 0]) (fun _=>rfl) s27 fun _ g7 w26 h205 s28 _ _=>hK36 _ _ ?_
     refine stA h205 s28 0 rfl rfl rfl κ rfl rfl rfl rfl fun _ w27 h206 s29 _=>mv h206 rfl fun _ h207=>h207.sn [15,14,13,12,11,10,9,8,6,5,0,1,2,3] rfl fun h208=>hK35 _ _<|sq fun _ hK37=>sqr fun _ hK38=>mvs 2 h208 rfl fun _ h209=>sw h209 (wT h209 (E:=true) rfl rfl rfl) rfl rfl rfl (v:=.agg (Ah x).toArray) (rld h209 rfl rfl (ldA υ25 rfl (n:=15) κ (s29.get 0 rfl:Blk _ _ _ _) rfl rfl)) fun _ h210=>sw h210 (wT h210 (E:=true) rfl rfl rfl) rfl rfl rfl (v:=.agg (Ah x).toArray) (rld h210 rfl rfl (ldA υ25 rfl (n:=15) κ (s29.get 6 rfl:Blk _ _ _ _) rfl rfl)) fun _ h211=>sv h211 (wT h211 (E:=true) rfl rfl rfl) rfl rfl rfl (v:=.bool false) (Aw h211 rfl rfl rfl (Iy _ _ (i:=x) (j:=x) (by rw [decide_eq_true rfl];rfl))) fun _ h212=>sv h212 (wT h212 (E:=true) rfl rfl rfl) rfl rfl rfl (v:=.bool false) (Ad h212 rfl rfl) fun _ h213=>?_
     refine sv h213 (wF h213 (E:=false) rfl rfl rfl) rfl rfl rfl (v:=ν 0) (Ad h213 rfl rfl) fun _ h214=>sv h214 (wF h214 (E:=false) rfl rfl rfl) rfl rfl rfl (v:=.bool false) (Aw h214 rfl rfl rfl (cNe _ _ _ _ (show decide ((0:Int)≠0)=false from rfl))) fun _ h215=>sv h215 (wT h215 (E:=true) rfl rfl rfl) rfl rfl rfl (v:=.bool false) (Az h215 rfl rfl rfl) fun _ h216=>sv1 h216 rfl (v:=.bool false) (Az h216 rfl rfl rfl) fun _ h217=>h217.sn [88,15,14,13,12,11,10,9,8,6,5,0,1,2,3] rfl fun h218=>hK38 _ _<|wcF h218 rfl rfl<|h218.sk [15,14,13,12,11,10,9,8,6,5,0,1,2,3] rfl fun h219=>wp_skip<|hK37 _ _<|sq fun _ hK39=>wp_region_lit ?_
     refine mvs 2 h219 rfl fun _ h220=>fav h220 rfl (fQ 2) fun _ h221=>ldv h221 s29 4 υ35 rfl rfl rfl rfl fun _ h222=>mv h222 rfl fun _ h223=>cl h223 rfl (cF func8) (AY (x:=Al M_x419 [] k) (s29.pk [1,2,0,3,4,5,6,7] rfl) (hs533.2.1).m ⟨(hs533.2.2.2 k ω).1,(hs533.2.2.2 k ω).2.trans (JH hvl0 ω ω)⟩) fun _ v15 w28 r15 h224=>?_
     obtain ⟨rfl,s30⟩:=r15
     refine mvs 3 h224 rfl fun _ h225=>so (wn rfl) fun _ hK40=>AB h225 rfl rfl rfl rfl (z:=[ν 0,ν 0,ν 0,ν 0,ν 0,ν 0,ν 0,ν 0,ν 0,ν 0,ν 0,ν 0,ν 0,ν 0,ν 0]) (fun _=>rfl) s30 fun _ g8 w29 h226 s31 _ _=>hK40 _ _ ?_
     refine stA h226 s31 0 rfl rfl rfl κ rfl rfl rfl rfl fun _ w30 h227 s32 _=>mv h227 rfl fun _ h228=>h228.sn [17,16,15,14,13,12,11,10,9,8,6,5,0,1,2,3] rfl fun h229=>hK39 _ _<|sq fun _ hK41=>sqr fun _ hK42=>mvs 2 h229 rfl fun _ h230=>bv h230 (z:=.bool false) rfl (cNe _ _ _ _ (show decide ((0:Int)≠0)=false from rfl)) fun _ h231=>mv h231 rfl fun _ h232=>sv h232 (wF h232 (E:=false) rfl rfl rfl) rfl rfl rfl (v:=ν k) (Ad h232 rfl rfl) fun _ h233=>sv h233 (wF h233 (E:=false) rfl rfl rfl) rfl rfl rfl (v:=ν i) (Ad h233 rfl rfl) fun _ h234=>?_
     refine sv h234 (wF h234 (E:=false) rfl rfl rfl) rfl rfl rfl (v:=.bool true) (Aw h234 rfl rfl rfl (cNe _ _ _ _ (decide_eq_true ω))) fun _ h235=>sv h235 (wF h235 (E:=false) rfl rfl rfl) rfl rfl rfl (v:=.bool true) (Ad h235 rfl rfl) fun _ h236=>sw h236 (wT h236 (E:=true) rfl rfl rfl) rfl rfl rfl (v:=.agg (Ah (Al M_x419 [] k)).toArray) (rld h236 rfl rfl (ldA υ25 rfl (n:=15) κ (s32.get 0 rfl:Blk _ _ _ _) rfl rfl)) fun _ h237=>sw h237 (wT h237 (E:=true) rfl rfl rfl) rfl rfl rfl (v:=.agg (Ah (Al M_x419 [] k)).toArray) (rld h237 rfl rfl (ldA υ25 rfl (n:=15) κ (s32.get 4 rfl:Blk _ _ _ _) rfl rfl)) fun _ h238=>sv h238 (wT h238 (E:=true) rfl rfl rfl) rfl rfl rfl (v:=.bool false) (Aw h238 rfl rfl rfl (Iy _ _ (i:=(Al M_x419 [] k)) (j:=(Al M_x419 [] k)) (by rw [decide_eq_true rfl];rfl))) fun _ h239=>sv h239 (wF h239 (E:=false) rfl rfl rfl) rfl rfl rfl (v:=.bool false) (Az h239 rfl rfl rfl) fun _ h240=>sv1 h240 rfl (v:=.bool false) (Az h240 rfl rfl rfl) fun _ h241=>h241.sn [110,17,16,15,14,13,12,11,10,9,8,6,5,0,1,2,3] rfl fun h242=>hK42 _ _<|wcF h242 rfl rfl ?_
     refine h242.sk [17,16,15,14,13,12,11,10,9,8,6,5,0,1,2,3] rfl fun h243=>wp_skip<|hK41 _ _<|sq fun _ hK43=>?_
     have s33:=s32.drew
     refine wp_region_held_drew (S:=fun w'=>Sep w' [Ab g8 25 (Ah (Al M_x419 [] k)),Ab mx_x420 99 [π kk_x416.tg],Ab g7 25 (Ah x),Ab g6 25 (Ah (Al M_x419 [] k)),Ab vx_x421 39 (prC (π pg_x422) (π kk_x416.tg) (π mx_x420) (π rp_x423)),Ab g1 27 ((xs).map Ac),Ab g4 25 (Ah x),Ch.many R]) κ (s33.pk [0,1,3,4,5,6,7,8] rfl) (fun hq9=>?_)
     refine tv1 hq9 h243 0 rfl rfl (v:=π vx_x421) (fun w1 _=>(Ad h243 rfl rfl) w1) fun _ h244=>?_
     refine tv1 hq9 h244 1 rfl rfl (v:=π vx_x421) (fun w1 _=>(Dz h244 rfl rfl) w1) fun _ h245=>?_
     refine tv1 hq9 h245 2 rfl rfl (v:=.pointer (some ⟨vx_x421,2,none⟩)) (fun w1 _=>(rfa h245 rfl rfl (fQ 2)) w1) fun _ h246=>?_
     refine tv1 hq9 h246 3 rfl rfl (v:=π mx_x420) (fun w1 hSw=>(rld h246 rfl rfl (ldB υ35 rfl (hSw.get 4 rfl:Blk _ _ _ _) rfl))) fun _ h247=>?_
     refine tv1 hq9 h247 4 rfl rfl (v:=.agg (Af xs)) (fun w1 hSw=>(rld h247 rfl rfl (Dp υ27 (hSw.get 5 rfl:Blk _ _ _ _) (AZ _ (by first | exact h2 | (rw [Am];exact h2) | exact An _))))) fun _ h248=>?_
     have hv746:=Fj (xs:=xs) hs533.2.1 h2 (by decide)
     refine to_ 5 rfl (wn rfl) κ fun _ hK44=>AJ h248 rfl rfl rfl (xs:=[.tmp 114,.tmp 115]) rfl (cF func10) rfl (vs:=[π mx_x420,.agg (Af xs)]) rfl (args:=#[π mx_x420,.agg (Af xs)]) rfl (Ep (xs:=xs) (s33.pk [1,2,0,3,4,5,6,7,8] rfl) (hs533.2.1).m h2 hv746.1) fun _ v16 w31 r16 h249=>?_
     obtain ⟨tax747,tcx748,rfl,s34⟩:=r16
     refine hK44 _ _ (s34.pk [2,0,3,4,5,6,7,8] rfl) fun hq10=>?_
     refine tv1 hq10 h249 6 rfl rfl (v:=.bool true) (fun w1 _=>Aw h249 rfl rfl rfl (cEq _ _ _ _ (show decide ((0:Int)=0)=true from rfl)) w1) fun _ h250=>?_
     refine tv1 hq10 h250 7 rfl rfl (v:=.bool true) (fun w1 _=>(Ad h250 rfl rfl) w1) fun _ h251=>?_
     refine tv hq10 h251 8 rfl rfl rfl rfl κ κ κ (fun _ _ _ _ h=>h) (wT h251 (E:=true) rfl rfl rfl) (v:=π vx_x421) (fun w1 _=>(Ad h251 rfl rfl) w1) fun _ h252=>?_
     refine tv hq10 h252 9 rfl rfl rfl rfl κ κ κ (fun _ _ _ _ h=>h) (wT h252 (E:=true) rfl rfl rfl) (v:=π vx_x421) (fun w1 _=>(Dz h252 rfl rfl) w1) fun _ h253=>?_
     refine tv hq10 h253 10 rfl rfl rfl rfl κ κ κ (fun _ _ _ _ h=>h) (wT h253 (E:=true) rfl rfl rfl) (v:=.pointer (some ⟨vx_x421,2,none⟩)) (fun w1 _=>(rfa h253 rfl rfl (fQ 2)) w1) fun _ h254=>?_
     refine tv hq10 h254 11 rfl rfl rfl rfl κ κ κ (fun _ _ _ _ h=>h) (wT h254 (E:=true) rfl rfl rfl) (v:=π mx_x420) (fun w1 hSw=>(rld h254 rfl rfl (ldB υ35 rfl (hSw.get 4 rfl:Blk _ _ _ _) rfl))) fun _ h255=>?_
     refine tv hq10 h255 13 rfl rfl rfl rfl κ κ κ (fun _ _ _ _ h=>h) (wT h255 (E:=true) rfl rfl rfl) (v:=.agg (Af xs)) (fun w1 hSw=>(rld h255 rfl rfl (Dp υ27 (hSw.get 5 rfl:Blk _ _ _ _) (AZ _ (by first | exact h2 | (rw [Am];exact h2) | exact An _))))) fun _ h256=>?_
     refine to_ 12 rfl (wT h256 (E:=true) rfl rfl rfl) κ fun _ hK45=>AJ h256 rfl rfl rfl (xs:=[.tmp 122]) rfl (cF func11) rfl (vs:=[π mx_x420]) rfl (args:=#[π mx_x420]) rfl (IR s34 (hv746.2.2).m hv746.2.1) fun _ v17 w32 r17 h257=>?_
     obtain ⟨rfl,s35⟩:=r17
     refine hK45 _ _ (s35.pk [2,0,3,4,5,6,7,8] rfl) fun hq11=>?_
     refine tv hq11 h257 14 rfl rfl rfl rfl κ κ κ (fun _ _ _ _ h=>h) (wT h257 (E:=true) rfl rfl rfl) (v:=.bool true) (fun w1 _=>Aw h257 rfl rfl rfl (IF _ _ (AZ _ (by first | exact h2 | (rw [Am];exact h2) | exact An _)) (AZ _ (by first | exact h2 | (rw [Am];exact h2) | exact An _)) (decide_eq_true rfl)) w1) fun _ h258=>?_
     refine tv1 hq11 h258 15 rfl rfl (v:=.bool true) (fun w1 _=>(Az h258 rfl rfl rfl) w1) fun _ h259=>?_
     refine tv1 hq11 h259 16 rfl rfl (v:=.bool true) (fun w1 _=>(Ad h259 rfl rfl) w1) fun _ h260=>?_
     refine to_ 17 rfl (wT h260 (E:=true) rfl rfl rfl) κ fun _ hK46=>AJ h260 rfl rfl rfl (xs:=[]) rfl (cF func12) rfl (vs:=[]) rfl (args:=#[]) rfl (El s35) fun _ v18 w33 r18 h261=>?_
     obtain ⟨rfl,s36⟩:=r18
     refine hK46 _ _ (s36.pk [2,0,3,4,5,6,7,8] rfl) fun hq12=>?_
     refine tv1 hq12 h261 18 rfl rfl (v:=.bool true) (fun w1 _=>(Az h261 rfl rfl rfl) w1) fun _ h262=>?_
     refine h262.sk [129,128,127,126,125,123,124,122,121,120,119,118,117,116,115,114,113,112,111,17,16,15,14,13,12,11,10,9,6,5,0,1,2,3] rfl fun h263=>?_
     refine tv1 hq12 h263 19 rfl rfl (v:=.bool true) (fun w1 _=>(AP h263 rfl rfl) w1) fun _ h264=>?_
     refine h264.sk [8,17,16,15,14,13,12,11,10,9,6,5,0,1,2,3] rfl fun h265=>?_
     refine wpAnyH_done κ ?_ _
     refine hK43 _ _ ?_
     refine wp_ret ?_
     try simp only [Exit.then,Exit.inBlock]
     refine Bg (v:=.bool true) (Cl h265 rfl rfl) h265.defs ?_
     exact ⟨congrArg Value.bool rfl,Sep.tail_un (xs:=[]) (s36.pk [8] rfl)⟩
    ·skip
     have hp5:¬ (k≤32):=(dF hc4)
     refine cl h4 rfl (cF func6) (DC s1) fun _ v19 w34 r19 h266=>?_
     obtain ⟨kk_x800,ta_x801,tc_x802,M_x803,mx_x804,vx_x805,pg_x806,rp_x807,rfl,s37,hvl812⟩:=r19
     have hvl0:=hvl812
     refine mv h266 rfl fun _ h267=>h267.sn [9,8,6,5,0,1,2,3] rfl fun h268=>hK4 _ _<|sq fun _ hK47=>sqr fun _ hK48=>mv h268 rfl fun _ h269=>bv h269 (z:=.bool false) rfl (Lu _ υ28 _ _ ⟨vx_x805,0,none⟩) fun _ h270=>h270.sn [20,9,8,6,5,0,1,2,3] rfl fun h271=>hK48 _ _<|wcF h271 rfl rfl<|h271.sk [9,8,6,5,0,1,2,3] rfl fun h272=>?_
     refine wp_skip<|hK47 _ _<|sqr fun _ hK49=>sw1 h272 rfl (v:=.agg (Ah x).toArray) (rld h272 rfl rfl (ldA υ25 rfl (n:=15) κ (s37.get 4 rfl:Blk _ _ _ _) rfl rfl)) fun _ h273=>cl h273 rfl (cF func7) (GA (x:=x) s37) fun _ v20 w35 r20 h274=>?_
     obtain ⟨rfl,s38⟩:=r20
     refine mv h274 rfl fun _ h275=>sg h275 (wT h275 rfl rfl rfl) rfl rfl rfl (v:=ν i) (fun hC9=>Ad h275 rfl rfl _) fun _ h276=>sg h276 (wT h276 rfl rfl rfl) rfl rfl rfl (v:=.bool true) (fun hC10=>Aw h276 rfl (opg rfl hC10) rfl (cGe _ _ _ _ (decide_eq_true ω)) _) fun _ h277=>sv1 h277 rfl (v:=.bool ((AS x)&&true)) (BQ h277 rfl (E:=(AS x)) (F:=true) rfl rfl rfl (fun e=>if_pos (by rw [e];try rfl))) fun _ h278=>mv h278 rfl fun _ h279=>sg h279 (wT h279 rfl rfl rfl) rfl rfl rfl (v:=ν i) (fun hC11=>by have hq:=(And.intro (AV hC11).1 (AV hC11).2);exact Ad h279 rfl rfl _) fun _ h280=>sg h280 (wT h280 rfl rfl rfl) rfl rfl rfl (v:=.bool true) (fun hC12=>by have hq:=(And.intro (AV hC12).1 (AV hC12).2);exact Aw h280 rfl (opg rfl hC12) rfl (cLe _ _ _ _ (decide_eq_true ω)) _) fun _ h281=>sv1 h281 rfl (v:=.bool (((AS x)&&true)&&true)) (BQ h281 rfl (E:=((AS x)&&true)) (F:=true) rfl rfl rfl (fun e=>if_pos (by rw [e];try rfl))) fun _ h282=>mv h282 rfl fun _ h283=>h283.sk [10,9,8,6,5,0,1,2,3] rfl fun h284=>?_
     refine wpList_nil<|hK49 _ _<|sq fun _ hK50=>?_
     have hb860:(((AS x)&&true)&&true)=true:=(by rw [(CW hc1).2.2];rfl);rw [hb860] at h284
     refine wp_region_lit<|mvs 2 h284 rfl fun _ h285=>fav h285 rfl (fQ 2) fun _ h286=>ldv h286 s38 0 υ35 rfl rfl rfl rfl fun _ h287=>mv h287 rfl fun _ h288=>cl h288 rfl (cF func8) (AY (x:=(Al M_x803 [] k)) (s38.pk [1,2,0,3,4,5] rfl) (hvl812).m ⟨rfl,EG hvl812 ω⟩) fun _ v21 w36 r21 h289=>?_
     obtain ⟨rfl,s39⟩:=r21
     refine mvs 3 h289 rfl fun _ h290=>so (wn rfl) fun _ hK51=>AB h290 rfl rfl rfl rfl (z:=[ν 0,ν 0,ν 0,ν 0,ν 0,ν 0,ν 0,ν 0,ν 0,ν 0,ν 0,ν 0,ν 0,ν 0,ν 0]) (fun _=>rfl) s39 fun _ g9 w37 h291 s40 _ _=>hK51 _ _ ?_
     refine stA h291 s40 0 rfl rfl rfl κ rfl rfl rfl rfl fun _ w38 h292 s41 _=>mv h292 rfl fun _ h293=>h293.sn [12,11,10,9,8,6,5,0,1,2,3] rfl fun h294=>hK50 _ _<|sq fun _ hK52=>?_
     have s42:=s41.drew
     refine wp_region_held_drew (S:=fun w'=>Sep w' [Ab g9 25 (Ah (Al M_x803 [] k)),Ab mx_x804 99 [π kk_x800.tg],Ab vx_x805 39 (prC (π pg_x806) (π kk_x800.tg) (π mx_x804) (π rp_x807)),Ab g1 27 ((xs).map Ac),Ab g4 25 (Ah x),Ch.many R]) κ (s42.pk [0,1,3,4,5,6] rfl) (fun hq13=>?_)
     refine tv1 hq13 h294 0 rfl rfl (v:=π vx_x805) (fun w1 _=>(Ad h294 rfl rfl) w1) fun _ h295=>?_
     refine tv1 hq13 h295 1 rfl rfl (v:=π vx_x805) (fun w1 _=>(Dz h295 rfl rfl) w1) fun _ h296=>?_
     refine tv1 hq13 h296 2 rfl rfl (v:=.pointer (some ⟨vx_x805,2,none⟩)) (fun w1 _=>(rfa h296 rfl rfl (fQ 2)) w1) fun _ h297=>?_
     refine tv1 hq13 h297 3 rfl rfl (v:=π mx_x804) (fun w1 hSw=>(rld h297 rfl rfl (ldB υ35 rfl (hSw.get 2 rfl:Blk _ _ _ _) rfl))) fun _ h298=>?_
     refine tv1 hq13 h298 4 rfl rfl (v:=ν i) (fun w1 _=>(Ad h298 rfl rfl) w1) fun _ h299=>?_
     refine tv1 hq13 h299 5 rfl rfl (v:=.agg (Ah x).toArray) (fun w1 hSw=>(rld h299 rfl rfl (ldA υ25 rfl (n:=15) κ (hSw.get 4 rfl:Blk _ _ _ _) rfl rfl))) fun _ h300=>?_
     have hs917:=JI hvl812 (CW hc1).1 (CW hc1).2.1 (CW hc1).2.2
     refine to_ 6 rfl (wn rfl) κ fun _ hK53=>AJ h300 rfl rfl rfl (xs:=[.tmp 43,.tmp 44,.tmp 45]) rfl (cF func9) rfl (vs:=[π mx_x804,ν i,.agg (Ah x).toArray]) rfl (args:=#[π mx_x804,ν i,.agg (Ah x).toArray]) rfl (FL (s42.pk [1,2,0,3,4,5,6] rfl) (hvl812).m hs917.1) fun _ v22 w39 r22 h301=>?_
     obtain ⟨tax918,tcx919,rfl,s43⟩:=r22
     refine hK53 _ _ (s43.pk [2,0,3,4,5,6] rfl) fun hq14=>?_
     refine tv1 hq14 h301 7 rfl rfl (v:=ν 0) (fun w1 _=>(AP h301 rfl rfl) w1) fun _ h302=>?_
     refine h302.sk [13,12,11,10,9,8,6,5,0,1,2,3] rfl fun h303=>?_
     refine wpAnyH_done κ ?_ _
     refine hK52 _ _ ?_
     refine sq fun _ hK54=>sqr fun _ hK55=>mv h303 rfl fun _ h304=>bv h304 (z:=.bool true) rfl (cEq _ _ _ _ (show decide ((0:Int)=0)=true from rfl)) fun _ h305=>mv h305 rfl fun _ h306=>bv h306 (z:=.bool false) rfl (DU _ υ4 _ _ _) fun _ h307=>mv h307 rfl fun _ h308=>sv h308 (wF h308 (E:=false) rfl rfl rfl) rfl rfl rfl (v:=ν 0) (Ad h308 rfl rfl) fun _ h309=>sv h309 (wF h309 (E:=false) rfl rfl rfl) rfl rfl rfl (v:=.bool false) (Aw h309 rfl rfl rfl (cNe _ _ _ _ (show decide ((0:Int)≠0)=false from rfl))) fun _ h310=>sv h310 (wF h310 (E:=false) rfl rfl rfl) rfl rfl rfl (v:=.bool false) (Ad h310 rfl rfl) fun _ h311=>su h311 (wT h311 (E:=false) rfl rfl rfl) rfl rfl rfl fun _ h312=>?_
     refine su h312 (wT h312 (E:=false) rfl rfl rfl) rfl rfl rfl fun _ h313=>sv h313 (wF h313 (E:=false) rfl rfl rfl) rfl rfl rfl (v:=.bool false) (Az h313 rfl rfl rfl) fun _ h314=>sv1 h314 rfl (v:=.bool false) (Az h314 rfl rfl rfl) fun _ h315=>mv h315 rfl fun _ h316=>sv h316 (wF h316 (E:=false) rfl rfl rfl) rfl rfl rfl (v:=ν 1) (Ad h316 rfl rfl) fun _ h317=>sv h317 (wF h317 (E:=false) rfl rfl rfl) rfl rfl rfl (v:=.bool false) (Aw h317 rfl rfl rfl (cEq _ _ _ _ (show decide ((1:Int)=0)=false from rfl))) fun _ h318=>sv h318 (wF h318 (E:=false) rfl rfl rfl) rfl rfl rfl (v:=ν k) (Ad h318 rfl rfl) fun _ h319=>sv h319 (wF h319 (E:=false) rfl rfl rfl) rfl rfl rfl (v:=.bool true) (Aw h319 rfl rfl rfl (cGe _ _ _ _ (decide_eq_true ω))) fun _ h320=>sv h320 (wF h320 (E:=false) rfl rfl rfl) rfl rfl rfl (v:=.bool true) (Ad h320 rfl rfl) fun _ h321=>sv h321 (wT h321 (E:=true) rfl rfl rfl) rfl rfl rfl (v:=ν k) (Ad h321 rfl rfl) fun _ h322=>?_
     refine sv h322 (wT h322 (E:=true) rfl rfl rfl) rfl rfl rfl (v:=.bool false) (Aw h322 rfl rfl rfl (cLe _ _ _ _ (decide_eq_false ω))) fun _ h323=>sv h323 (wF h323 (E:=false) rfl rfl rfl) rfl rfl rfl (v:=.bool false) (Az h323 rfl rfl rfl) fun _ h324=>sv h324 (wF h324 (E:=false) rfl rfl rfl) rfl rfl rfl (v:=.bool false) (Aw h324 rfl rfl rfl (DU _ υ4 _ _ _)) fun _ h325=>sv1 h325 rfl (v:=.bool false) (Az h325 rfl rfl rfl) fun _ h326=>h326.sn [69,13,12,11,10,9,8,6,5,0,1,2,3] rfl fun h327=>hK55 _ _<|wcF h327 rfl rfl<|h327.sk [13,12,11,10,9,8,6,5,0,1,2,3] rfl fun h328=>wp_skip<|hK54 _ _<|sq fun _ hK56=>wp_region_lit ?_
     refine mvs 2 h328 rfl fun _ h329=>fav h329 rfl (fQ 2) fun _ h330=>ldv h330 s43 3 υ35 rfl rfl rfl rfl fun _ h331=>mv h331 rfl fun _ h332=>cl h332 rfl (cF func8) (AY (i:=i) s43 (hs917.2.1).m (hs917.2.2.1)) fun _ v23 w40 r23 h333=>?_
     obtain ⟨rfl,s44⟩:=r23
     refine mvs 3 h333 rfl fun _ h334=>so (wn rfl) fun _ hK57=>AB h334 rfl rfl rfl rfl (z:=[ν 0,ν 0,ν 0,ν 0,ν 0,ν 0,ν 0,ν 0,ν 0,ν 0,ν 0,ν 0,ν 0,ν 0,ν 0]) (fun _=>rfl) s44 fun _ g10 w41 h335 s45 _ _=>hK57 _ _ ?_
     refine stA h335 s45 0 rfl rfl rfl κ rfl rfl rfl rfl fun _ w42 h336 s46 _=>mv h336 rfl fun _ h337=>h337.sn [15,14,13,12,11,10,9,8,6,5,0,1,2,3] rfl fun h338=>hK56 _ _<|sq fun _ hK58=>sqr fun _ hK59=>mvs 2 h338 rfl fun _ h339=>sw h339 (wT h339 (E:=true) rfl rfl rfl) rfl rfl rfl (v:=.agg (Ah x).toArray) (rld h339 rfl rfl (ldA υ25 rfl (n:=15) κ (s46.get 0 rfl:Blk _ _ _ _) rfl rfl)) fun _ h340=>sw h340 (wT h340 (E:=true) rfl rfl rfl) rfl rfl rfl (v:=.agg (Ah x).toArray) (rld h340 rfl rfl (ldA υ25 rfl (n:=15) κ (s46.get 6 rfl:Blk _ _ _ _) rfl rfl)) fun _ h341=>sv h341 (wT h341 (E:=true) rfl rfl rfl) rfl rfl rfl (v:=.bool false) (Aw h341 rfl rfl rfl (Iy _ _ (i:=x) (j:=x) (by rw [decide_eq_true rfl];rfl))) fun _ h342=>sv h342 (wT h342 (E:=true) rfl rfl rfl) rfl rfl rfl (v:=.bool false) (Ad h342 rfl rfl) fun _ h343=>?_
     refine sv h343 (wF h343 (E:=false) rfl rfl rfl) rfl rfl rfl (v:=ν 0) (Ad h343 rfl rfl) fun _ h344=>sv h344 (wF h344 (E:=false) rfl rfl rfl) rfl rfl rfl (v:=.bool false) (Aw h344 rfl rfl rfl (cNe _ _ _ _ (show decide ((0:Int)≠0)=false from rfl))) fun _ h345=>sv h345 (wT h345 (E:=true) rfl rfl rfl) rfl rfl rfl (v:=.bool false) (Az h345 rfl rfl rfl) fun _ h346=>sv1 h346 rfl (v:=.bool false) (Az h346 rfl rfl rfl) fun _ h347=>h347.sn [88,15,14,13,12,11,10,9,8,6,5,0,1,2,3] rfl fun h348=>hK59 _ _<|wcF h348 rfl rfl<|h348.sk [15,14,13,12,11,10,9,8,6,5,0,1,2,3] rfl fun h349=>wp_skip<|hK58 _ _<|sq fun _ hK60=>wp_region_lit ?_
     refine mvs 2 h349 rfl fun _ h350=>fav h350 rfl (fQ 2) fun _ h351=>ldv h351 s46 4 υ35 rfl rfl rfl rfl fun _ h352=>mv h352 rfl fun _ h353=>cl h353 rfl (cF func8) (AY (x:=Al M_x803 [] k) (s46.pk [1,2,0,3,4,5,6,7] rfl) (hs917.2.1).m ⟨(hs917.2.2.2 k ω).1,(hs917.2.2.2 k ω).2.trans (EG hvl0 ω)⟩) fun _ v24 w43 r24 h354=>?_
     obtain ⟨rfl,s47⟩:=r24
     refine mvs 3 h354 rfl fun _ h355=>so (wn rfl) fun _ hK61=>AB h355 rfl rfl rfl rfl (z:=[ν 0,ν 0,ν 0,ν 0,ν 0,ν 0,ν 0,ν 0,ν 0,ν 0,ν 0,ν 0,ν 0,ν 0,ν 0]) (fun _=>rfl) s47 fun _ g11 w44 h356 s48 _ _=>hK61 _ _ ?_
     refine stA h356 s48 0 rfl rfl rfl κ rfl rfl rfl rfl fun _ w45 h357 s49 _=>mv h357 rfl fun _ h358=>h358.sn [17,16,15,14,13,12,11,10,9,8,6,5,0,1,2,3] rfl fun h359=>hK60 _ _<|sq fun _ hK62=>sqr fun _ hK63=>mvs 2 h359 rfl fun _ h360=>bv h360 (z:=.bool false) rfl (cNe _ _ _ _ (show decide ((1:Int)≠1)=false from rfl)) fun _ h361=>mv h361 rfl fun _ h362=>sv h362 (wF h362 (E:=false) rfl rfl rfl) rfl rfl rfl (v:=ν k) (Ad h362 rfl rfl) fun _ h363=>sv h363 (wF h363 (E:=false) rfl rfl rfl) rfl rfl rfl (v:=ν i) (Ad h363 rfl rfl) fun _ h364=>?_
     refine sv h364 (wF h364 (E:=false) rfl rfl rfl) rfl rfl rfl (v:=.bool true) (Aw h364 rfl rfl rfl (cNe _ _ _ _ (decide_eq_true ω))) fun _ h365=>sv h365 (wF h365 (E:=false) rfl rfl rfl) rfl rfl rfl (v:=.bool true) (Ad h365 rfl rfl) fun _ h366=>sw h366 (wT h366 (E:=true) rfl rfl rfl) rfl rfl rfl (v:=.agg (Ah (Al M_x803 [] k)).toArray) (rld h366 rfl rfl (ldA υ25 rfl (n:=15) κ (s49.get 0 rfl:Blk _ _ _ _) rfl rfl)) fun _ h367=>sw h367 (wT h367 (E:=true) rfl rfl rfl) rfl rfl rfl (v:=.agg (Ah (Al M_x803 [] k)).toArray) (rld h367 rfl rfl (ldA υ25 rfl (n:=15) κ (s49.get 4 rfl:Blk _ _ _ _) rfl rfl)) fun _ h368=>sv h368 (wT h368 (E:=true) rfl rfl rfl) rfl rfl rfl (v:=.bool false) (Aw h368 rfl rfl rfl (Iy _ _ (i:=(Al M_x803 [] k)) (j:=(Al M_x803 [] k)) (by rw [decide_eq_true rfl];rfl))) fun _ h369=>sv h369 (wF h369 (E:=false) rfl rfl rfl) rfl rfl rfl (v:=.bool false) (Az h369 rfl rfl rfl) fun _ h370=>sv1 h370 rfl (v:=.bool false) (Az h370 rfl rfl rfl) fun _ h371=>h371.sn [110,17,16,15,14,13,12,11,10,9,8,6,5,0,1,2,3] rfl fun h372=>hK63 _ _<|wcF h372 rfl rfl ?_
     refine h372.sk [17,16,15,14,13,12,11,10,9,8,6,5,0,1,2,3] rfl fun h373=>wp_skip<|hK62 _ _<|sq fun _ hK64=>?_
     have s50:=s49.drew
     refine wp_region_held_drew (S:=fun w'=>Sep w' [Ab g11 25 (Ah (Al M_x803 [] k)),Ab mx_x804 99 [π kk_x800.tg],Ab g10 25 (Ah x),Ab g9 25 (Ah (Al M_x803 [] k)),Ab vx_x805 39 (prC (π pg_x806) (π kk_x800.tg) (π mx_x804) (π rp_x807)),Ab g1 27 ((xs).map Ac),Ab g4 25 (Ah x),Ch.many R]) κ (s50.pk [0,1,3,4,5,6,7,8] rfl) (fun hq15=>?_)
     refine tv1 hq15 h373 0 rfl rfl (v:=π vx_x805) (fun w1 _=>(Ad h373 rfl rfl) w1) fun _ h374=>?_
     refine tv1 hq15 h374 1 rfl rfl (v:=π vx_x805) (fun w1 _=>(Dz h374 rfl rfl) w1) fun _ h375=>?_
     refine tv1 hq15 h375 2 rfl rfl (v:=.pointer (some ⟨vx_x805,2,none⟩)) (fun w1 _=>(rfa h375 rfl rfl (fQ 2)) w1) fun _ h376=>?_
     refine tv1 hq15 h376 3 rfl rfl (v:=π mx_x804) (fun w1 hSw=>(rld h376 rfl rfl (ldB υ35 rfl (hSw.get 4 rfl:Blk _ _ _ _) rfl))) fun _ h377=>?_
     refine tv1 hq15 h377 4 rfl rfl (v:=.agg (Af xs)) (fun w1 hSw=>(rld h377 rfl rfl (Dp υ27 (hSw.get 5 rfl:Blk _ _ _ _) (AZ _ (by first | exact h2 | (rw [Am];exact h2) | exact An _))))) fun _ h378=>?_
     have hv1130:=Fj (xs:=xs) hs917.2.1 h2 (by decide)
     refine to_ 5 rfl (wn rfl) κ fun _ hK65=>AJ h378 rfl rfl rfl (xs:=[.tmp 114,.tmp 115]) rfl (cF func10) rfl (vs:=[π mx_x804,.agg (Af xs)]) rfl (args:=#[π mx_x804,.agg (Af xs)]) rfl (Ep (xs:=xs) (s50.pk [1,2,0,3,4,5,6,7,8] rfl) (hs917.2.1).m h2 hv1130.1) fun _ v25 w46 r25 h379=>?_
     obtain ⟨tax1131,tcx1132,rfl,s51⟩:=r25
     refine hK65 _ _ (s51.pk [2,0,3,4,5,6,7,8] rfl) fun hq16=>?_
     refine tv1 hq16 h379 6 rfl rfl (v:=.bool true) (fun w1 _=>Aw h379 rfl rfl rfl (cEq _ _ _ _ (show decide ((0:Int)=0)=true from rfl)) w1) fun _ h380=>?_
     refine tv1 hq16 h380 7 rfl rfl (v:=.bool true) (fun w1 _=>(Ad h380 rfl rfl) w1) fun _ h381=>?_
     refine tv hq16 h381 8 rfl rfl rfl rfl κ κ κ (fun _ _ _ _ h=>h) (wT h381 (E:=true) rfl rfl rfl) (v:=π vx_x805) (fun w1 _=>(Ad h381 rfl rfl) w1) fun _ h382=>?_
     refine tv hq16 h382 9 rfl rfl rfl rfl κ κ κ (fun _ _ _ _ h=>h) (wT h382 (E:=true) rfl rfl rfl) (v:=π vx_x805) (fun w1 _=>(Dz h382 rfl rfl) w1) fun _ h383=>?_
     refine tv hq16 h383 10 rfl rfl rfl rfl κ κ κ (fun _ _ _ _ h=>h) (wT h383 (E:=true) rfl rfl rfl) (v:=.pointer (some ⟨vx_x805,2,none⟩)) (fun w1 _=>(rfa h383 rfl rfl (fQ 2)) w1) fun _ h384=>?_
     refine tv hq16 h384 11 rfl rfl rfl rfl κ κ κ (fun _ _ _ _ h=>h) (wT h384 (E:=true) rfl rfl rfl) (v:=π mx_x804) (fun w1 hSw=>(rld h384 rfl rfl (ldB υ35 rfl (hSw.get 4 rfl:Blk _ _ _ _) rfl))) fun _ h385=>?_
     refine tv hq16 h385 13 rfl rfl rfl rfl κ κ κ (fun _ _ _ _ h=>h) (wT h385 (E:=true) rfl rfl rfl) (v:=.agg (Af xs)) (fun w1 hSw=>(rld h385 rfl rfl (Dp υ27 (hSw.get 5 rfl:Blk _ _ _ _) (AZ _ (by first | exact h2 | (rw [Am];exact h2) | exact An _))))) fun _ h386=>?_
     refine to_ 12 rfl (wT h386 (E:=true) rfl rfl rfl) κ fun _ hK66=>AJ h386 rfl rfl rfl (xs:=[.tmp 122]) rfl (cF func11) rfl (vs:=[π mx_x804]) rfl (args:=#[π mx_x804]) rfl (IR s51 (hv1130.2.2).m hv1130.2.1) fun _ v26 w47 r26 h387=>?_
     obtain ⟨rfl,s52⟩:=r26
     refine hK66 _ _ (s52.pk [2,0,3,4,5,6,7,8] rfl) fun hq17=>?_
     refine tv hq17 h387 14 rfl rfl rfl rfl κ κ κ (fun _ _ _ _ h=>h) (wT h387 (E:=true) rfl rfl rfl) (v:=.bool true) (fun w1 _=>Aw h387 rfl rfl rfl (IF _ _ (AZ _ (by first | exact h2 | (rw [Am];exact h2) | exact An _)) (AZ _ (by first | exact h2 | (rw [Am];exact h2) | exact An _)) (decide_eq_true rfl)) w1) fun _ h388=>?_
     refine tv1 hq17 h388 15 rfl rfl (v:=.bool true) (fun w1 _=>(Az h388 rfl rfl rfl) w1) fun _ h389=>?_
     refine tv1 hq17 h389 16 rfl rfl (v:=.bool true) (fun w1 _=>(Ad h389 rfl rfl) w1) fun _ h390=>?_
     refine to_ 17 rfl (wT h390 (E:=true) rfl rfl rfl) κ fun _ hK67=>AJ h390 rfl rfl rfl (xs:=[]) rfl (cF func12) rfl (vs:=[]) rfl (args:=#[]) rfl (El s52) fun _ v27 w48 r27 h391=>?_
     obtain ⟨rfl,s53⟩:=r27
     refine hK67 _ _ (s53.pk [2,0,3,4,5,6,7,8] rfl) fun hq18=>?_
     refine tv1 hq18 h391 18 rfl rfl (v:=.bool true) (fun w1 _=>(Az h391 rfl rfl rfl) w1) fun _ h392=>?_
     refine h392.sk [129,128,127,126,125,123,124,122,121,120,119,118,117,116,115,114,113,112,111,17,16,15,14,13,12,11,10,9,6,5,0,1,2,3] rfl fun h393=>?_
     refine tv1 hq18 h393 19 rfl rfl (v:=.bool true) (fun w1 _=>(AP h393 rfl rfl) w1) fun _ h394=>?_
     refine h394.sk [8,17,16,15,14,13,12,11,10,9,6,5,0,1,2,3] rfl fun h395=>?_
     refine wpAnyH_done κ ?_ _
     refine hK64 _ _ ?_
     refine wp_ret ?_
     try simp only [Exit.then,Exit.inBlock]
     refine Bg (v:=.bool true) (Cl h395 rfl rfl) h395.defs ?_
     exact ⟨congrArg Value.bool rfl,Sep.tail_un (xs:=[]) (s53.pk [8] rfl)⟩
   ·skip
    have hp6:¬ (1≤k):=(dF hc3)
    refine cl h4 rfl (cF func6) (DC s1) fun _ v28 w49 r28 h396=>?_
    obtain ⟨kk_x1184,ta_x1185,tc_x1186,M_x1187,mx_x1188,vx_x1189,pg_x1190,rp_x1191,rfl,s54,hvl1196⟩:=r28
    have hvl0:=hvl1196
    refine mv h396 rfl fun _ h397=>h397.sn [9,8,6,5,0,1,2,3] rfl fun h398=>hK4 _ _<|sq fun _ hK68=>sqr fun _ hK69=>mv h398 rfl fun _ h399=>bv h399 (z:=.bool false) rfl (Lu _ υ28 _ _ ⟨vx_x1189,0,none⟩) fun _ h400=>h400.sn [20,9,8,6,5,0,1,2,3] rfl fun h401=>hK69 _ _<|wcF h401 rfl rfl<|h401.sk [9,8,6,5,0,1,2,3] rfl fun h402=>?_
    refine wp_skip<|hK68 _ _<|sqr fun _ hK70=>sw1 h402 rfl (v:=.agg (Ah x).toArray) (rld h402 rfl rfl (ldA υ25 rfl (n:=15) κ (s54.get 4 rfl:Blk _ _ _ _) rfl rfl)) fun _ h403=>cl h403 rfl (cF func7) (GA (x:=x) s54) fun _ v29 w50 r29 h404=>?_
    obtain ⟨rfl,s55⟩:=r29
    refine mv h404 rfl fun _ h405=>sg h405 (wT h405 rfl rfl rfl) rfl rfl rfl (v:=ν i) (fun hC13=>Ad h405 rfl rfl _) fun _ h406=>sg h406 (wT h406 rfl rfl rfl) rfl rfl rfl (v:=.bool true) (fun hC14=>Aw h406 rfl (opg rfl hC14) rfl (cGe _ _ _ _ (decide_eq_true ω)) _) fun _ h407=>sv1 h407 rfl (v:=.bool ((AS x)&&true)) (BQ h407 rfl (E:=(AS x)) (F:=true) rfl rfl rfl (fun e=>if_pos (by rw [e];try rfl))) fun _ h408=>mv h408 rfl fun _ h409=>sg h409 (wT h409 rfl rfl rfl) rfl rfl rfl (v:=ν i) (fun hC15=>by have hq:=(And.intro (AV hC15).1 (AV hC15).2);exact Ad h409 rfl rfl _) fun _ h410=>sg h410 (wT h410 rfl rfl rfl) rfl rfl rfl (v:=.bool true) (fun hC16=>by have hq:=(And.intro (AV hC16).1 (AV hC16).2);exact Aw h410 rfl (opg rfl hC16) rfl (cLe _ _ _ _ (decide_eq_true ω)) _) fun _ h411=>sv1 h411 rfl (v:=.bool (((AS x)&&true)&&true)) (BQ h411 rfl (E:=((AS x)&&true)) (F:=true) rfl rfl rfl (fun e=>if_pos (by rw [e];try rfl))) fun _ h412=>mv h412 rfl fun _ h413=>h413.sk [10,9,8,6,5,0,1,2,3] rfl fun h414=>?_
    refine wpList_nil<|hK70 _ _<|sq fun _ hK71=>?_
    have hb1244:(((AS x)&&true)&&true)=true:=(by rw [(CW hc1).2.2];rfl);rw [hb1244] at h414
    refine wp_region_lit<|mvs 2 h414 rfl fun _ h415=>fav h415 rfl (fQ 2) fun _ h416=>ldv h416 s55 0 υ35 rfl rfl rfl rfl fun _ h417=>mv h417 rfl fun _ h418=>cl h418 rfl (cF func8) (AY (x:=(Al M_x1187 [] k)) (s55.pk [1,2,0,3,4,5] rfl) (hvl1196).m ⟨rfl,EG hvl1196 ω⟩) fun _ v30 w51 r30 h419=>?_
    obtain ⟨rfl,s56⟩:=r30
    refine mvs 3 h419 rfl fun _ h420=>so (wn rfl) fun _ hK72=>AB h420 rfl rfl rfl rfl (z:=[ν 0,ν 0,ν 0,ν 0,ν 0,ν 0,ν 0,ν 0,ν 0,ν 0,ν 0,ν 0,ν 0,ν 0,ν 0]) (fun _=>rfl) s56 fun _ g12 w52 h421 s57 _ _=>hK72 _ _ ?_
    refine stA h421 s57 0 rfl rfl rfl κ rfl rfl rfl rfl fun _ w53 h422 s58 _=>mv h422 rfl fun _ h423=>h423.sn [12,11,10,9,8,6,5,0,1,2,3] rfl fun h424=>hK71 _ _<|sq fun _ hK73=>?_
    have s59:=s58.drew
    refine wp_region_held_drew (S:=fun w'=>Sep w' [Ab g12 25 (Ah (Al M_x1187 [] k)),Ab mx_x1188 99 [π kk_x1184.tg],Ab vx_x1189 39 (prC (π pg_x1190) (π kk_x1184.tg) (π mx_x1188) (π rp_x1191)),Ab g1 27 ((xs).map Ac),Ab g4 25 (Ah x),Ch.many R]) κ (s59.pk [0,1,3,4,5,6] rfl) (fun hq19=>?_)
    refine tv1 hq19 h424 0 rfl rfl (v:=π vx_x1189) (fun w1 _=>(Ad h424 rfl rfl) w1) fun _ h425=>?_
    refine tv1 hq19 h425 1 rfl rfl (v:=π vx_x1189) (fun w1 _=>(Dz h425 rfl rfl) w1) fun _ h426=>?_
    refine tv1 hq19 h426 2 rfl rfl (v:=.pointer (some ⟨vx_x1189,2,none⟩)) (fun w1 _=>(rfa h426 rfl rfl (fQ 2)) w1) fun _ h427=>?_
    refine tv1 hq19 h427 3 rfl rfl (v:=π mx_x1188) (fun w1 hSw=>(rld h427 rfl rfl (ldB υ35 rfl (hSw.get 2 rfl:Blk _ _ _ _) rfl))) fun _ h428=>?_
    refine tv1 hq19 h428 4 rfl rfl (v:=ν i) (fun w1 _=>(Ad h428 rfl rfl) w1) fun _ h429=>?_
    refine tv1 hq19 h429 5 rfl rfl (v:=.agg (Ah x).toArray) (fun w1 hSw=>(rld h429 rfl rfl (ldA υ25 rfl (n:=15) κ (hSw.get 4 rfl:Blk _ _ _ _) rfl rfl))) fun _ h430=>?_
    have hs1301:=JI hvl1196 (CW hc1).1 (CW hc1).2.1 (CW hc1).2.2
    refine to_ 6 rfl (wn rfl) κ fun _ hK74=>AJ h430 rfl rfl rfl (xs:=[.tmp 43,.tmp 44,.tmp 45]) rfl (cF func9) rfl (vs:=[π mx_x1188,ν i,.agg (Ah x).toArray]) rfl (args:=#[π mx_x1188,ν i,.agg (Ah x).toArray]) rfl (FL (s59.pk [1,2,0,3,4,5,6] rfl) (hvl1196).m hs1301.1) fun _ v31 w54 r31 h431=>?_
    obtain ⟨tax1302,tcx1303,rfl,s60⟩:=r31
    refine hK74 _ _ (s60.pk [2,0,3,4,5,6] rfl) fun hq20=>?_
    refine tv1 hq20 h431 7 rfl rfl (v:=ν 0) (fun w1 _=>(AP h431 rfl rfl) w1) fun _ h432=>?_
    refine h432.sk [13,12,11,10,9,8,6,5,0,1,2,3] rfl fun h433=>?_
    refine wpAnyH_done κ ?_ _
    refine hK73 _ _ ?_
    refine sq fun _ hK75=>sqr fun _ hK76=>mv h433 rfl fun _ h434=>bv h434 (z:=.bool true) rfl (cEq _ _ _ _ (show decide ((0:Int)=0)=true from rfl)) fun _ h435=>mv h435 rfl fun _ h436=>bv h436 (z:=.bool false) rfl (DU _ υ4 _ _ _) fun _ h437=>mv h437 rfl fun _ h438=>sv h438 (wF h438 (E:=false) rfl rfl rfl) rfl rfl rfl (v:=ν 0) (Ad h438 rfl rfl) fun _ h439=>sv h439 (wF h439 (E:=false) rfl rfl rfl) rfl rfl rfl (v:=.bool false) (Aw h439 rfl rfl rfl (cNe _ _ _ _ (show decide ((0:Int)≠0)=false from rfl))) fun _ h440=>sv h440 (wF h440 (E:=false) rfl rfl rfl) rfl rfl rfl (v:=.bool false) (Ad h440 rfl rfl) fun _ h441=>su h441 (wT h441 (E:=false) rfl rfl rfl) rfl rfl rfl fun _ h442=>?_
    refine su h442 (wT h442 (E:=false) rfl rfl rfl) rfl rfl rfl fun _ h443=>sv h443 (wF h443 (E:=false) rfl rfl rfl) rfl rfl rfl (v:=.bool false) (Az h443 rfl rfl rfl) fun _ h444=>sv1 h444 rfl (v:=.bool false) (Az h444 rfl rfl rfl) fun _ h445=>mv h445 rfl fun _ h446=>sv h446 (wF h446 (E:=false) rfl rfl rfl) rfl rfl rfl (v:=ν 1) (Ad h446 rfl rfl) fun _ h447=>sv h447 (wF h447 (E:=false) rfl rfl rfl) rfl rfl rfl (v:=.bool false) (Aw h447 rfl rfl rfl (cEq _ _ _ _ (show decide ((1:Int)=0)=false from rfl))) fun _ h448=>sv h448 (wF h448 (E:=false) rfl rfl rfl) rfl rfl rfl (v:=ν k) (Ad h448 rfl rfl) fun _ h449=>sv h449 (wF h449 (E:=false) rfl rfl rfl) rfl rfl rfl (v:=.bool false) (Aw h449 rfl rfl rfl (cGe _ _ _ _ (decide_eq_false ω))) fun _ h450=>sv h450 (wF h450 (E:=false) rfl rfl rfl) rfl rfl rfl (v:=.bool false) (Ad h450 rfl rfl) fun _ h451=>su h451 (wT h451 (E:=false) rfl rfl rfl) rfl rfl rfl fun _ h452=>?_
    refine su h452 (wT h452 (E:=false) rfl rfl rfl) rfl rfl rfl fun _ h453=>sv h453 (wF h453 (E:=false) rfl rfl rfl) rfl rfl rfl (v:=.bool false) (Az h453 rfl rfl rfl) fun _ h454=>sv h454 (wF h454 (E:=false) rfl rfl rfl) rfl rfl rfl (v:=.bool false) (Aw h454 rfl rfl rfl (DU _ υ4 _ _ _)) fun _ h455=>sv1 h455 rfl (v:=.bool false) (Az h455 rfl rfl rfl) fun _ h456=>h456.sn [69,13,12,11,10,9,8,6,5,0,1,2,3] rfl fun h457=>hK76 _ _<|wcF h457 rfl rfl<|h457.sk [13,12,11,10,9,8,6,5,0,1,2,3] rfl fun h458=>wp_skip<|hK75 _ _<|sq fun _ hK77=>wp_region_lit ?_
    refine mvs 2 h458 rfl fun _ h459=>fav h459 rfl (fQ 2) fun _ h460=>ldv h460 s60 3 υ35 rfl rfl rfl rfl fun _ h461=>mv h461 rfl fun _ h462=>cl h462 rfl (cF func8) (AY (i:=i) s60 (hs1301.2.1).m (hs1301.2.2.1)) fun _ v32 w55 r32 h463=>?_
    obtain ⟨rfl,s61⟩:=r32
    refine mvs 3 h463 rfl fun _ h464=>so (wn rfl) fun _ hK78=>AB h464 rfl rfl rfl rfl (z:=[ν 0,ν 0,ν 0,ν 0,ν 0,ν 0,ν 0,ν 0,ν 0,ν 0,ν 0,ν 0,ν 0,ν 0,ν 0]) (fun _=>rfl) s61 fun _ g13 w56 h465 s62 _ _=>hK78 _ _ ?_
    refine stA h465 s62 0 rfl rfl rfl κ rfl rfl rfl rfl fun _ w57 h466 s63 _=>mv h466 rfl fun _ h467=>h467.sn [15,14,13,12,11,10,9,8,6,5,0,1,2,3] rfl fun h468=>hK77 _ _<|sq fun _ hK79=>sqr fun _ hK80=>mvs 2 h468 rfl fun _ h469=>sw h469 (wT h469 (E:=true) rfl rfl rfl) rfl rfl rfl (v:=.agg (Ah x).toArray) (rld h469 rfl rfl (ldA υ25 rfl (n:=15) κ (s63.get 0 rfl:Blk _ _ _ _) rfl rfl)) fun _ h470=>sw h470 (wT h470 (E:=true) rfl rfl rfl) rfl rfl rfl (v:=.agg (Ah x).toArray) (rld h470 rfl rfl (ldA υ25 rfl (n:=15) κ (s63.get 6 rfl:Blk _ _ _ _) rfl rfl)) fun _ h471=>sv h471 (wT h471 (E:=true) rfl rfl rfl) rfl rfl rfl (v:=.bool false) (Aw h471 rfl rfl rfl (Iy _ _ (i:=x) (j:=x) (by rw [decide_eq_true rfl];rfl))) fun _ h472=>sv h472 (wT h472 (E:=true) rfl rfl rfl) rfl rfl rfl (v:=.bool false) (Ad h472 rfl rfl) fun _ h473=>?_
    refine sv h473 (wF h473 (E:=false) rfl rfl rfl) rfl rfl rfl (v:=ν 0) (Ad h473 rfl rfl) fun _ h474=>sv h474 (wF h474 (E:=false) rfl rfl rfl) rfl rfl rfl (v:=.bool false) (Aw h474 rfl rfl rfl (cNe _ _ _ _ (show decide ((0:Int)≠0)=false from rfl))) fun _ h475=>sv h475 (wT h475 (E:=true) rfl rfl rfl) rfl rfl rfl (v:=.bool false) (Az h475 rfl rfl rfl) fun _ h476=>sv1 h476 rfl (v:=.bool false) (Az h476 rfl rfl rfl) fun _ h477=>h477.sn [88,15,14,13,12,11,10,9,8,6,5,0,1,2,3] rfl fun h478=>hK80 _ _<|wcF h478 rfl rfl<|h478.sk [15,14,13,12,11,10,9,8,6,5,0,1,2,3] rfl fun h479=>wp_skip<|hK79 _ _<|sq fun _ hK81=>wp_region_lit ?_
    refine mvs 2 h479 rfl fun _ h480=>fav h480 rfl (fQ 2) fun _ h481=>ldv h481 s63 4 υ35 rfl rfl rfl rfl fun _ h482=>mv h482 rfl fun _ h483=>cl h483 rfl (cF func8) (AY (x:=Al M_x1187 [] k) (s63.pk [1,2,0,3,4,5,6,7] rfl) (hs1301.2.1).m ⟨(hs1301.2.2.2 k ω).1,(hs1301.2.2.2 k ω).2.trans (EG hvl0 ω)⟩) fun _ v33 w58 r33 h484=>?_
    obtain ⟨rfl,s64⟩:=r33
    refine mvs 3 h484 rfl fun _ h485=>so (wn rfl) fun _ hK82=>AB h485 rfl rfl rfl rfl (z:=[ν 0,ν 0,ν 0,ν 0,ν 0,ν 0,ν 0,ν 0,ν 0,ν 0,ν 0,ν 0,ν 0,ν 0,ν 0]) (fun _=>rfl) s64 fun _ g14 w59 h486 s65 _ _=>hK82 _ _ ?_
    refine stA h486 s65 0 rfl rfl rfl κ rfl rfl rfl rfl fun _ w60 h487 s66 _=>mv h487 rfl fun _ h488=>h488.sn [17,16,15,14,13,12,11,10,9,8,6,5,0,1,2,3] rfl fun h489=>hK81 _ _<|sq fun _ hK83=>sqr fun _ hK84=>mvs 2 h489 rfl fun _ h490=>bv h490 (z:=.bool false) rfl (cNe _ _ _ _ (show decide ((1:Int)≠1)=false from rfl)) fun _ h491=>mv h491 rfl fun _ h492=>sv h492 (wF h492 (E:=false) rfl rfl rfl) rfl rfl rfl (v:=ν k) (Ad h492 rfl rfl) fun _ h493=>sv h493 (wF h493 (E:=false) rfl rfl rfl) rfl rfl rfl (v:=ν i) (Ad h493 rfl rfl) fun _ h494=>?_
    refine sv h494 (wF h494 (E:=false) rfl rfl rfl) rfl rfl rfl (v:=.bool true) (Aw h494 rfl rfl rfl (cNe _ _ _ _ (decide_eq_true ω))) fun _ h495=>sv h495 (wF h495 (E:=false) rfl rfl rfl) rfl rfl rfl (v:=.bool true) (Ad h495 rfl rfl) fun _ h496=>sw h496 (wT h496 (E:=true) rfl rfl rfl) rfl rfl rfl (v:=.agg (Ah (Al M_x1187 [] k)).toArray) (rld h496 rfl rfl (ldA υ25 rfl (n:=15) κ (s66.get 0 rfl:Blk _ _ _ _) rfl rfl)) fun _ h497=>sw h497 (wT h497 (E:=true) rfl rfl rfl) rfl rfl rfl (v:=.agg (Ah (Al M_x1187 [] k)).toArray) (rld h497 rfl rfl (ldA υ25 rfl (n:=15) κ (s66.get 4 rfl:Blk _ _ _ _) rfl rfl)) fun _ h498=>sv h498 (wT h498 (E:=true) rfl rfl rfl) rfl rfl rfl (v:=.bool false) (Aw h498 rfl rfl rfl (Iy _ _ (i:=(Al M_x1187 [] k)) (j:=(Al M_x1187 [] k)) (by rw [decide_eq_true rfl];rfl))) fun _ h499=>sv h499 (wF h499 (E:=false) rfl rfl rfl) rfl rfl rfl (v:=.bool false) (Az h499 rfl rfl rfl) fun _ h500=>sv1 h500 rfl (v:=.bool false) (Az h500 rfl rfl rfl) fun _ h501=>h501.sn [110,17,16,15,14,13,12,11,10,9,8,6,5,0,1,2,3] rfl fun h502=>hK84 _ _<|wcF h502 rfl rfl ?_
    refine h502.sk [17,16,15,14,13,12,11,10,9,8,6,5,0,1,2,3] rfl fun h503=>wp_skip<|hK83 _ _<|sq fun _ hK85=>?_
    have s67:=s66.drew
    refine wp_region_held_drew (S:=fun w'=>Sep w' [Ab g14 25 (Ah (Al M_x1187 [] k)),Ab mx_x1188 99 [π kk_x1184.tg],Ab g13 25 (Ah x),Ab g12 25 (Ah (Al M_x1187 [] k)),Ab vx_x1189 39 (prC (π pg_x1190) (π kk_x1184.tg) (π mx_x1188) (π rp_x1191)),Ab g1 27 ((xs).map Ac),Ab g4 25 (Ah x),Ch.many R]) κ (s67.pk [0,1,3,4,5,6,7,8] rfl) (fun hq21=>?_)
    refine tv1 hq21 h503 0 rfl rfl (v:=π vx_x1189) (fun w1 _=>(Ad h503 rfl rfl) w1) fun _ h504=>?_
    refine tv1 hq21 h504 1 rfl rfl (v:=π vx_x1189) (fun w1 _=>(Dz h504 rfl rfl) w1) fun _ h505=>?_
    refine tv1 hq21 h505 2 rfl rfl (v:=.pointer (some ⟨vx_x1189,2,none⟩)) (fun w1 _=>(rfa h505 rfl rfl (fQ 2)) w1) fun _ h506=>?_
    refine tv1 hq21 h506 3 rfl rfl (v:=π mx_x1188) (fun w1 hSw=>(rld h506 rfl rfl (ldB υ35 rfl (hSw.get 4 rfl:Blk _ _ _ _) rfl))) fun _ h507=>?_
    refine tv1 hq21 h507 4 rfl rfl (v:=.agg (Af xs)) (fun w1 hSw=>(rld h507 rfl rfl (Dp υ27 (hSw.get 5 rfl:Blk _ _ _ _) (AZ _ (by first | exact h2 | (rw [Am];exact h2) | exact An _))))) fun _ h508=>?_
    have hv1514:=Fj (xs:=xs) hs1301.2.1 h2 (by decide)
    refine to_ 5 rfl (wn rfl) κ fun _ hK86=>AJ h508 rfl rfl rfl (xs:=[.tmp 114,.tmp 115]) rfl (cF func10) rfl (vs:=[π mx_x1188,.agg (Af xs)]) rfl (args:=#[π mx_x1188,.agg (Af xs)]) rfl (Ep (xs:=xs) (s67.pk [1,2,0,3,4,5,6,7,8] rfl) (hs1301.2.1).m h2 hv1514.1) fun _ v34 w61 r34 h509=>?_
    obtain ⟨tax1515,tcx1516,rfl,s68⟩:=r34
    refine hK86 _ _ (s68.pk [2,0,3,4,5,6,7,8] rfl) fun hq22=>?_
    refine tv1 hq22 h509 6 rfl rfl (v:=.bool true) (fun w1 _=>Aw h509 rfl rfl rfl (cEq _ _ _ _ (show decide ((0:Int)=0)=true from rfl)) w1) fun _ h510=>?_
    refine tv1 hq22 h510 7 rfl rfl (v:=.bool true) (fun w1 _=>(Ad h510 rfl rfl) w1) fun _ h511=>?_
    refine tv hq22 h511 8 rfl rfl rfl rfl κ κ κ (fun _ _ _ _ h=>h) (wT h511 (E:=true) rfl rfl rfl) (v:=π vx_x1189) (fun w1 _=>(Ad h511 rfl rfl) w1) fun _ h512=>?_
    refine tv hq22 h512 9 rfl rfl rfl rfl κ κ κ (fun _ _ _ _ h=>h) (wT h512 (E:=true) rfl rfl rfl) (v:=π vx_x1189) (fun w1 _=>(Dz h512 rfl rfl) w1) fun _ h513=>?_
    refine tv hq22 h513 10 rfl rfl rfl rfl κ κ κ (fun _ _ _ _ h=>h) (wT h513 (E:=true) rfl rfl rfl) (v:=.pointer (some ⟨vx_x1189,2,none⟩)) (fun w1 _=>(rfa h513 rfl rfl (fQ 2)) w1) fun _ h514=>?_
    refine tv hq22 h514 11 rfl rfl rfl rfl κ κ κ (fun _ _ _ _ h=>h) (wT h514 (E:=true) rfl rfl rfl) (v:=π mx_x1188) (fun w1 hSw=>(rld h514 rfl rfl (ldB υ35 rfl (hSw.get 4 rfl:Blk _ _ _ _) rfl))) fun _ h515=>?_
    refine tv hq22 h515 13 rfl rfl rfl rfl κ κ κ (fun _ _ _ _ h=>h) (wT h515 (E:=true) rfl rfl rfl) (v:=.agg (Af xs)) (fun w1 hSw=>(rld h515 rfl rfl (Dp υ27 (hSw.get 5 rfl:Blk _ _ _ _) (AZ _ (by first | exact h2 | (rw [Am];exact h2) | exact An _))))) fun _ h516=>?_
    refine to_ 12 rfl (wT h516 (E:=true) rfl rfl rfl) κ fun _ hK87=>AJ h516 rfl rfl rfl (xs:=[.tmp 122]) rfl (cF func11) rfl (vs:=[π mx_x1188]) rfl (args:=#[π mx_x1188]) rfl (IR s68 (hv1514.2.2).m hv1514.2.1) fun _ v35 w62 r35 h517=>?_
    obtain ⟨rfl,s69⟩:=r35
    refine hK87 _ _ (s69.pk [2,0,3,4,5,6,7,8] rfl) fun hq23=>?_
    refine tv hq23 h517 14 rfl rfl rfl rfl κ κ κ (fun _ _ _ _ h=>h) (wT h517 (E:=true) rfl rfl rfl) (v:=.bool true) (fun w1 _=>Aw h517 rfl rfl rfl (IF _ _ (AZ _ (by first | exact h2 | (rw [Am];exact h2) | exact An _)) (AZ _ (by first | exact h2 | (rw [Am];exact h2) | exact An _)) (decide_eq_true rfl)) w1) fun _ h518=>?_
    refine tv1 hq23 h518 15 rfl rfl (v:=.bool true) (fun w1 _=>(Az h518 rfl rfl rfl) w1) fun _ h519=>?_
    refine tv1 hq23 h519 16 rfl rfl (v:=.bool true) (fun w1 _=>(Ad h519 rfl rfl) w1) fun _ h520=>?_
    refine to_ 17 rfl (wT h520 (E:=true) rfl rfl rfl) κ fun _ hK88=>AJ h520 rfl rfl rfl (xs:=[]) rfl (cF func12) rfl (vs:=[]) rfl (args:=#[]) rfl (El s69) fun _ v36 w63 r36 h521=>?_
    obtain ⟨rfl,s70⟩:=r36
    refine hK88 _ _ (s70.pk [2,0,3,4,5,6,7,8] rfl) fun hq24=>?_
    refine tv1 hq24 h521 18 rfl rfl (v:=.bool true) (fun w1 _=>(Az h521 rfl rfl rfl) w1) fun _ h522=>?_
    refine h522.sk [129,128,127,126,125,123,124,122,121,120,119,118,117,116,115,114,113,112,111,17,16,15,14,13,12,11,10,9,6,5,0,1,2,3] rfl fun h523=>?_
    refine tv1 hq24 h523 19 rfl rfl (v:=.bool true) (fun w1 _=>(AP h523 rfl rfl) w1) fun _ h524=>?_
    refine h524.sk [8,17,16,15,14,13,12,11,10,9,6,5,0,1,2,3] rfl fun h525=>?_
    refine wpAnyH_done κ ?_ _
    refine hK85 _ _ ?_
    refine wp_ret ?_
    try simp only [Exit.then,Exit.inBlock]
    refine Bg (v:=.bool true) (Cl h525 rfl rfl) h525.defs ?_
    exact ⟨congrArg Value.bool rfl,Sep.tail_un (xs:=[]) (s70.pk [8] rfl)⟩
 ·skip
  rcases bC (decide (1≤k)) with hc5 | hc5
  ·skip
   have hp7:1≤k:=(dT hc5)
   rcases bC (decide (k≤32)) with hc6 | hc6
   ·skip
    have hp8:k≤32:=(dT hc6)
    refine cl h4 rfl (cF func6) (DC s1) fun _ v37 w64 r37 h526=>?_
    obtain ⟨kk_x1572,ta_x1573,tc_x1574,M_x1575,mx_x1576,vx_x1577,pg_x1578,rp_x1579,rfl,s71,hvl1584⟩:=r37
    have hvl0:=hvl1584
    refine mv h526 rfl fun _ h527=>h527.sn [9,8,6,5,0,1,2,3] rfl fun h528=>hK4 _ _<|sq fun _ hK89=>sqr fun _ hK90=>mv h528 rfl fun _ h529=>bv h529 (z:=.bool false) rfl (Lu _ υ28 _ _ ⟨vx_x1577,0,none⟩) fun _ h530=>h530.sn [20,9,8,6,5,0,1,2,3] rfl fun h531=>hK90 _ _<|wcF h531 rfl rfl<|h531.sk [9,8,6,5,0,1,2,3] rfl fun h532=>?_
    refine wp_skip<|hK89 _ _<|sqr fun _ hK91=>sw1 h532 rfl (v:=.agg (Ah x).toArray) (rld h532 rfl rfl (ldA υ25 rfl (n:=15) κ (s71.get 4 rfl:Blk _ _ _ _) rfl rfl)) fun _ h533=>cl h533 rfl (cF func7) (GA (x:=x) s71) fun _ v38 w65 r38 h534=>?_
    obtain ⟨rfl,s72⟩:=r38
    refine mv h534 rfl fun _ h535=>sg h535 (wT h535 rfl rfl rfl) rfl rfl rfl (v:=ν i) (fun hC17=>Ad h535 rfl rfl _) fun _ h536=>sg h536 (wT h536 rfl rfl rfl) rfl rfl rfl (v:=.bool (decide (i≥1))) (fun hC18=>Aw h536 rfl (opg rfl hC18) rfl (cGe _ _ _ _ rfl) _) fun _ h537=>sv1 h537 rfl (v:=.bool ((AS x)&&(decide (i≥1)))) (BQ h537 rfl (E:=(AS x)) (F:=(decide (i≥1))) rfl rfl rfl (fun e=>if_pos (by rw [e];try rfl))) fun _ h538=>mv h538 rfl fun _ h539=>sg h539 (wT h539 rfl rfl rfl) rfl rfl rfl (v:=ν i) (fun hC19=>by have hq:=(And.intro (AV hC19).1 (dT (AV hC19).2));exact Ad h539 rfl rfl _) fun _ h540=>sg h540 (wT h540 rfl rfl rfl) rfl rfl rfl (v:=.bool (decide (i≤32))) (fun hC20=>by have hq:=(And.intro (AV hC20).1 (dT (AV hC20).2));exact Aw h540 rfl (opg rfl hC20) rfl (cLe _ _ _ _ rfl) _) fun _ h541=>sv1 h541 rfl (v:=.bool (((AS x)&&(decide (i≥1)))&&(decide (i≤32)))) (BQ h541 rfl (E:=((AS x)&&(decide (i≥1)))) (F:=(decide (i≤32))) rfl rfl rfl (fun e=>if_pos (by rw [e];try rfl))) fun _ h542=>mv h542 rfl fun _ h543=>h543.sk [10,9,8,6,5,0,1,2,3] rfl fun h544=>?_
    refine wpList_nil<|hK91 _ _<|sq fun _ hK92=>?_
    have hb1632:(((AS x)&&(decide (i≥1)))&&(decide (i≤32)))=false:=hc1;rw [hb1632] at h544
    refine wp_region_lit<|mvs 2 h544 rfl fun _ h545=>fav h545 rfl (fQ 2) fun _ h546=>ldv h546 s72 0 υ35 rfl rfl rfl rfl fun _ h547=>mv h547 rfl fun _ h548=>cl h548 rfl (cF func8) (AY (x:=(Al M_x1575 [] k)) (s72.pk [1,2,0,3,4,5] rfl) (hvl1584).m ⟨rfl,JH hvl1584 ω ω⟩) fun _ v39 w66 r39 h549=>?_
    obtain ⟨rfl,s73⟩:=r39
    refine mvs 3 h549 rfl fun _ h550=>so (wn rfl) fun _ hK93=>AB h550 rfl rfl rfl rfl (z:=[ν 0,ν 0,ν 0,ν 0,ν 0,ν 0,ν 0,ν 0,ν 0,ν 0,ν 0,ν 0,ν 0,ν 0,ν 0]) (fun _=>rfl) s73 fun _ g15 w67 h551 s74 _ _=>hK93 _ _ ?_
    refine stA h551 s74 0 rfl rfl rfl κ rfl rfl rfl rfl fun _ w68 h552 s75 _=>mv h552 rfl fun _ h553=>h553.sn [12,11,10,9,8,6,5,0,1,2,3] rfl fun h554=>hK92 _ _<|sq fun _ hK94=>?_
    have s76:=s75.drew
    refine wp_region_held_drew (S:=fun w'=>Sep w' [Ab g15 25 (Ah (Al M_x1575 [] k)),Ab mx_x1576 99 [π kk_x1572.tg],Ab vx_x1577 39 (prC (π pg_x1578) (π kk_x1572.tg) (π mx_x1576) (π rp_x1579)),Ab g1 27 ((xs).map Ac),Ab g4 25 (Ah x),Ch.many R]) κ (s76.pk [0,1,3,4,5,6] rfl) (fun hq25=>?_)
    refine tv1 hq25 h554 0 rfl rfl (v:=π vx_x1577) (fun w1 _=>(Ad h554 rfl rfl) w1) fun _ h555=>?_
    refine tv1 hq25 h555 1 rfl rfl (v:=π vx_x1577) (fun w1 _=>(Dz h555 rfl rfl) w1) fun _ h556=>?_
    refine tv1 hq25 h556 2 rfl rfl (v:=.pointer (some ⟨vx_x1577,2,none⟩)) (fun w1 _=>(rfa h556 rfl rfl (fQ 2)) w1) fun _ h557=>?_
    refine tv1 hq25 h557 3 rfl rfl (v:=π mx_x1576) (fun w1 hSw=>(rld h557 rfl rfl (ldB υ35 rfl (hSw.get 2 rfl:Blk _ _ _ _) rfl))) fun _ h558=>?_
    refine tv1 hq25 h558 4 rfl rfl (v:=ν i) (fun w1 _=>(Ad h558 rfl rfl) w1) fun _ h559=>?_
    refine tv1 hq25 h559 5 rfl rfl (v:=.agg (Ah x).toArray) (fun w1 hSw=>(rld h559 rfl rfl (ldA υ25 rfl (n:=15) κ (hSw.get 4 rfl:Blk _ _ _ _) rfl rfl))) fun _ h560=>?_
    have hs1689:=Pb (M:=M_x1575) (P:=[]) (i:=i) (x:=x) (Sb hc1)
    refine to_ 6 rfl (wn rfl) κ fun _ hK95=>AJ h560 rfl rfl rfl (xs:=[.tmp 43,.tmp 44,.tmp 45]) rfl (cF func9) rfl (vs:=[π mx_x1576,ν i,.agg (Ah x).toArray]) rfl (args:=#[π mx_x1576,ν i,.agg (Ah x).toArray]) rfl (Hx (s76.pk [1,2,0,3,4,5,6] rfl) (hvl1584).m hs1689) fun _ v40 w69 r40 h561=>?_
    obtain ⟨tax1690,tcx1691,rfl,s77⟩:=r40
    refine hK95 _ _ (s77.pk [2,0,3,4,5,6] rfl) fun hq26=>?_
    refine tv1 hq26 h561 7 rfl rfl (v:=ν 1) (fun w1 _=>(AP h561 rfl rfl) w1) fun _ h562=>?_
    refine h562.sk [13,12,11,10,9,8,6,5,0,1,2,3] rfl fun h563=>?_
    refine wpAnyH_done κ ?_ _
    refine hK94 _ _ ?_
    refine sq fun _ hK96=>sqr fun _ hK97=>mv h563 rfl fun _ h564=>bv h564 (z:=.bool false) rfl (cEq _ _ _ _ (show decide ((1:Int)=0)=false from rfl)) fun _ h565=>mv h565 rfl fun _ h566=>bv h566 (z:=.bool false) rfl (DU _ υ4 _ _ _) fun _ h567=>mv h567 rfl fun _ h568=>sv h568 (wF h568 (E:=false) rfl rfl rfl) rfl rfl rfl (v:=ν 1) (Ad h568 rfl rfl) fun _ h569=>sv h569 (wF h569 (E:=false) rfl rfl rfl) rfl rfl rfl (v:=.bool true) (Aw h569 rfl rfl rfl (cNe _ _ _ _ (show decide ((1:Int)≠0)=true from rfl))) fun _ h570=>sv h570 (wF h570 (E:=false) rfl rfl rfl) rfl rfl rfl (v:=.bool true) (Ad h570 rfl rfl) fun _ h571=>sv h571 (wT h571 (E:=true) rfl rfl rfl) rfl rfl rfl (v:=ν 1) (Ad h571 rfl rfl) fun _ h572=>?_
    refine sv h572 (wT h572 (E:=true) rfl rfl rfl) rfl rfl rfl (v:=.bool false) (Aw h572 rfl rfl rfl (cNe _ _ _ _ (show decide ((1:Int)≠1)=false from rfl))) fun _ h573=>sv h573 (wF h573 (E:=false) rfl rfl rfl) rfl rfl rfl (v:=.bool false) (Az h573 rfl rfl rfl) fun _ h574=>sv1 h574 rfl (v:=.bool false) (Az h574 rfl rfl rfl) fun _ h575=>mv h575 rfl fun _ h576=>sv h576 (wF h576 (E:=false) rfl rfl rfl) rfl rfl rfl (v:=ν 0) (Ad h576 rfl rfl) fun _ h577=>sv h577 (wF h577 (E:=false) rfl rfl rfl) rfl rfl rfl (v:=.bool true) (Aw h577 rfl rfl rfl (cEq _ _ _ _ (show decide ((0:Int)=0)=true from rfl))) fun _ h578=>sv h578 (wF h578 (E:=false) rfl rfl rfl) rfl rfl rfl (v:=ν k) (Ad h578 rfl rfl) fun _ h579=>sv h579 (wF h579 (E:=false) rfl rfl rfl) rfl rfl rfl (v:=.bool true) (Aw h579 rfl rfl rfl (cGe _ _ _ _ (decide_eq_true ω))) fun _ h580=>sv h580 (wF h580 (E:=false) rfl rfl rfl) rfl rfl rfl (v:=.bool true) (Ad h580 rfl rfl) fun _ h581=>sv h581 (wT h581 (E:=true) rfl rfl rfl) rfl rfl rfl (v:=ν k) (Ad h581 rfl rfl) fun _ h582=>?_
    refine sv h582 (wT h582 (E:=true) rfl rfl rfl) rfl rfl rfl (v:=.bool true) (Aw h582 rfl rfl rfl (cLe _ _ _ _ (decide_eq_true ω))) fun _ h583=>sv h583 (wF h583 (E:=false) rfl rfl rfl) rfl rfl rfl (v:=.bool true) (Az h583 rfl rfl rfl) fun _ h584=>sv h584 (wF h584 (E:=false) rfl rfl rfl) rfl rfl rfl (v:=.bool false) (Aw h584 rfl rfl rfl (DU _ υ4 _ _ _)) fun _ h585=>sv1 h585 rfl (v:=.bool false) (Az h585 rfl rfl rfl) fun _ h586=>h586.sn [69,13,12,11,10,9,8,6,5,0,1,2,3] rfl fun h587=>hK97 _ _<|wcF h587 rfl rfl<|h587.sk [13,12,11,10,9,8,6,5,0,1,2,3] rfl fun h588=>wp_skip<|hK96 _ _<|sq fun _ hK98=>wp_region_lit ?_
    refine mvs 2 h588 rfl fun _ h589=>fav h589 rfl (fQ 2) fun _ h590=>ldv h590 s77 3 υ35 rfl rfl rfl rfl fun _ h591=>mv h591 rfl fun _ h592=>cl h592 rfl (cF func8) (AY (x:=(Al M_x1575 [] i)) s77 (hvl1584).m ⟨rfl,rfl⟩) fun _ v41 w70 r41 h593=>?_
    obtain ⟨rfl,s78⟩:=r41
    refine mvs 3 h593 rfl fun _ h594=>so (wn rfl) fun _ hK99=>AB h594 rfl rfl rfl rfl (z:=[ν 0,ν 0,ν 0,ν 0,ν 0,ν 0,ν 0,ν 0,ν 0,ν 0,ν 0,ν 0,ν 0,ν 0,ν 0]) (fun _=>rfl) s78 fun _ g16 w71 h595 s79 _ _=>hK99 _ _ ?_
    refine stA h595 s79 0 rfl rfl rfl κ rfl rfl rfl rfl fun _ w72 h596 s80 _=>mv h596 rfl fun _ h597=>h597.sn [15,14,13,12,11,10,9,8,6,5,0,1,2,3] rfl fun h598=>hK98 _ _<|sq fun _ hK100=>sqr fun _ hK101=>mvs 2 h598 rfl fun _ h599=>su h599 (wT h599 (E:=false) rfl rfl rfl) rfl rfl rfl fun _ h600=>su h600 (wT h600 (E:=false) rfl rfl rfl) rfl rfl rfl fun _ h601=>su h601 (wT h601 (E:=false) rfl rfl rfl) rfl rfl rfl fun _ h602=>su h602 (wT h602 (E:=false) rfl rfl rfl) rfl rfl rfl fun _ h603=>?_
    refine su h603 (wgu h603 rfl rfl rfl) rfl rfl rfl fun _ h604=>su h604 (wgu h604 rfl rfl rfl) rfl rfl rfl fun _ h605=>su h605 (wT h605 (E:=false) rfl rfl rfl) rfl rfl rfl fun _ h606=>sv1 h606 rfl (v:=.bool false) (Az h606 rfl rfl rfl) fun _ h607=>h607.sn [88,15,14,13,12,11,10,9,8,6,5,0,1,2,3] rfl fun h608=>hK101 _ _<|wcF h608 rfl rfl<|h608.sk [15,14,13,12,11,10,9,8,6,5,0,1,2,3] rfl fun h609=>wp_skip<|hK100 _ _<|sq fun _ hK102=>wp_region_lit ?_
    refine mvs 2 h609 rfl fun _ h610=>fav h610 rfl (fQ 2) fun _ h611=>ldv h611 s80 4 υ35 rfl rfl rfl rfl fun _ h612=>mv h612 rfl fun _ h613=>cl h613 rfl (cF func8) (AY (x:=(Al M_x1575 [] k)) (s80.pk [1,2,0,3,4,5,6,7] rfl) (hvl1584).m ⟨rfl,JH hvl1584 ω ω⟩) fun _ v42 w73 r42 h614=>?_
    obtain ⟨rfl,s81⟩:=r42
    refine mvs 3 h614 rfl fun _ h615=>so (wn rfl) fun _ hK103=>AB h615 rfl rfl rfl rfl (z:=[ν 0,ν 0,ν 0,ν 0,ν 0,ν 0,ν 0,ν 0,ν 0,ν 0,ν 0,ν 0,ν 0,ν 0,ν 0]) (fun _=>rfl) s81 fun _ g17 w74 h616 s82 _ _=>hK103 _ _ ?_
    refine stA h616 s82 0 rfl rfl rfl κ rfl rfl rfl rfl fun _ w75 h617 s83 _=>mv h617 rfl fun _ h618=>h618.sn [17,16,15,14,13,12,11,10,9,8,6,5,0,1,2,3] rfl fun h619=>hK102 _ _<|sq fun _ hK104=>sqr fun _ hK105=>mvs 2 h619 rfl fun _ h620=>bv h620 (z:=.bool false) rfl (cNe _ _ _ _ (show decide ((0:Int)≠0)=false from rfl)) fun _ h621=>mv h621 rfl fun _ h622=>sv h622 (wF h622 (E:=false) rfl rfl rfl) rfl rfl rfl (v:=ν k) (Ad h622 rfl rfl) fun _ h623=>sv h623 (wF h623 (E:=false) rfl rfl rfl) rfl rfl rfl (v:=ν i) (Ad h623 rfl rfl) fun _ h624=>?_
    refine sv h624 (wF h624 (E:=false) rfl rfl rfl) rfl rfl rfl (v:=.bool (decide (k≠i))) (Aw h624 rfl rfl rfl (cNe _ _ _ _ rfl)) fun _ h625=>sv h625 (wF h625 (E:=false) rfl rfl rfl) rfl rfl rfl (v:=.bool (decide (k≠i))) (Ad h625 rfl rfl) fun _ h626=>sg h626 (wT h626 rfl rfl rfl) rfl rfl rfl (v:=.agg (Ah (Al M_x1575 [] k)).toArray) (fun hC21=>by have hq:=(dT hC21);exact (rld h626 rfl rfl (ldA υ25 rfl (n:=15) κ (s83.get 0 rfl:Blk _ _ _ _) rfl rfl))) fun _ h627=>sg h627 (wT h627 rfl rfl rfl) rfl rfl rfl (v:=.agg (Ah (Al M_x1575 [] k)).toArray) (fun hC22=>by have hq:=(dT hC22);exact (rld h627 rfl rfl (ldA υ25 rfl (n:=15) κ (s83.get 4 rfl:Blk _ _ _ _) rfl rfl))) fun _ h628=>sg h628 (wT h628 rfl rfl rfl) rfl rfl rfl (v:=.bool false) (fun hC23=>by have hq:=(dT hC23);exact Aw h628 rfl (opg rfl hC23) (opg rfl hC23) (Iy _ _ (i:=(Al M_x1575 [] k)) (j:=(Al M_x1575 [] k)) (by rw [decide_eq_true rfl];rfl)) _) fun _ h629=>sv h629 (wF h629 (E:=false) rfl rfl rfl) rfl rfl rfl (v:=.bool ((decide (k≠i))&&false)) (BQ h629 rfl (E:=(decide (k≠i))) (F:=false) rfl rfl rfl (fun e=>if_pos (by rw [e];try rfl))) fun _ h630=>sv1 h630 rfl (v:=.bool ((decide (k≠i))&&false)) (Az h630 rfl rfl rfl) fun _ h631=>h631.sn [110,17,16,15,14,13,12,11,10,9,8,6,5,0,1,2,3] rfl fun h632=>hK105 _ _<|wcF h632 rfl (Wx rfl) ?_
    refine h632.sk [17,16,15,14,13,12,11,10,9,8,6,5,0,1,2,3] rfl fun h633=>wp_skip<|hK104 _ _<|sq fun _ hK106=>?_
    have s84:=s83.drew
    refine wp_region_held_drew (S:=fun w'=>Sep w' [Ab g17 25 (Ah (Al M_x1575 [] k)),Ab mx_x1576 99 [π kk_x1572.tg],Ab g16 25 (Ah (Al M_x1575 [] i)),Ab g15 25 (Ah (Al M_x1575 [] k)),Ab vx_x1577 39 (prC (π pg_x1578) (π kk_x1572.tg) (π mx_x1576) (π rp_x1579)),Ab g1 27 ((xs).map Ac),Ab g4 25 (Ah x),Ch.many R]) κ (s84.pk [0,1,3,4,5,6,7,8] rfl) (fun hq27=>?_)
    refine tv1 hq27 h633 0 rfl rfl (v:=π vx_x1577) (fun w1 _=>(Ad h633 rfl rfl) w1) fun _ h634=>?_
    refine tv1 hq27 h634 1 rfl rfl (v:=π vx_x1577) (fun w1 _=>(Dz h634 rfl rfl) w1) fun _ h635=>?_
    refine tv1 hq27 h635 2 rfl rfl (v:=.pointer (some ⟨vx_x1577,2,none⟩)) (fun w1 _=>(rfa h635 rfl rfl (fQ 2)) w1) fun _ h636=>?_
    refine tv1 hq27 h636 3 rfl rfl (v:=π mx_x1576) (fun w1 hSw=>(rld h636 rfl rfl (ldB υ35 rfl (hSw.get 4 rfl:Blk _ _ _ _) rfl))) fun _ h637=>?_
    refine tv1 hq27 h637 4 rfl rfl (v:=.agg (Af xs)) (fun w1 hSw=>(rld h637 rfl rfl (Dp υ27 (hSw.get 5 rfl:Blk _ _ _ _) (AZ _ (by first | exact h2 | (rw [Am];exact h2) | exact An _))))) fun _ h638=>?_
    have hv1905:=Fj (xs:=xs) hvl1584 h2 (by decide)
    refine to_ 5 rfl (wn rfl) κ fun _ hK107=>AJ h638 rfl rfl rfl (xs:=[.tmp 114,.tmp 115]) rfl (cF func10) rfl (vs:=[π mx_x1576,.agg (Af xs)]) rfl (args:=#[π mx_x1576,.agg (Af xs)]) rfl (Ep (xs:=xs) (s84.pk [1,2,0,3,4,5,6,7,8] rfl) (hvl1584).m h2 hv1905.1) fun _ v43 w76 r43 h639=>?_
    obtain ⟨tax1906,tcx1907,rfl,s85⟩:=r43
    refine hK107 _ _ (s85.pk [2,0,3,4,5,6,7,8] rfl) fun hq28=>?_
    refine tv1 hq28 h639 6 rfl rfl (v:=.bool true) (fun w1 _=>Aw h639 rfl rfl rfl (cEq _ _ _ _ (show decide ((0:Int)=0)=true from rfl)) w1) fun _ h640=>?_
    refine tv1 hq28 h640 7 rfl rfl (v:=.bool true) (fun w1 _=>(Ad h640 rfl rfl) w1) fun _ h641=>?_
    refine tv hq28 h641 8 rfl rfl rfl rfl κ κ κ (fun _ _ _ _ h=>h) (wT h641 (E:=true) rfl rfl rfl) (v:=π vx_x1577) (fun w1 _=>(Ad h641 rfl rfl) w1) fun _ h642=>?_
    refine tv hq28 h642 9 rfl rfl rfl rfl κ κ κ (fun _ _ _ _ h=>h) (wT h642 (E:=true) rfl rfl rfl) (v:=π vx_x1577) (fun w1 _=>(Dz h642 rfl rfl) w1) fun _ h643=>?_
    refine tv hq28 h643 10 rfl rfl rfl rfl κ κ κ (fun _ _ _ _ h=>h) (wT h643 (E:=true) rfl rfl rfl) (v:=.pointer (some ⟨vx_x1577,2,none⟩)) (fun w1 _=>(rfa h643 rfl rfl (fQ 2)) w1) fun _ h644=>?_
    refine tv hq28 h644 11 rfl rfl rfl rfl κ κ κ (fun _ _ _ _ h=>h) (wT h644 (E:=true) rfl rfl rfl) (v:=π mx_x1576) (fun w1 hSw=>(rld h644 rfl rfl (ldB υ35 rfl (hSw.get 4 rfl:Blk _ _ _ _) rfl))) fun _ h645=>?_
    refine tv hq28 h645 13 rfl rfl rfl rfl κ κ κ (fun _ _ _ _ h=>h) (wT h645 (E:=true) rfl rfl rfl) (v:=.agg (Af xs)) (fun w1 hSw=>(rld h645 rfl rfl (Dp υ27 (hSw.get 5 rfl:Blk _ _ _ _) (AZ _ (by first | exact h2 | (rw [Am];exact h2) | exact An _))))) fun _ h646=>?_
    refine to_ 12 rfl (wT h646 (E:=true) rfl rfl rfl) κ fun _ hK108=>AJ h646 rfl rfl rfl (xs:=[.tmp 122]) rfl (cF func11) rfl (vs:=[π mx_x1576]) rfl (args:=#[π mx_x1576]) rfl (IR s85 (hv1905.2.2).m hv1905.2.1) fun _ v44 w77 r44 h647=>?_
    obtain ⟨rfl,s86⟩:=r44
    refine hK108 _ _ (s86.pk [2,0,3,4,5,6,7,8] rfl) fun hq29=>?_
    refine tv hq29 h647 14 rfl rfl rfl rfl κ κ κ (fun _ _ _ _ h=>h) (wT h647 (E:=true) rfl rfl rfl) (v:=.bool true) (fun w1 _=>Aw h647 rfl rfl rfl (IF _ _ (AZ _ (by first | exact h2 | (rw [Am];exact h2) | exact An _)) (AZ _ (by first | exact h2 | (rw [Am];exact h2) | exact An _)) (decide_eq_true rfl)) w1) fun _ h648=>?_
    refine tv1 hq29 h648 15 rfl rfl (v:=.bool true) (fun w1 _=>(Az h648 rfl rfl rfl) w1) fun _ h649=>?_
    refine tv1 hq29 h649 16 rfl rfl (v:=.bool true) (fun w1 _=>(Ad h649 rfl rfl) w1) fun _ h650=>?_
    refine to_ 17 rfl (wT h650 (E:=true) rfl rfl rfl) κ fun _ hK109=>AJ h650 rfl rfl rfl (xs:=[]) rfl (cF func12) rfl (vs:=[]) rfl (args:=#[]) rfl (El s86) fun _ v45 w78 r45 h651=>?_
    obtain ⟨rfl,s87⟩:=r45
    refine hK109 _ _ (s87.pk [2,0,3,4,5,6,7,8] rfl) fun hq30=>?_
    refine tv1 hq30 h651 18 rfl rfl (v:=.bool true) (fun w1 _=>(Az h651 rfl rfl rfl) w1) fun _ h652=>?_
    refine h652.sk [129,128,127,126,125,123,124,122,121,120,119,118,117,116,115,114,113,112,111,17,16,15,14,13,12,11,10,9,6,5,0,1,2,3] rfl fun h653=>?_
    refine tv1 hq30 h653 19 rfl rfl (v:=.bool true) (fun w1 _=>(AP h653 rfl rfl) w1) fun _ h654=>?_
    refine h654.sk [8,17,16,15,14,13,12,11,10,9,6,5,0,1,2,3] rfl fun h655=>?_
    refine wpAnyH_done κ ?_ _
    refine hK106 _ _ ?_
    refine wp_ret ?_
    try simp only [Exit.then,Exit.inBlock]
    refine Bg (v:=.bool true) (Cl h655 rfl rfl) h655.defs ?_
    exact ⟨congrArg Value.bool rfl,Sep.tail_un (xs:=[]) (s87.pk [8] rfl)⟩
   ·skip
    have hp9:¬ (k≤32):=(dF hc6)
    refine cl h4 rfl (cF func6) (DC s1) fun _ v46 w79 r46 h656=>?_
    obtain ⟨kk_x1959,ta_x1960,tc_x1961,M_x1962,mx_x1963,vx_x1964,pg_x1965,rp_x1966,rfl,s88,hvl1971⟩:=r46
    have hvl0:=hvl1971
    refine mv h656 rfl fun _ h657=>h657.sn [9,8,6,5,0,1,2,3] rfl fun h658=>hK4 _ _<|sq fun _ hK110=>sqr fun _ hK111=>mv h658 rfl fun _ h659=>bv h659 (z:=.bool false) rfl (Lu _ υ28 _ _ ⟨vx_x1964,0,none⟩) fun _ h660=>h660.sn [20,9,8,6,5,0,1,2,3] rfl fun h661=>hK111 _ _<|wcF h661 rfl rfl<|h661.sk [9,8,6,5,0,1,2,3] rfl fun h662=>?_
    refine wp_skip<|hK110 _ _<|sqr fun _ hK112=>sw1 h662 rfl (v:=.agg (Ah x).toArray) (rld h662 rfl rfl (ldA υ25 rfl (n:=15) κ (s88.get 4 rfl:Blk _ _ _ _) rfl rfl)) fun _ h663=>cl h663 rfl (cF func7) (GA (x:=x) s88) fun _ v47 w80 r47 h664=>?_
    obtain ⟨rfl,s89⟩:=r47
    refine mv h664 rfl fun _ h665=>sg h665 (wT h665 rfl rfl rfl) rfl rfl rfl (v:=ν i) (fun hC24=>Ad h665 rfl rfl _) fun _ h666=>sg h666 (wT h666 rfl rfl rfl) rfl rfl rfl (v:=.bool (decide (i≥1))) (fun hC25=>Aw h666 rfl (opg rfl hC25) rfl (cGe _ _ _ _ rfl) _) fun _ h667=>sv1 h667 rfl (v:=.bool ((AS x)&&(decide (i≥1)))) (BQ h667 rfl (E:=(AS x)) (F:=(decide (i≥1))) rfl rfl rfl (fun e=>if_pos (by rw [e];try rfl))) fun _ h668=>mv h668 rfl fun _ h669=>sg h669 (wT h669 rfl rfl rfl) rfl rfl rfl (v:=ν i) (fun hC26=>by have hq:=(And.intro (AV hC26).1 (dT (AV hC26).2));exact Ad h669 rfl rfl _) fun _ h670=>sg h670 (wT h670 rfl rfl rfl) rfl rfl rfl (v:=.bool (decide (i≤32))) (fun hC27=>by have hq:=(And.intro (AV hC27).1 (dT (AV hC27).2));exact Aw h670 rfl (opg rfl hC27) rfl (cLe _ _ _ _ rfl) _) fun _ h671=>sv1 h671 rfl (v:=.bool (((AS x)&&(decide (i≥1)))&&(decide (i≤32)))) (BQ h671 rfl (E:=((AS x)&&(decide (i≥1)))) (F:=(decide (i≤32))) rfl rfl rfl (fun e=>if_pos (by rw [e];try rfl))) fun _ h672=>mv h672 rfl fun _ h673=>h673.sk [10,9,8,6,5,0,1,2,3] rfl fun h674=>?_
    refine wpList_nil<|hK112 _ _<|sq fun _ hK113=>?_
    have hb2019:(((AS x)&&(decide (i≥1)))&&(decide (i≤32)))=false:=hc1;rw [hb2019] at h674
    refine wp_region_lit<|mvs 2 h674 rfl fun _ h675=>fav h675 rfl (fQ 2) fun _ h676=>ldv h676 s89 0 υ35 rfl rfl rfl rfl fun _ h677=>mv h677 rfl fun _ h678=>cl h678 rfl (cF func8) (AY (x:=(Al M_x1962 [] k)) (s89.pk [1,2,0,3,4,5] rfl) (hvl1971).m ⟨rfl,EG hvl1971 ω⟩) fun _ v48 w81 r48 h679=>?_
    obtain ⟨rfl,s90⟩:=r48
    refine mvs 3 h679 rfl fun _ h680=>so (wn rfl) fun _ hK114=>AB h680 rfl rfl rfl rfl (z:=[ν 0,ν 0,ν 0,ν 0,ν 0,ν 0,ν 0,ν 0,ν 0,ν 0,ν 0,ν 0,ν 0,ν 0,ν 0]) (fun _=>rfl) s90 fun _ g18 w82 h681 s91 _ _=>hK114 _ _ ?_
    refine stA h681 s91 0 rfl rfl rfl κ rfl rfl rfl rfl fun _ w83 h682 s92 _=>mv h682 rfl fun _ h683=>h683.sn [12,11,10,9,8,6,5,0,1,2,3] rfl fun h684=>hK113 _ _<|sq fun _ hK115=>?_
    have s93:=s92.drew
    refine wp_region_held_drew (S:=fun w'=>Sep w' [Ab g18 25 (Ah (Al M_x1962 [] k)),Ab mx_x1963 99 [π kk_x1959.tg],Ab vx_x1964 39 (prC (π pg_x1965) (π kk_x1959.tg) (π mx_x1963) (π rp_x1966)),Ab g1 27 ((xs).map Ac),Ab g4 25 (Ah x),Ch.many R]) κ (s93.pk [0,1,3,4,5,6] rfl) (fun hq31=>?_)
    refine tv1 hq31 h684 0 rfl rfl (v:=π vx_x1964) (fun w1 _=>(Ad h684 rfl rfl) w1) fun _ h685=>?_
    refine tv1 hq31 h685 1 rfl rfl (v:=π vx_x1964) (fun w1 _=>(Dz h685 rfl rfl) w1) fun _ h686=>?_
    refine tv1 hq31 h686 2 rfl rfl (v:=.pointer (some ⟨vx_x1964,2,none⟩)) (fun w1 _=>(rfa h686 rfl rfl (fQ 2)) w1) fun _ h687=>?_
    refine tv1 hq31 h687 3 rfl rfl (v:=π mx_x1963) (fun w1 hSw=>(rld h687 rfl rfl (ldB υ35 rfl (hSw.get 2 rfl:Blk _ _ _ _) rfl))) fun _ h688=>?_
    refine tv1 hq31 h688 4 rfl rfl (v:=ν i) (fun w1 _=>(Ad h688 rfl rfl) w1) fun _ h689=>?_
    refine tv1 hq31 h689 5 rfl rfl (v:=.agg (Ah x).toArray) (fun w1 hSw=>(rld h689 rfl rfl (ldA υ25 rfl (n:=15) κ (hSw.get 4 rfl:Blk _ _ _ _) rfl rfl))) fun _ h690=>?_
    have hs2076:=Pb (M:=M_x1962) (P:=[]) (i:=i) (x:=x) (Sb hc1)
    refine to_ 6 rfl (wn rfl) κ fun _ hK116=>AJ h690 rfl rfl rfl (xs:=[.tmp 43,.tmp 44,.tmp 45]) rfl (cF func9) rfl (vs:=[π mx_x1963,ν i,.agg (Ah x).toArray]) rfl (args:=#[π mx_x1963,ν i,.agg (Ah x).toArray]) rfl (Hx (s93.pk [1,2,0,3,4,5,6] rfl) (hvl1971).m hs2076) fun _ v49 w84 r49 h691=>?_
    obtain ⟨tax2077,tcx2078,rfl,s94⟩:=r49
    refine hK116 _ _ (s94.pk [2,0,3,4,5,6] rfl) fun hq32=>?_
    refine tv1 hq32 h691 7 rfl rfl (v:=ν 1) (fun w1 _=>(AP h691 rfl rfl) w1) fun _ h692=>?_
    refine h692.sk [13,12,11,10,9,8,6,5,0,1,2,3] rfl fun h693=>?_
    refine wpAnyH_done κ ?_ _
    refine hK115 _ _ ?_
    refine sq fun _ hK117=>sqr fun _ hK118=>mv h693 rfl fun _ h694=>bv h694 (z:=.bool false) rfl (cEq _ _ _ _ (show decide ((1:Int)=0)=false from rfl)) fun _ h695=>mv h695 rfl fun _ h696=>bv h696 (z:=.bool false) rfl (DU _ υ4 _ _ _) fun _ h697=>mv h697 rfl fun _ h698=>sv h698 (wF h698 (E:=false) rfl rfl rfl) rfl rfl rfl (v:=ν 1) (Ad h698 rfl rfl) fun _ h699=>sv h699 (wF h699 (E:=false) rfl rfl rfl) rfl rfl rfl (v:=.bool true) (Aw h699 rfl rfl rfl (cNe _ _ _ _ (show decide ((1:Int)≠0)=true from rfl))) fun _ h700=>sv h700 (wF h700 (E:=false) rfl rfl rfl) rfl rfl rfl (v:=.bool true) (Ad h700 rfl rfl) fun _ h701=>sv h701 (wT h701 (E:=true) rfl rfl rfl) rfl rfl rfl (v:=ν 1) (Ad h701 rfl rfl) fun _ h702=>?_
    refine sv h702 (wT h702 (E:=true) rfl rfl rfl) rfl rfl rfl (v:=.bool false) (Aw h702 rfl rfl rfl (cNe _ _ _ _ (show decide ((1:Int)≠1)=false from rfl))) fun _ h703=>sv h703 (wF h703 (E:=false) rfl rfl rfl) rfl rfl rfl (v:=.bool false) (Az h703 rfl rfl rfl) fun _ h704=>sv1 h704 rfl (v:=.bool false) (Az h704 rfl rfl rfl) fun _ h705=>mv h705 rfl fun _ h706=>sv h706 (wF h706 (E:=false) rfl rfl rfl) rfl rfl rfl (v:=ν 1) (Ad h706 rfl rfl) fun _ h707=>sv h707 (wF h707 (E:=false) rfl rfl rfl) rfl rfl rfl (v:=.bool false) (Aw h707 rfl rfl rfl (cEq _ _ _ _ (show decide ((1:Int)=0)=false from rfl))) fun _ h708=>sv h708 (wF h708 (E:=false) rfl rfl rfl) rfl rfl rfl (v:=ν k) (Ad h708 rfl rfl) fun _ h709=>sv h709 (wF h709 (E:=false) rfl rfl rfl) rfl rfl rfl (v:=.bool true) (Aw h709 rfl rfl rfl (cGe _ _ _ _ (decide_eq_true ω))) fun _ h710=>sv h710 (wF h710 (E:=false) rfl rfl rfl) rfl rfl rfl (v:=.bool true) (Ad h710 rfl rfl) fun _ h711=>sv h711 (wT h711 (E:=true) rfl rfl rfl) rfl rfl rfl (v:=ν k) (Ad h711 rfl rfl) fun _ h712=>?_
    refine sv h712 (wT h712 (E:=true) rfl rfl rfl) rfl rfl rfl (v:=.bool false) (Aw h712 rfl rfl rfl (cLe _ _ _ _ (decide_eq_false ω))) fun _ h713=>sv h713 (wF h713 (E:=false) rfl rfl rfl) rfl rfl rfl (v:=.bool false) (Az h713 rfl rfl rfl) fun _ h714=>sv h714 (wF h714 (E:=false) rfl rfl rfl) rfl rfl rfl (v:=.bool false) (Aw h714 rfl rfl rfl (DU _ υ4 _ _ _)) fun _ h715=>sv1 h715 rfl (v:=.bool false) (Az h715 rfl rfl rfl) fun _ h716=>h716.sn [69,13,12,11,10,9,8,6,5,0,1,2,3] rfl fun h717=>hK118 _ _<|wcF h717 rfl rfl<|h717.sk [13,12,11,10,9,8,6,5,0,1,2,3] rfl fun h718=>wp_skip<|hK117 _ _<|sq fun _ hK119=>wp_region_lit ?_
    refine mvs 2 h718 rfl fun _ h719=>fav h719 rfl (fQ 2) fun _ h720=>ldv h720 s94 3 υ35 rfl rfl rfl rfl fun _ h721=>mv h721 rfl fun _ h722=>cl h722 rfl (cF func8) (AY (x:=(Al M_x1962 [] i)) s94 (hvl1971).m ⟨rfl,rfl⟩) fun _ v50 w85 r50 h723=>?_
    obtain ⟨rfl,s95⟩:=r50
    refine mvs 3 h723 rfl fun _ h724=>so (wn rfl) fun _ hK120=>AB h724 rfl rfl rfl rfl (z:=[ν 0,ν 0,ν 0,ν 0,ν 0,ν 0,ν 0,ν 0,ν 0,ν 0,ν 0,ν 0,ν 0,ν 0,ν 0]) (fun _=>rfl) s95 fun _ g19 w86 h725 s96 _ _=>hK120 _ _ ?_
    refine stA h725 s96 0 rfl rfl rfl κ rfl rfl rfl rfl fun _ w87 h726 s97 _=>mv h726 rfl fun _ h727=>h727.sn [15,14,13,12,11,10,9,8,6,5,0,1,2,3] rfl fun h728=>hK119 _ _<|sq fun _ hK121=>sqr fun _ hK122=>mvs 2 h728 rfl fun _ h729=>su h729 (wT h729 (E:=false) rfl rfl rfl) rfl rfl rfl fun _ h730=>su h730 (wT h730 (E:=false) rfl rfl rfl) rfl rfl rfl fun _ h731=>su h731 (wT h731 (E:=false) rfl rfl rfl) rfl rfl rfl fun _ h732=>su h732 (wT h732 (E:=false) rfl rfl rfl) rfl rfl rfl fun _ h733=>?_
    refine su h733 (wgu h733 rfl rfl rfl) rfl rfl rfl fun _ h734=>su h734 (wgu h734 rfl rfl rfl) rfl rfl rfl fun _ h735=>su h735 (wT h735 (E:=false) rfl rfl rfl) rfl rfl rfl fun _ h736=>sv1 h736 rfl (v:=.bool false) (Az h736 rfl rfl rfl) fun _ h737=>h737.sn [88,15,14,13,12,11,10,9,8,6,5,0,1,2,3] rfl fun h738=>hK122 _ _<|wcF h738 rfl rfl<|h738.sk [15,14,13,12,11,10,9,8,6,5,0,1,2,3] rfl fun h739=>wp_skip<|hK121 _ _<|sq fun _ hK123=>wp_region_lit ?_
    refine mvs 2 h739 rfl fun _ h740=>fav h740 rfl (fQ 2) fun _ h741=>ldv h741 s97 4 υ35 rfl rfl rfl rfl fun _ h742=>mv h742 rfl fun _ h743=>cl h743 rfl (cF func8) (AY (x:=(Al M_x1962 [] k)) (s97.pk [1,2,0,3,4,5,6,7] rfl) (hvl1971).m ⟨rfl,EG hvl1971 ω⟩) fun _ v51 w88 r51 h744=>?_
    obtain ⟨rfl,s98⟩:=r51
    refine mvs 3 h744 rfl fun _ h745=>so (wn rfl) fun _ hK124=>AB h745 rfl rfl rfl rfl (z:=[ν 0,ν 0,ν 0,ν 0,ν 0,ν 0,ν 0,ν 0,ν 0,ν 0,ν 0,ν 0,ν 0,ν 0,ν 0]) (fun _=>rfl) s98 fun _ g20 w89 h746 s99 _ _=>hK124 _ _ ?_
    refine stA h746 s99 0 rfl rfl rfl κ rfl rfl rfl rfl fun _ w90 h747 s100 _=>mv h747 rfl fun _ h748=>h748.sn [17,16,15,14,13,12,11,10,9,8,6,5,0,1,2,3] rfl fun h749=>hK123 _ _<|sq fun _ hK125=>sqr fun _ hK126=>mvs 2 h749 rfl fun _ h750=>bv h750 (z:=.bool false) rfl (cNe _ _ _ _ (show decide ((1:Int)≠1)=false from rfl)) fun _ h751=>mv h751 rfl fun _ h752=>sv h752 (wF h752 (E:=false) rfl rfl rfl) rfl rfl rfl (v:=ν k) (Ad h752 rfl rfl) fun _ h753=>sv h753 (wF h753 (E:=false) rfl rfl rfl) rfl rfl rfl (v:=ν i) (Ad h753 rfl rfl) fun _ h754=>?_
    refine sv h754 (wF h754 (E:=false) rfl rfl rfl) rfl rfl rfl (v:=.bool (decide (k≠i))) (Aw h754 rfl rfl rfl (cNe _ _ _ _ rfl)) fun _ h755=>sv h755 (wF h755 (E:=false) rfl rfl rfl) rfl rfl rfl (v:=.bool (decide (k≠i))) (Ad h755 rfl rfl) fun _ h756=>sg h756 (wT h756 rfl rfl rfl) rfl rfl rfl (v:=.agg (Ah (Al M_x1962 [] k)).toArray) (fun hC28=>by have hq:=(dT hC28);exact (rld h756 rfl rfl (ldA υ25 rfl (n:=15) κ (s100.get 0 rfl:Blk _ _ _ _) rfl rfl))) fun _ h757=>sg h757 (wT h757 rfl rfl rfl) rfl rfl rfl (v:=.agg (Ah (Al M_x1962 [] k)).toArray) (fun hC29=>by have hq:=(dT hC29);exact (rld h757 rfl rfl (ldA υ25 rfl (n:=15) κ (s100.get 4 rfl:Blk _ _ _ _) rfl rfl))) fun _ h758=>sg h758 (wT h758 rfl rfl rfl) rfl rfl rfl (v:=.bool false) (fun hC30=>by have hq:=(dT hC30);exact Aw h758 rfl (opg rfl hC30) (opg rfl hC30) (Iy _ _ (i:=(Al M_x1962 [] k)) (j:=(Al M_x1962 [] k)) (by rw [decide_eq_true rfl];rfl)) _) fun _ h759=>sv h759 (wF h759 (E:=false) rfl rfl rfl) rfl rfl rfl (v:=.bool ((decide (k≠i))&&false)) (BQ h759 rfl (E:=(decide (k≠i))) (F:=false) rfl rfl rfl (fun e=>if_pos (by rw [e];try rfl))) fun _ h760=>sv1 h760 rfl (v:=.bool ((decide (k≠i))&&false)) (Az h760 rfl rfl rfl) fun _ h761=>h761.sn [110,17,16,15,14,13,12,11,10,9,8,6,5,0,1,2,3] rfl fun h762=>hK126 _ _<|wcF h762 rfl (Wx rfl) ?_
    refine h762.sk [17,16,15,14,13,12,11,10,9,8,6,5,0,1,2,3] rfl fun h763=>wp_skip<|hK125 _ _<|sq fun _ hK127=>?_
    have s101:=s100.drew
    refine wp_region_held_drew (S:=fun w'=>Sep w' [Ab g20 25 (Ah (Al M_x1962 [] k)),Ab mx_x1963 99 [π kk_x1959.tg],Ab g19 25 (Ah (Al M_x1962 [] i)),Ab g18 25 (Ah (Al M_x1962 [] k)),Ab vx_x1964 39 (prC (π pg_x1965) (π kk_x1959.tg) (π mx_x1963) (π rp_x1966)),Ab g1 27 ((xs).map Ac),Ab g4 25 (Ah x),Ch.many R]) κ (s101.pk [0,1,3,4,5,6,7,8] rfl) (fun hq33=>?_)
    refine tv1 hq33 h763 0 rfl rfl (v:=π vx_x1964) (fun w1 _=>(Ad h763 rfl rfl) w1) fun _ h764=>?_
    refine tv1 hq33 h764 1 rfl rfl (v:=π vx_x1964) (fun w1 _=>(Dz h764 rfl rfl) w1) fun _ h765=>?_
    refine tv1 hq33 h765 2 rfl rfl (v:=.pointer (some ⟨vx_x1964,2,none⟩)) (fun w1 _=>(rfa h765 rfl rfl (fQ 2)) w1) fun _ h766=>?_
    refine tv1 hq33 h766 3 rfl rfl (v:=π mx_x1963) (fun w1 hSw=>(rld h766 rfl rfl (ldB υ35 rfl (hSw.get 4 rfl:Blk _ _ _ _) rfl))) fun _ h767=>?_
    refine tv1 hq33 h767 4 rfl rfl (v:=.agg (Af xs)) (fun w1 hSw=>(rld h767 rfl rfl (Dp υ27 (hSw.get 5 rfl:Blk _ _ _ _) (AZ _ (by first | exact h2 | (rw [Am];exact h2) | exact An _))))) fun _ h768=>?_
    have hv2292:=Fj (xs:=xs) hvl1971 h2 (by decide)
    refine to_ 5 rfl (wn rfl) κ fun _ hK128=>AJ h768 rfl rfl rfl (xs:=[.tmp 114,.tmp 115]) rfl (cF func10) rfl (vs:=[π mx_x1963,.agg (Af xs)]) rfl (args:=#[π mx_x1963,.agg (Af xs)]) rfl (Ep (xs:=xs) (s101.pk [1,2,0,3,4,5,6,7,8] rfl) (hvl1971).m h2 hv2292.1) fun _ v52 w91 r52 h769=>?_
    obtain ⟨tax2293,tcx2294,rfl,s102⟩:=r52
    refine hK128 _ _ (s102.pk [2,0,3,4,5,6,7,8] rfl) fun hq34=>?_
    refine tv1 hq34 h769 6 rfl rfl (v:=.bool true) (fun w1 _=>Aw h769 rfl rfl rfl (cEq _ _ _ _ (show decide ((0:Int)=0)=true from rfl)) w1) fun _ h770=>?_
    refine tv1 hq34 h770 7 rfl rfl (v:=.bool true) (fun w1 _=>(Ad h770 rfl rfl) w1) fun _ h771=>?_
    refine tv hq34 h771 8 rfl rfl rfl rfl κ κ κ (fun _ _ _ _ h=>h) (wT h771 (E:=true) rfl rfl rfl) (v:=π vx_x1964) (fun w1 _=>(Ad h771 rfl rfl) w1) fun _ h772=>?_
    refine tv hq34 h772 9 rfl rfl rfl rfl κ κ κ (fun _ _ _ _ h=>h) (wT h772 (E:=true) rfl rfl rfl) (v:=π vx_x1964) (fun w1 _=>(Dz h772 rfl rfl) w1) fun _ h773=>?_
    refine tv hq34 h773 10 rfl rfl rfl rfl κ κ κ (fun _ _ _ _ h=>h) (wT h773 (E:=true) rfl rfl rfl) (v:=.pointer (some ⟨vx_x1964,2,none⟩)) (fun w1 _=>(rfa h773 rfl rfl (fQ 2)) w1) fun _ h774=>?_
    refine tv hq34 h774 11 rfl rfl rfl rfl κ κ κ (fun _ _ _ _ h=>h) (wT h774 (E:=true) rfl rfl rfl) (v:=π mx_x1963) (fun w1 hSw=>(rld h774 rfl rfl (ldB υ35 rfl (hSw.get 4 rfl:Blk _ _ _ _) rfl))) fun _ h775=>?_
    refine tv hq34 h775 13 rfl rfl rfl rfl κ κ κ (fun _ _ _ _ h=>h) (wT h775 (E:=true) rfl rfl rfl) (v:=.agg (Af xs)) (fun w1 hSw=>(rld h775 rfl rfl (Dp υ27 (hSw.get 5 rfl:Blk _ _ _ _) (AZ _ (by first | exact h2 | (rw [Am];exact h2) | exact An _))))) fun _ h776=>?_
    refine to_ 12 rfl (wT h776 (E:=true) rfl rfl rfl) κ fun _ hK129=>AJ h776 rfl rfl rfl (xs:=[.tmp 122]) rfl (cF func11) rfl (vs:=[π mx_x1963]) rfl (args:=#[π mx_x1963]) rfl (IR s102 (hv2292.2.2).m hv2292.2.1) fun _ v53 w92 r53 h777=>?_
    obtain ⟨rfl,s103⟩:=r53
    refine hK129 _ _ (s103.pk [2,0,3,4,5,6,7,8] rfl) fun hq35=>?_
    refine tv hq35 h777 14 rfl rfl rfl rfl κ κ κ (fun _ _ _ _ h=>h) (wT h777 (E:=true) rfl rfl rfl) (v:=.bool true) (fun w1 _=>Aw h777 rfl rfl rfl (IF _ _ (AZ _ (by first | exact h2 | (rw [Am];exact h2) | exact An _)) (AZ _ (by first | exact h2 | (rw [Am];exact h2) | exact An _)) (decide_eq_true rfl)) w1) fun _ h778=>?_
    refine tv1 hq35 h778 15 rfl rfl (v:=.bool true) (fun w1 _=>(Az h778 rfl rfl rfl) w1) fun _ h779=>?_
    refine tv1 hq35 h779 16 rfl rfl (v:=.bool true) (fun w1 _=>(Ad h779 rfl rfl) w1) fun _ h780=>?_
    refine to_ 17 rfl (wT h780 (E:=true) rfl rfl rfl) κ fun _ hK130=>AJ h780 rfl rfl rfl (xs:=[]) rfl (cF func12) rfl (vs:=[]) rfl (args:=#[]) rfl (El s103) fun _ v54 w93 r54 h781=>?_
    obtain ⟨rfl,s104⟩:=r54
    refine hK130 _ _ (s104.pk [2,0,3,4,5,6,7,8] rfl) fun hq36=>?_
    refine tv1 hq36 h781 18 rfl rfl (v:=.bool true) (fun w1 _=>(Az h781 rfl rfl rfl) w1) fun _ h782=>?_
    refine h782.sk [129,128,127,126,125,123,124,122,121,120,119,118,117,116,115,114,113,112,111,17,16,15,14,13,12,11,10,9,6,5,0,1,2,3] rfl fun h783=>?_
    refine tv1 hq36 h783 19 rfl rfl (v:=.bool true) (fun w1 _=>(AP h783 rfl rfl) w1) fun _ h784=>?_
    refine h784.sk [8,17,16,15,14,13,12,11,10,9,6,5,0,1,2,3] rfl fun h785=>?_
    refine wpAnyH_done κ ?_ _
    refine hK127 _ _ ?_
    refine wp_ret ?_
    try simp only [Exit.then,Exit.inBlock]
    refine Bg (v:=.bool true) (Cl h785 rfl rfl) h785.defs ?_
    exact ⟨congrArg Value.bool rfl,Sep.tail_un (xs:=[]) (s104.pk [8] rfl)⟩
  ·skip
   have hp10:¬ (1≤k):=(dF hc5)
   refine cl h4 rfl (cF func6) (DC s1) fun _ v55 w94 r55 h786=>?_
   obtain ⟨kk_x2346,ta_x2347,tc_x2348,M_x2349,mx_x2350,vx_x2351,pg_x2352,rp_x2353,rfl,s105,hvl2358⟩:=r55
   have hvl0:=hvl2358
   refine mv h786 rfl fun _ h787=>h787.sn [9,8,6,5,0,1,2,3] rfl fun h788=>hK4 _ _<|sq fun _ hK131=>sqr fun _ hK132=>mv h788 rfl fun _ h789=>bv h789 (z:=.bool false) rfl (Lu _ υ28 _ _ ⟨vx_x2351,0,none⟩) fun _ h790=>h790.sn [20,9,8,6,5,0,1,2,3] rfl fun h791=>hK132 _ _<|wcF h791 rfl rfl<|h791.sk [9,8,6,5,0,1,2,3] rfl fun h792=>?_
   refine wp_skip<|hK131 _ _<|sqr fun _ hK133=>sw1 h792 rfl (v:=.agg (Ah x).toArray) (rld h792 rfl rfl (ldA υ25 rfl (n:=15) κ (s105.get 4 rfl:Blk _ _ _ _) rfl rfl)) fun _ h793=>cl h793 rfl (cF func7) (GA (x:=x) s105) fun _ v56 w95 r56 h794=>?_
   obtain ⟨rfl,s106⟩:=r56
   refine mv h794 rfl fun _ h795=>sg h795 (wT h795 rfl rfl rfl) rfl rfl rfl (v:=ν i) (fun hC31=>Ad h795 rfl rfl _) fun _ h796=>sg h796 (wT h796 rfl rfl rfl) rfl rfl rfl (v:=.bool (decide (i≥1))) (fun hC32=>Aw h796 rfl (opg rfl hC32) rfl (cGe _ _ _ _ rfl) _) fun _ h797=>sv1 h797 rfl (v:=.bool ((AS x)&&(decide (i≥1)))) (BQ h797 rfl (E:=(AS x)) (F:=(decide (i≥1))) rfl rfl rfl (fun e=>if_pos (by rw [e];try rfl))) fun _ h798=>mv h798 rfl fun _ h799=>sg h799 (wT h799 rfl rfl rfl) rfl rfl rfl (v:=ν i) (fun hC33=>by have hq:=(And.intro (AV hC33).1 (dT (AV hC33).2));exact Ad h799 rfl rfl _) fun _ h800=>sg h800 (wT h800 rfl rfl rfl) rfl rfl rfl (v:=.bool (decide (i≤32))) (fun hC34=>by have hq:=(And.intro (AV hC34).1 (dT (AV hC34).2));exact Aw h800 rfl (opg rfl hC34) rfl (cLe _ _ _ _ rfl) _) fun _ h801=>sv1 h801 rfl (v:=.bool (((AS x)&&(decide (i≥1)))&&(decide (i≤32)))) (BQ h801 rfl (E:=((AS x)&&(decide (i≥1)))) (F:=(decide (i≤32))) rfl rfl rfl (fun e=>if_pos (by rw [e];try rfl))) fun _ h802=>mv h802 rfl fun _ h803=>h803.sk [10,9,8,6,5,0,1,2,3] rfl fun h804=>?_
   refine wpList_nil<|hK133 _ _<|sq fun _ hK134=>?_
   have hb2406:(((AS x)&&(decide (i≥1)))&&(decide (i≤32)))=false:=hc1;rw [hb2406] at h804
   refine wp_region_lit<|mvs 2 h804 rfl fun _ h805=>fav h805 rfl (fQ 2) fun _ h806=>ldv h806 s106 0 υ35 rfl rfl rfl rfl fun _ h807=>mv h807 rfl fun _ h808=>cl h808 rfl (cF func8) (AY (x:=(Al M_x2349 [] k)) (s106.pk [1,2,0,3,4,5] rfl) (hvl2358).m ⟨rfl,EG hvl2358 ω⟩) fun _ v57 w96 r57 h809=>?_
   obtain ⟨rfl,s107⟩:=r57
   refine mvs 3 h809 rfl fun _ h810=>so (wn rfl) fun _ hK135=>AB h810 rfl rfl rfl rfl (z:=[ν 0,ν 0,ν 0,ν 0,ν 0,ν 0,ν 0,ν 0,ν 0,ν 0,ν 0,ν 0,ν 0,ν 0,ν 0]) (fun _=>rfl) s107 fun _ g21 w97 h811 s108 _ _=>hK135 _ _ ?_
   refine stA h811 s108 0 rfl rfl rfl κ rfl rfl rfl rfl fun _ w98 h812 s109 _=>mv h812 rfl fun _ h813=>h813.sn [12,11,10,9,8,6,5,0,1,2,3] rfl fun h814=>hK134 _ _<|sq fun _ hK136=>?_
   have s110:=s109.drew
   refine wp_region_held_drew (S:=fun w'=>Sep w' [Ab g21 25 (Ah (Al M_x2349 [] k)),Ab mx_x2350 99 [π kk_x2346.tg],Ab vx_x2351 39 (prC (π pg_x2352) (π kk_x2346.tg) (π mx_x2350) (π rp_x2353)),Ab g1 27 ((xs).map Ac),Ab g4 25 (Ah x),Ch.many R]) κ (s110.pk [0,1,3,4,5,6] rfl) (fun hq37=>?_)
   refine tv1 hq37 h814 0 rfl rfl (v:=π vx_x2351) (fun w1 _=>(Ad h814 rfl rfl) w1) fun _ h815=>?_
   refine tv1 hq37 h815 1 rfl rfl (v:=π vx_x2351) (fun w1 _=>(Dz h815 rfl rfl) w1) fun _ h816=>?_
   refine tv1 hq37 h816 2 rfl rfl (v:=.pointer (some ⟨vx_x2351,2,none⟩)) (fun w1 _=>(rfa h816 rfl rfl (fQ 2)) w1) fun _ h817=>?_
   refine tv1 hq37 h817 3 rfl rfl (v:=π mx_x2350) (fun w1 hSw=>(rld h817 rfl rfl (ldB υ35 rfl (hSw.get 2 rfl:Blk _ _ _ _) rfl))) fun _ h818=>?_
   refine tv1 hq37 h818 4 rfl rfl (v:=ν i) (fun w1 _=>(Ad h818 rfl rfl) w1) fun _ h819=>?_
   refine tv1 hq37 h819 5 rfl rfl (v:=.agg (Ah x).toArray) (fun w1 hSw=>(rld h819 rfl rfl (ldA υ25 rfl (n:=15) κ (hSw.get 4 rfl:Blk _ _ _ _) rfl rfl))) fun _ h820=>?_
   have hs2463:=Pb (M:=M_x2349) (P:=[]) (i:=i) (x:=x) (Sb hc1)
   refine to_ 6 rfl (wn rfl) κ fun _ hK137=>AJ h820 rfl rfl rfl (xs:=[.tmp 43,.tmp 44,.tmp 45]) rfl (cF func9) rfl (vs:=[π mx_x2350,ν i,.agg (Ah x).toArray]) rfl (args:=#[π mx_x2350,ν i,.agg (Ah x).toArray]) rfl (Hx (s110.pk [1,2,0,3,4,5,6] rfl) (hvl2358).m hs2463) fun _ v58 w99 r58 h821=>?_
   obtain ⟨tax2464,tcx2465,rfl,s111⟩:=r58
   refine hK137 _ _ (s111.pk [2,0,3,4,5,6] rfl) fun hq38=>?_
   refine tv1 hq38 h821 7 rfl rfl (v:=ν 1) (fun w1 _=>(AP h821 rfl rfl) w1) fun _ h822=>?_
   refine h822.sk [13,12,11,10,9,8,6,5,0,1,2,3] rfl fun h823=>?_
   refine wpAnyH_done κ ?_ _
   refine hK136 _ _ ?_
   refine sq fun _ hK138=>sqr fun _ hK139=>mv h823 rfl fun _ h824=>bv h824 (z:=.bool false) rfl (cEq _ _ _ _ (show decide ((1:Int)=0)=false from rfl)) fun _ h825=>mv h825 rfl fun _ h826=>bv h826 (z:=.bool false) rfl (DU _ υ4 _ _ _) fun _ h827=>mv h827 rfl fun _ h828=>sv h828 (wF h828 (E:=false) rfl rfl rfl) rfl rfl rfl (v:=ν 1) (Ad h828 rfl rfl) fun _ h829=>sv h829 (wF h829 (E:=false) rfl rfl rfl) rfl rfl rfl (v:=.bool true) (Aw h829 rfl rfl rfl (cNe _ _ _ _ (show decide ((1:Int)≠0)=true from rfl))) fun _ h830=>sv h830 (wF h830 (E:=false) rfl rfl rfl) rfl rfl rfl (v:=.bool true) (Ad h830 rfl rfl) fun _ h831=>sv h831 (wT h831 (E:=true) rfl rfl rfl) rfl rfl rfl (v:=ν 1) (Ad h831 rfl rfl) fun _ h832=>?_
   refine sv h832 (wT h832 (E:=true) rfl rfl rfl) rfl rfl rfl (v:=.bool false) (Aw h832 rfl rfl rfl (cNe _ _ _ _ (show decide ((1:Int)≠1)=false from rfl))) fun _ h833=>sv h833 (wF h833 (E:=false) rfl rfl rfl) rfl rfl rfl (v:=.bool false) (Az h833 rfl rfl rfl) fun _ h834=>sv1 h834 rfl (v:=.bool false) (Az h834 rfl rfl rfl) fun _ h835=>mv h835 rfl fun _ h836=>sv h836 (wF h836 (E:=false) rfl rfl rfl) rfl rfl rfl (v:=ν 1) (Ad h836 rfl rfl) fun _ h837=>sv h837 (wF h837 (E:=false) rfl rfl rfl) rfl rfl rfl (v:=.bool false) (Aw h837 rfl rfl rfl (cEq _ _ _ _ (show decide ((1:Int)=0)=false from rfl))) fun _ h838=>sv h838 (wF h838 (E:=false) rfl rfl rfl) rfl rfl rfl (v:=ν k) (Ad h838 rfl rfl) fun _ h839=>sv h839 (wF h839 (E:=false) rfl rfl rfl) rfl rfl rfl (v:=.bool false) (Aw h839 rfl rfl rfl (cGe _ _ _ _ (decide_eq_false ω))) fun _ h840=>sv h840 (wF h840 (E:=false) rfl rfl rfl) rfl rfl rfl (v:=.bool false) (Ad h840 rfl rfl) fun _ h841=>su h841 (wT h841 (E:=false) rfl rfl rfl) rfl rfl rfl fun _ h842=>?_
   refine su h842 (wT h842 (E:=false) rfl rfl rfl) rfl rfl rfl fun _ h843=>sv h843 (wF h843 (E:=false) rfl rfl rfl) rfl rfl rfl (v:=.bool false) (Az h843 rfl rfl rfl) fun _ h844=>sv h844 (wF h844 (E:=false) rfl rfl rfl) rfl rfl rfl (v:=.bool false) (Aw h844 rfl rfl rfl (DU _ υ4 _ _ _)) fun _ h845=>sv1 h845 rfl (v:=.bool false) (Az h845 rfl rfl rfl) fun _ h846=>h846.sn [69,13,12,11,10,9,8,6,5,0,1,2,3] rfl fun h847=>hK139 _ _<|wcF h847 rfl rfl<|h847.sk [13,12,11,10,9,8,6,5,0,1,2,3] rfl fun h848=>wp_skip<|hK138 _ _<|sq fun _ hK140=>wp_region_lit ?_
   refine mvs 2 h848 rfl fun _ h849=>fav h849 rfl (fQ 2) fun _ h850=>ldv h850 s111 3 υ35 rfl rfl rfl rfl fun _ h851=>mv h851 rfl fun _ h852=>cl h852 rfl (cF func8) (AY (x:=(Al M_x2349 [] i)) s111 (hvl2358).m ⟨rfl,rfl⟩) fun _ v59 w100 r59 h853=>?_
   obtain ⟨rfl,s112⟩:=r59
   refine mvs 3 h853 rfl fun _ h854=>so (wn rfl) fun _ hK141=>AB h854 rfl rfl rfl rfl (z:=[ν 0,ν 0,ν 0,ν 0,ν 0,ν 0,ν 0,ν 0,ν 0,ν 0,ν 0,ν 0,ν 0,ν 0,ν 0]) (fun _=>rfl) s112 fun _ g22 w101 h855 s113 _ _=>hK141 _ _ ?_
   refine stA h855 s113 0 rfl rfl rfl κ rfl rfl rfl rfl fun _ w102 h856 s114 _=>mv h856 rfl fun _ h857=>h857.sn [15,14,13,12,11,10,9,8,6,5,0,1,2,3] rfl fun h858=>hK140 _ _<|sq fun _ hK142=>sqr fun _ hK143=>mvs 2 h858 rfl fun _ h859=>su h859 (wT h859 (E:=false) rfl rfl rfl) rfl rfl rfl fun _ h860=>su h860 (wT h860 (E:=false) rfl rfl rfl) rfl rfl rfl fun _ h861=>su h861 (wT h861 (E:=false) rfl rfl rfl) rfl rfl rfl fun _ h862=>su h862 (wT h862 (E:=false) rfl rfl rfl) rfl rfl rfl fun _ h863=>?_
   refine su h863 (wgu h863 rfl rfl rfl) rfl rfl rfl fun _ h864=>su h864 (wgu h864 rfl rfl rfl) rfl rfl rfl fun _ h865=>su h865 (wT h865 (E:=false) rfl rfl rfl) rfl rfl rfl fun _ h866=>sv1 h866 rfl (v:=.bool false) (Az h866 rfl rfl rfl) fun _ h867=>h867.sn [88,15,14,13,12,11,10,9,8,6,5,0,1,2,3] rfl fun h868=>hK143 _ _<|wcF h868 rfl rfl<|h868.sk [15,14,13,12,11,10,9,8,6,5,0,1,2,3] rfl fun h869=>wp_skip<|hK142 _ _<|sq fun _ hK144=>wp_region_lit ?_
   refine mvs 2 h869 rfl fun _ h870=>fav h870 rfl (fQ 2) fun _ h871=>ldv h871 s114 4 υ35 rfl rfl rfl rfl fun _ h872=>mv h872 rfl fun _ h873=>cl h873 rfl (cF func8) (AY (x:=(Al M_x2349 [] k)) (s114.pk [1,2,0,3,4,5,6,7] rfl) (hvl2358).m ⟨rfl,EG hvl2358 ω⟩) fun _ v60 w103 r60 h874=>?_
   obtain ⟨rfl,s115⟩:=r60
   refine mvs 3 h874 rfl fun _ h875=>so (wn rfl) fun _ hK145=>AB h875 rfl rfl rfl rfl (z:=[ν 0,ν 0,ν 0,ν 0,ν 0,ν 0,ν 0,ν 0,ν 0,ν 0,ν 0,ν 0,ν 0,ν 0,ν 0]) (fun _=>rfl) s115 fun _ g23 w104 h876 s116 _ _=>hK145 _ _ ?_
   refine stA h876 s116 0 rfl rfl rfl κ rfl rfl rfl rfl fun _ w105 h877 s117 _=>mv h877 rfl fun _ h878=>h878.sn [17,16,15,14,13,12,11,10,9,8,6,5,0,1,2,3] rfl fun h879=>hK144 _ _<|sq fun _ hK146=>sqr fun _ hK147=>mvs 2 h879 rfl fun _ h880=>bv h880 (z:=.bool false) rfl (cNe _ _ _ _ (show decide ((1:Int)≠1)=false from rfl)) fun _ h881=>mv h881 rfl fun _ h882=>sv h882 (wF h882 (E:=false) rfl rfl rfl) rfl rfl rfl (v:=ν k) (Ad h882 rfl rfl) fun _ h883=>sv h883 (wF h883 (E:=false) rfl rfl rfl) rfl rfl rfl (v:=ν i) (Ad h883 rfl rfl) fun _ h884=>?_
   refine sv h884 (wF h884 (E:=false) rfl rfl rfl) rfl rfl rfl (v:=.bool (decide (k≠i))) (Aw h884 rfl rfl rfl (cNe _ _ _ _ rfl)) fun _ h885=>sv h885 (wF h885 (E:=false) rfl rfl rfl) rfl rfl rfl (v:=.bool (decide (k≠i))) (Ad h885 rfl rfl) fun _ h886=>sg h886 (wT h886 rfl rfl rfl) rfl rfl rfl (v:=.agg (Ah (Al M_x2349 [] k)).toArray) (fun hC35=>by have hq:=(dT hC35);exact (rld h886 rfl rfl (ldA υ25 rfl (n:=15) κ (s117.get 0 rfl:Blk _ _ _ _) rfl rfl))) fun _ h887=>sg h887 (wT h887 rfl rfl rfl) rfl rfl rfl (v:=.agg (Ah (Al M_x2349 [] k)).toArray) (fun hC36=>by have hq:=(dT hC36);exact (rld h887 rfl rfl (ldA υ25 rfl (n:=15) κ (s117.get 4 rfl:Blk _ _ _ _) rfl rfl))) fun _ h888=>sg h888 (wT h888 rfl rfl rfl) rfl rfl rfl (v:=.bool false) (fun hC37=>by have hq:=(dT hC37);exact Aw h888 rfl (opg rfl hC37) (opg rfl hC37) (Iy _ _ (i:=(Al M_x2349 [] k)) (j:=(Al M_x2349 [] k)) (by rw [decide_eq_true rfl];rfl)) _) fun _ h889=>sv h889 (wF h889 (E:=false) rfl rfl rfl) rfl rfl rfl (v:=.bool ((decide (k≠i))&&false)) (BQ h889 rfl (E:=(decide (k≠i))) (F:=false) rfl rfl rfl (fun e=>if_pos (by rw [e];try rfl))) fun _ h890=>sv1 h890 rfl (v:=.bool ((decide (k≠i))&&false)) (Az h890 rfl rfl rfl) fun _ h891=>h891.sn [110,17,16,15,14,13,12,11,10,9,8,6,5,0,1,2,3] rfl fun h892=>hK147 _ _<|wcF h892 rfl (Wx rfl) ?_
   refine h892.sk [17,16,15,14,13,12,11,10,9,8,6,5,0,1,2,3] rfl fun h893=>wp_skip<|hK146 _ _<|sq fun _ hK148=>?_
   have s118:=s117.drew
   refine wp_region_held_drew (S:=fun w'=>Sep w' [Ab g23 25 (Ah (Al M_x2349 [] k)),Ab mx_x2350 99 [π kk_x2346.tg],Ab g22 25 (Ah (Al M_x2349 [] i)),Ab g21 25 (Ah (Al M_x2349 [] k)),Ab vx_x2351 39 (prC (π pg_x2352) (π kk_x2346.tg) (π mx_x2350) (π rp_x2353)),Ab g1 27 ((xs).map Ac),Ab g4 25 (Ah x),Ch.many R]) κ (s118.pk [0,1,3,4,5,6,7,8] rfl) (fun hq39=>?_)
   refine tv1 hq39 h893 0 rfl rfl (v:=π vx_x2351) (fun w1 _=>(Ad h893 rfl rfl) w1) fun _ h894=>?_
   refine tv1 hq39 h894 1 rfl rfl (v:=π vx_x2351) (fun w1 _=>(Dz h894 rfl rfl) w1) fun _ h895=>?_
   refine tv1 hq39 h895 2 rfl rfl (v:=.pointer (some ⟨vx_x2351,2,none⟩)) (fun w1 _=>(rfa h895 rfl rfl (fQ 2)) w1) fun _ h896=>?_
   refine tv1 hq39 h896 3 rfl rfl (v:=π mx_x2350) (fun w1 hSw=>(rld h896 rfl rfl (ldB υ35 rfl (hSw.get 4 rfl:Blk _ _ _ _) rfl))) fun _ h897=>?_
   refine tv1 hq39 h897 4 rfl rfl (v:=.agg (Af xs)) (fun w1 hSw=>(rld h897 rfl rfl (Dp υ27 (hSw.get 5 rfl:Blk _ _ _ _) (AZ _ (by first | exact h2 | (rw [Am];exact h2) | exact An _))))) fun _ h898=>?_
   have hv2679:=Fj (xs:=xs) hvl2358 h2 (by decide)
   refine to_ 5 rfl (wn rfl) κ fun _ hK149=>AJ h898 rfl rfl rfl (xs:=[.tmp 114,.tmp 115]) rfl (cF func10) rfl (vs:=[π mx_x2350,.agg (Af xs)]) rfl (args:=#[π mx_x2350,.agg (Af xs)]) rfl (Ep (xs:=xs) (s118.pk [1,2,0,3,4,5,6,7,8] rfl) (hvl2358).m h2 hv2679.1) fun _ v61 w106 r61 h899=>?_
   obtain ⟨tax2680,tcx2681,rfl,s119⟩:=r61
   refine hK149 _ _ (s119.pk [2,0,3,4,5,6,7,8] rfl) fun hq40=>?_
   refine tv1 hq40 h899 6 rfl rfl (v:=.bool true) (fun w1 _=>Aw h899 rfl rfl rfl (cEq _ _ _ _ (show decide ((0:Int)=0)=true from rfl)) w1) fun _ h900=>?_
   refine tv1 hq40 h900 7 rfl rfl (v:=.bool true) (fun w1 _=>(Ad h900 rfl rfl) w1) fun _ h901=>?_
   refine tv hq40 h901 8 rfl rfl rfl rfl κ κ κ (fun _ _ _ _ h=>h) (wT h901 (E:=true) rfl rfl rfl) (v:=π vx_x2351) (fun w1 _=>(Ad h901 rfl rfl) w1) fun _ h902=>?_
   refine tv hq40 h902 9 rfl rfl rfl rfl κ κ κ (fun _ _ _ _ h=>h) (wT h902 (E:=true) rfl rfl rfl) (v:=π vx_x2351) (fun w1 _=>(Dz h902 rfl rfl) w1) fun _ h903=>?_
   refine tv hq40 h903 10 rfl rfl rfl rfl κ κ κ (fun _ _ _ _ h=>h) (wT h903 (E:=true) rfl rfl rfl) (v:=.pointer (some ⟨vx_x2351,2,none⟩)) (fun w1 _=>(rfa h903 rfl rfl (fQ 2)) w1) fun _ h904=>?_
   refine tv hq40 h904 11 rfl rfl rfl rfl κ κ κ (fun _ _ _ _ h=>h) (wT h904 (E:=true) rfl rfl rfl) (v:=π mx_x2350) (fun w1 hSw=>(rld h904 rfl rfl (ldB υ35 rfl (hSw.get 4 rfl:Blk _ _ _ _) rfl))) fun _ h905=>?_
   refine tv hq40 h905 13 rfl rfl rfl rfl κ κ κ (fun _ _ _ _ h=>h) (wT h905 (E:=true) rfl rfl rfl) (v:=.agg (Af xs)) (fun w1 hSw=>(rld h905 rfl rfl (Dp υ27 (hSw.get 5 rfl:Blk _ _ _ _) (AZ _ (by first | exact h2 | (rw [Am];exact h2) | exact An _))))) fun _ h906=>?_
   refine to_ 12 rfl (wT h906 (E:=true) rfl rfl rfl) κ fun _ hK150=>AJ h906 rfl rfl rfl (xs:=[.tmp 122]) rfl (cF func11) rfl (vs:=[π mx_x2350]) rfl (args:=#[π mx_x2350]) rfl (IR s119 (hv2679.2.2).m hv2679.2.1) fun _ v62 w107 r62 h907=>?_
   obtain ⟨rfl,s120⟩:=r62
   refine hK150 _ _ (s120.pk [2,0,3,4,5,6,7,8] rfl) fun hq41=>?_
   refine tv hq41 h907 14 rfl rfl rfl rfl κ κ κ (fun _ _ _ _ h=>h) (wT h907 (E:=true) rfl rfl rfl) (v:=.bool true) (fun w1 _=>Aw h907 rfl rfl rfl (IF _ _ (AZ _ (by first | exact h2 | (rw [Am];exact h2) | exact An _)) (AZ _ (by first | exact h2 | (rw [Am];exact h2) | exact An _)) (decide_eq_true rfl)) w1) fun _ h908=>?_
   refine tv1 hq41 h908 15 rfl rfl (v:=.bool true) (fun w1 _=>(Az h908 rfl rfl rfl) w1) fun _ h909=>?_
   refine tv1 hq41 h909 16 rfl rfl (v:=.bool true) (fun w1 _=>(Ad h909 rfl rfl) w1) fun _ h910=>?_
   refine to_ 17 rfl (wT h910 (E:=true) rfl rfl rfl) κ fun _ hK151=>AJ h910 rfl rfl rfl (xs:=[]) rfl (cF func12) rfl (vs:=[]) rfl (args:=#[]) rfl (El s120) fun _ v63 w108 r63 h911=>?_
   obtain ⟨rfl,s121⟩:=r63
   refine hK151 _ _ (s121.pk [2,0,3,4,5,6,7,8] rfl) fun hq42=>?_
   refine tv1 hq42 h911 18 rfl rfl (v:=.bool true) (fun w1 _=>(Az h911 rfl rfl rfl) w1) fun _ h912=>?_
   refine h912.sk [129,128,127,126,125,123,124,122,121,120,119,118,117,116,115,114,113,112,111,17,16,15,14,13,12,11,10,9,6,5,0,1,2,3] rfl fun h913=>?_
   refine tv1 hq42 h913 19 rfl rfl (v:=.bool true) (fun w1 _=>(AP h913 rfl rfl) w1) fun _ h914=>?_
   refine h914.sk [8,17,16,15,14,13,12,11,10,9,6,5,0,1,2,3] rfl fun h915=>?_
   refine wpAnyH_done κ ?_ _
   refine hK148 _ _ ?_
   refine wp_ret ?_
   try simp only [Exit.then,Exit.inBlock]
   refine Bg (v:=.bool true) (Cl h915 rfl rfl) h915.defs ?_
   exact ⟨congrArg Value.bool rfl,Sep.tail_un (xs:=[]) (s121.pk [8] rfl)⟩
theorem MetaSets_walk (w:World) (i:Int) (_:(Lit.int IntKind.i64 i).wf=true) (x:InoT) (xs:Λ) (hx:xs.length=16) (k:Int) (_:(Lit.int IntKind.i64 k).wf=true):Calls prog 3 #[ν i,EL x,.agg (Af xs),ν k] w fun e w'=>e=.returned (.bool true)∧Below w.heap.size w w':=by
 refine Calls.mono (MSe (xs:=xs) (i:=i) (x:=x) (k:=k) (Sep.start w) hx) fun e w' ⟨v,e1,e2,h⟩=>⟨by rw [e1,e2],?_⟩
 have o:Below w.heap.size w w'∧_:=h.get 0 rfl
 exact o.1
end
section
open Go.RowKit Go.WideShapes Go.ChangeShapes
theorem RW (l:List Value) (h:∀ v∈l,∃ b:UInt8,v=Ac b):∃ xs:Λ,l=xs.map Ac:=by
  induction l with
  | nil=>exact ⟨[],rfl⟩
  | cons v l ih=>
    obtain ⟨b,rfl⟩:=h v (by simp)
    obtain ⟨xs,rfl⟩:=ih (fun u hu=>h u (by simp [hu]))
    exact ⟨b::xs,rfl⟩
theorem open_map {H:Type} {enc:TypeId×Value→H} {W:World} {base base':Nat} {spare:Nat→Bool} {held:Bool} {v:Value} {d:DataW H} {p:List MemPlace}
    (hv:Value.okWide prog W .any base' 27 v) (h:DataW.Trod enc prog W base spare held 27 v d p) :
    ∃ xs:Λ,v=.agg (Af xs)∧xs.length=16:=by
  obtain ⟨cs,rfl,hsz,_⟩:∃ cs,v=.agg cs∧cs.size=prog.cellsOf 27∧Row.okWide prog W .any base' 27 cs:=by
    simpa [Value.okWide,υ27] using hv
  have k16:prog.cellsOf 27=16:=κ
  have k1:prog.cellsOf 5=1:=κ
  obtain ⟨fuel,hf⟩:=h
  obtain ⟨ys,m,_,hx,_,hlen,hi⟩:=DataW.trod_array υ27 hf
  rw [k16] at hsz
  obtain ⟨xs,hxs⟩:=RW cs.toList (by
    intro u hu
    obtain ⟨i,hil,rfl⟩:=List.mem_iff_getElem.1 hu
    have hi16:i<16:=by simpa [hsz] using hil
    have h1:=hi i hi16
    rw [k1,Nat.mul_one] at h1
    have e1:(((Value.agg cs).cells.toList).drop i).take 1=[cs.toList[i]]:=by
      show ((cs.toList).drop i).take 1=_
      rw [List.drop_eq_getElem_cons hil];rfl
    rw [e1] at h1
    have hys:ys[i]? = some (ys[i]' ω):=List.getElem?_eq_getElem ω
    obtain ⟨n,e2,_,w2⟩:=DataW.trod_int υ5 (h1.trans hys)
    have hb:=Afb w2
    refine ⟨UInt8.ofNat n.toNat,?_⟩
    simp only [List.cons.injEq,and_true] at e2
    rw [e2]
    unfold Ac
    simp
    omega)
  refine ⟨xs,?_,?_⟩
  · unfold Af;rw [← hxs]
  · have:cs.toList.length=16:=by simpa using hsz
    rw [hxs] at this;simpa using this
end
end Go.Proofs.YthiplgahhejmcaaGreatDoor
