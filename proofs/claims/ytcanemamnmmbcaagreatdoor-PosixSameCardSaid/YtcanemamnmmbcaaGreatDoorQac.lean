/- Parts of the proof. -/
import Derived.Test.YtcanemamnmmbcaaGreatDoorQab
namespace Go.Proofs.YtcanemamnmmbcaaGreatDoor
open Go.RowKit
set_option linter.unusedSimpArgs false
set_option linter.unusedVariables false
set_option linter.unusedSectionVars false
set_option maxRecDepth 100000
set_option maxHeartbeats 8000000
section
def FB (E:List EntM) (m:Nat):Nat:=(E.filter fun x=>decide (x.nd=m)).length
structure FsC (F:FsM) (δ:Nat→Int):Prop where
 n0:0<F.N.length∧F.dir 0=true
 e:∀ x∈F.E,(x.dn<F.N.length∧F.dir x.dn=true)∧(x.nd<F.N.length∧0<x.nd)∧mayN x.nm=true
 ed:F.E.Pairwise (fun x y=>¬ (x.dn=y.dn∧x.nm=y.nm))
 du:F.E.Pairwise (fun x y=>x.nd=y.nd→F.dir x.nd=false)
 o:∀ x∈F.O,(x.nd<F.N.length∧F.dir x.nd=false)∧(1≤x.cl∧x.cl≤8)∧(0≤x.fd∧x.fd<8)
 od:F.O.Pairwise (fun x y=>¬ (x.cl=y.cl∧x.fd=y.fd))
 k:∀ i,i<F.N.length→(F.at i).data.length≤256∧(F.dir i=true→(F.at i).links=1)∧(F.dir i=false→(F.at i).links=(FB F.E i:Int)+δ i)
structure FsOk (F:FsM):Prop extends FsC F (fun _=>0) where
 l20:∀ i,i<F.N.length→(F.at i).links≤20
theorem BZ {E:List EntM} {d m:Nat} {s:ByteArray} (h:Aj E d s=some m):∃ x∈E,x.dn=d∧x.nm=s∧x.nd=m:=by
 unfold Aj at h
 obtain ⟨x,hx,rfl⟩:=Option.map_eq_some_iff.1 h
 have h1:=List.find?_some hx
 have h1:=dT h1
 exact ⟨x,List.mem_of_find?_eq_some hx,h1.1,h1.2,rfl⟩
theorem Gr {O:List OpM} {c fd:Int} {m:Nat} (h:Az O c fd=some m):∃ x∈O,x.cl=c∧x.fd=fd∧x.nd=m:=by
 unfold Az at h
 obtain ⟨x,hx,rfl⟩:=Option.map_eq_some_iff.1 h
 have h1:=List.find?_some hx
 have h1:=dT h1
 exact ⟨x,List.mem_of_find?_eq_some hx,h1.1,h1.2,rfl⟩
theorem FsOk.look_lt {F:FsM} (h:FsOk F) {d m:Nat} {s:ByteArray} (hl:Aj F.E d s=some m):m<F.N.length:=by
 obtain ⟨x,hx,_,_,rfl⟩:=BZ hl
 exact (h.e x hx).2.1.1
theorem FsOk.walk_lt {F:FsM} (h:FsOk F):∀ (L:List ByteArray) (n:Nat),n<F.N.length→(Am F n L).2<F.N.length
 | [],n,hn=>hn
 | s::L,n,hn=>by
  unfold Am
  split
  ·split
   ·exact h.n0.1
   ·rename_i m hm;exact h.walk_lt L m (h.look_lt hm)
  ·exact h.n0.1
theorem Kg {L:List ByteArray} {n i:Nat} (hi:i<n∧n≤L.length):(L.take n).drop i=L.getD i AL::(L.take n).drop (i+1):=by
 rw [Gk (by rw [List.length_take];omega) AL,List.getD_eq_getElem?_getD,List.getElem?_take,if_pos hi.1];rfl
theorem ID {F:FsM} {L:List ByteArray} {n i k m:Nat} (hi:i<n∧n≤L.length) (hd:(F.N.getD k Ap).dir=true) (h:Aj F.E k (L.getD i AL)=some m):Am F k ((L.take n).drop i)=Am F m ((L.take n).drop (i+1)):=by
 rw [Kg hi,Am,if_pos (show F.dir k=true from hd),h]
theorem IC {F:FsM} {L:List ByteArray} {n i k:Nat} (hi:i<n∧n≤L.length) (hd:(F.N.getD k Ap).dir=true) (h:Aj F.E k (L.getD i AL)=none):Am F k ((L.take n).drop i)=(10,0):=by
 rw [Kg hi,Am,if_pos (show F.dir k=true from hd),h]
theorem Hu {F:FsM} {L:List ByteArray} {n i k:Nat} (hi:i<n∧n≤L.length) (hd:(F.N.getD k Ap).dir=false):Am F k ((L.take n).drop i)=(12,0):=by
 rw [Kg hi,Am,if_neg (show ¬ F.dir k=true from fun q=>by rw [show F.dir k=false from hd] at q;cases q)]
theorem Jx {F:FsM} {L:List ByteArray} {n i k:Nat} (hi:n≤i):Am F k ((L.take n).drop i)=(0,k):=by
 rw [List.drop_eq_nil_of_le (by rw [List.length_take];omega)];rfl
theorem Hi {F:FsM} {X:List UInt8} (h:Ag X=none):Ab F X=(15,0):=by unfold Ab;rw [h]
theorem CY {F:FsM} {X:List UInt8} {L:List ByteArray} (h:Ag X=some L):Ab F X=Am F 0 L:=by unfold Ab;rw [h]
theorem Fz {F:FsM} {X:List UInt8} (h:Ag X=none):Aa F X=(15,0,AL):=by unfold Aa;rw [h]
theorem ET {F:FsM} {X:List UInt8} (h:Ag X=some []):Aa F X=(15,0,AL):=by unfold Aa;rw [h];rfl
theorem Cz {F:FsM} {X:List UInt8} {M:List ByteArray} {x:ByteArray} (h:Ag X=some (M++[x])):Aa F X=EU F M x:=by
 unfold Aa;rw [h];simp
theorem HD {X:List UInt8} (h:(Ag X).isSome=true) (hn:¬ Ag X=some []):∃ M x,Ag X=some (M++[x]):=by
 obtain ⟨L,hL⟩:=Option.isSome_iff_exists.1 h
 rcases CC L with e | ⟨M,x,e⟩
 ·rw [e] at hL;exact absurd hL hn
 ·exact ⟨M,x,by rw [hL,e]⟩
theorem EX (M:List ByteArray) (x:ByteArray):(M++[x]).take ((M++[x]).length-1)=M:=by simp
theorem Hx (M:List ByteArray) (x:ByteArray):(M++[x]).getD ((M++[x]).length-1) AL=x:=by simp
theorem Ju {F:FsM} {M:List ByteArray} {x:ByteArray} (h:(Am F 0 M).1=0) (hd:(F.N.getD (Am F 0 M).2 Ap).dir=true):EU F M x=(0,(Am F 0 M).2,x):=by
 unfold EU;rw [if_pos h,if_pos (show F.dir _=true from hd)]
theorem GJ {F:FsM} {M:List ByteArray} {x:ByteArray} (h:(Am F 0 M).1=0) (hd:(F.N.getD (Am F 0 M).2 Ap).dir=false):EU F M x=(12,0,AL):=by
 unfold EU;rw [if_pos h,if_neg (show ¬ F.dir _=true from fun q=>by rw [show F.dir (Am F 0 M).2=false from hd] at q;cases q)]
theorem Iz {F:FsM} {M:List ByteArray} {x:ByteArray} (h:¬ (Am F 0 M).1=0):EU F M x=((Am F 0 M).1,0,AL):=by
 unfold EU;rw [if_neg h]
theorem Do {X:List UInt8} {L:List ByteArray} (h:Ag X=some L):L.length≤6:=by
 unfold Ag at h
 split at h
 ·cases h;exact Nat.zero_le _
 ·cases X with
  | nil=>cases h
  | cons b r=>
   by_cases hb:b=47
   ·have h':DZ r=some L:=by rw [FM,if_pos hb] at h;exact h
    by_cases hc:(Bs r).length≤6∧((Bs r).map Ad).all mayN=true
    ·rw [DZ,if_pos hc] at h'
     rw [← Option.some.inj h',List.length_map];exact hc.1
    ·rw [DZ,if_neg hc] at h';cases h'
   ·rw [FM,if_neg hb] at h;cases h
theorem Sep.own {w w':World} {R:List Ch} (hS:Sep w R) (hb:Below w.heap.size w w') {e:TypeId} {sz:Nat} {a:Option Addr} {n c:Nat} {cs:List Value} (hO:Own w' w.heap.size e sz a n c cs):Sep w' (Ai 0 e sz a n c cs::R):=
 hS.push hb (c:=Ai 0 e sz a n c cs) (Own.low hO (Nat.zero_le _)) (fun k hk=>(World.ownsRow.lt hO k hk).1)
theorem EJ {w:World} {R:List Ch} {X:List UInt8} (hS:Sep w R) (hX:X.length≤1000) {L:List ByteArray} (h:Ag X=some L) :
  CallsR Tryz.prog 64 #[σ X] w fun v w'=>∃ pa pc,v=.tuple #[.slice pa L.length pc,ν 0]∧Sep w' (Ai 0 9 1 pa L.length pc (L.flatMap sE)::R):=
 (Fg X hX w).mono fun e w' ⟨a,c,e1,hO,hb⟩=>by
  rw [h] at e1 hO
  exact ⟨_,e1,a,c,rfl,by rw [Mc];exact hS.own hb hO⟩
theorem Mm {w:World} {R:List Ch} {X:List UInt8} (hS:Sep w R) (hX:X.length≤1000) (h:Ag X=some []) :
  CallsR Tryz.prog 64 #[σ X] w fun v w'=>∃ pa pc,v=.tuple #[.slice pa 0 pc,ν 0]∧Sep w' R:=
 (Fg X hX w).mono fun e w' ⟨a,c,e1,hO,hb⟩=>by
  rw [h] at e1
  exact ⟨_,e1,a,c,rfl,hS.mono hb⟩
theorem Ff {w:World} {R:List Ch} {X:List UInt8} (hS:Sep w R) (hX:X.length≤1000) (h:Ag X=none) :
  CallsR Tryz.prog 64 #[σ X] w fun v w'=>∃ pa pc,v=.tuple #[.slice pa 0 pc,ν 15]∧Sep w' R:=
 (Fg X hX w).mono fun e w' ⟨a,c,e1,hO,hb⟩=>by
  rw [h] at e1
  exact ⟨_,e1,a,c,rfl,hS.mono hb⟩
theorem LU {w:World} {df:Nat} {na ea oa:Option Addr} {nc ec oc:Nat} {F:FsM} {R:List Ch} {L:List ByteArray} {a:Option Addr} {n c c2:Nat} (hS0:Sep w (Ai 0 9 1 a L.length c (L.flatMap sE)::(dP df na nc ea ec oa oc F)++R)) (hz:SmF F) (hok:FsOk F) (hn:n≤L.length) (hl:L.length≤1000) :
  CallsR Tryz.prog 65 #[π df,.slice a n c2] w (fun v w'=>v=.tuple #[ν ((Am F 0 (L.take n)).2:Int),ν (Am F 0 (L.take n)).1]∧Sep w' (Ai 0 9 1 a L.length c (L.flatMap sE)::(dP df na nc ea ec oa oc F)++R)):=by
 have hS:Sep w [Ai 0 9 1 a L.length c (L.flatMap sE),Ah df 51 [.slice na F.N.length nc,.slice ea F.E.length ec,.slice oa F.O.length oc],Ai 0 88 3 na F.N.length nc (F.N.flatMap Ca),Ai 0 114 3 ea F.E.length ec (F.E.flatMap BU),Ai 0 93 3 oa F.O.length oc (F.O.flatMap BQ),Ch.many R]:=Sep.tail_many (xs:=[_,_,_,_,_]) hS0;clear hS0
 have hz0:=hz;obtain ⟨hz1,hz2,hz3⟩:F.N.length≤1000∧F.E.length≤1000∧F.O.length≤1000:=hz
 refine AE Tryz.func65 rfl (N:=33) Tryz.ntmps65 (by show 2≤33;decide) [(0,π df),(1,.slice a n c2)] rfl fun _ h1=>sqr fun _ hK3=>mvs 2 h1 rfl fun _ h6=>wpList_nil<|hK3 _ _<|sqr fun _ hK8=>mv h6 rfl fun _ h9=>wpList_nil<|hK8 _ _<|sq fun _ hK1=>sqr fun _ hK2=>mv h9 rfl fun _ h2=>wpList_nil<|hK2 _ _ ?_
 refine wp_block ?_
 refine Jg (fun (i:Nat) (k:Nat) a' w'=>Kn 33 [(7,ν (i:Int)),(6,ν (k:Int)),(5,ν 0),(4,ν 0),(0,π df),(1,.slice a n c2)] a'∧Sep w' [Ai 0 9 1 a L.length c (L.flatMap sE),Ah df 51 [.slice na F.N.length nc,.slice ea F.E.length ec,.slice oa F.O.length oc],Ai 0 88 3 na F.N.length nc (F.N.flatMap Ca),Ai 0 114 3 ea F.E.length ec (F.E.flatMap BU),Ai 0 93 3 oa F.O.length oc (F.O.flatMap BQ),Ch.many R]∧(Am F 0 (L.take n)=Am F k ((L.take n).drop i))∧(k<F.N.length)) (fun (i:Nat) (k:Nat)=>n-i) 0 0 ⟨h2.subs rfl,hS,rfl,hok.n0.1⟩ ?_
 rintro i1 k1 a1 w1 ⟨h3,s1,hw20,hk21⟩ K1 hK4
 refine sq fun _ hK5=>sqr fun _ hK6=>mvs 2 h3 rfl fun _ h4=>sv1 h4 rfl (CR h4 rfl rfl υ33) fun _ h5=>bv h5 (z:=.bool (decide ((i1:Int)<(n:Int)))) rfl (cLt _ _ _ _ rfl) fun _ h7=>h7.sn [11,7,6,5,4,0,1] rfl fun h8=>hK6 _ _ ?_
 rcases bC (decide ((i1:Int)<(n:Int))) with hc1 | hc1
 ·skip
  have hp1:(i1:Int)<(n:Int):=(dT hc1)
  refine wcT h8 rfl hc1<|h8.sk [7,6,5,4,0,1] rfl fun h10=>wp_skip<|hK5 _ _<|sq fun _ hK7=>wp_block ?_
  refine sq fun _ hK9=>sqr fun _ hK10=>mvs 2 h10 rfl fun _ h11=>fav h11 rfl (Ak _ _) fun _ h12=>ldv h12 s1 1 υ47 rfl rfl rfl rfl fun _ h13=>mv h13 rfl fun _ h14=>?_
  obtain ⟨q51,hq1⟩:=AT (s1.get 2 rfl:Own _ _ _ _ _ _ _ _)
  refine sv1 h14 rfl (Ay h14 rfl rfl rfl (fun w=>ixO υ47 κ (sz:=3) (hq1 ω) (j:=k1) rfl ω ω w)) fun _ h15=>sv1 h15 rfl (rfa h15 rfl rfl (fun w=>AC q51 (k1*3) w)) fun _ h16=>sw1 h16 rfl (rld h16 rfl rfl (BJ Bb υ4 rfl (s1.get 2 rfl:Own _ _ _ _ _ _ _ _) (hq1 ω) Ap (j:=k1) (f:=0) ω (by decide) rfl rfl)) fun _ h17=>mv h17 rfl fun _ h18=>h18.sn [22,7,6,5,4,0,1] rfl fun h19=>hK10 _ _ ?_
  rcases bC ((F.N.getD k1 Ap).dir) with hc2 | hc2
  ·skip
   refine wcF h19 rfl (Bq hc2)<|h19.sk [7,6,5,4,0,1] rfl fun h20=>wp_skip<|hK9 _ _<|sqr fun _ hK11=>mvs 4 h20 rfl fun _ h21=>?_
   obtain ⟨q74,hq2⟩:=AT (s1.get 0 rfl:Own _ _ _ _ _ _ _ _)
   refine sv1 h21 rfl (v:=.pointer (some ⟨q74,i1,none⟩)) (Ay h21 rfl rfl rfl (fun w=>ixO υ33 κ (sz:=1) (hq2 ω) (j:=i1) rfl ω ω w)) fun _ h22=>sw1 h22 rfl (v:=.string (L.getD i1 AL)) (rld h22 rfl rfl (BJ Ea υ9 rfl (s1.get 0 rfl:Own _ _ _ _ _ _ _ _) (hq2 ω) AL (j:=i1) (f:=0) ω (by decide) ω rfl)) fun _ h23=>?_
   rcases bC ((Aj F.E k1 (L.getD i1 AL)).isSome) with hc3 | hc3
   ·skip
    obtain ⟨m1,hm1⟩:=Option.isSome_iff_exists.1 hc3
    refine cl h23 rfl AX (Fw (F:=F) (s1.pk [1,2,3,4,0,5] rfl) hz0 hm1) fun _ v1 w2 r1 h24=>?_
    obtain ⟨rfl,s2⟩:=r1
    refine h24.sk [29,28,27,26,25,24,23,7,5,4,0,1] rfl fun h25=>mv h25 rfl fun _ h26=>h26.sn [6,7,5,4,0,1] rfl fun h27=>hK11 _ _<|sqr fun _ hK12=>mv h27 rfl fun _ h28=>bv h28 rfl (cLt _ _ _ _ (decide_eq_false ω)) fun _ h29=>h29.sn [31,6,7,5,4,0,1] rfl fun h30=>hK12 _ _<|wcF h30 rfl rfl ?_
    refine h30.sk [6,7,5,4,0,1] rfl fun h31=>wp_skip<|hK7 _ _<|wp_region_lit<|mv h31 rfl fun _ h32=>bv h32 (z:=ν ((i1+1:Nat):Int)) rfl (DG _ _ _ ω ω ω) fun _ h33=>h33.sk [13,12,6,5,4,0,1] rfl fun h34=>mv h34 rfl fun _ h35=>h35.sk [7,6,5,4,0,1] rfl fun h36=>wpList_nil ?_
    exact hK4 (i1+1) m1 _ _ ⟨h36.subs rfl,(s2.pk [4,0,1,2,3,5] rfl),(hw20.trans (ID ω (L:=L) hc2 hm1)),(hok.look_lt hm1)⟩ ω
   ·skip
    have hm2:=AG hc3
    refine cl h23 rfl AX (IR (F:=F) (s1.pk [1,2,3,4,0,5] rfl) hz0 hm2) fun _ v2 w3 r2 h37=>?_
    obtain ⟨rfl,s3⟩:=r2
    refine h37.sk [29,28,27,26,25,24,23,7,5,4,0,1] rfl fun h38=>mv h38 rfl fun _ h39=>h39.sn [6,7,5,4,0,1] rfl fun h40=>hK11 _ _<|sqr fun _ hK13=>mv h40 rfl fun _ h41=>bv h41 rfl (cLt _ _ _ _ rfl) fun _ h42=>h42.sn [31,6,7,5,4,0,1] rfl fun h43=>hK13 _ _<|wcT h43 rfl rfl ?_
    refine h43.sk [6,7,5,4,0,1] rfl fun h44=>sqr fun _ hK14=>h44.sk [6,7,5,0,1] rfl fun h45=>mv h45 rfl fun _ h46=>h46.sk [4,6,7,0,1] rfl fun h47=>mv h47 rfl fun _ h48=>wpList_nil<|hK14 _ _<|wp_ret ?_
    try simp only [Exit.then,Exit.inBlock]
    refine Bi (v:=.tuple #[.int .i64 0,.int .i64 10]) (Gc h48 rfl rfl rfl) h48.defs ?_
    have hq:=hw20.trans (IC ω (L:=L) hc2 hm2)
    exact ⟨by rw [hq]<;>rfl,Sep.tail_un (xs:=[_,_,_,_,_]) (s3.pk [4,0,1,2,3,5] rfl)⟩
  ·skip
   refine wcT h19 rfl (Bt hc2)<|h19.sk [7,6,5,4,0,1] rfl fun h49=>sqr fun _ hK15=>h49.sk [7,6,5,0,1] rfl fun h50=>mv h50 rfl fun _ h51=>h51.sk [4,7,6,0,1] rfl fun h52=>mv h52 rfl fun _ h53=>wpList_nil<|hK15 _ _<|wp_ret ?_
   try simp only [Exit.then,Exit.inBlock]
   refine Bi (v:=.tuple #[ν 0,ν 12]) (Gc h53 rfl rfl rfl) h53.defs ?_
   have hq:=hw20.trans (Hu ω (L:=L) hc2)
   exact ⟨by rw [hq]<;>rfl,Sep.tail_un (xs:=[_,_,_,_,_]) s1⟩
 ·skip
  have hp2:¬ ((i1:Int)<(n:Int)):=(dF hc1)
  refine wcF h8 rfl hc1<|h8.sk [7,6,5,4,0,1] rfl fun h54=>wp_exit ?_
  refine hK1 _ _ ?_
  refine sqr fun _ hK16=>mv h54 rfl fun _ h55=>h55.sk [32,7,6,5,0,1] rfl fun h56=>mv h56 rfl fun _ h57=>h57.sk [4,32,7,6,0,1] rfl fun h58=>mv h58 rfl fun _ h59=>h59.sn [5,4,7,6,0,1] rfl fun h60=>hK16 _ _<|wp_ret ?_
  try simp only [Exit.then,Exit.inBlock]
  refine Bi (v:=.tuple #[ν (k1:Int),ν 0]) (Gc h60 rfl rfl rfl) h60.defs ?_
  have hq:=hw20.trans (Jx ω)
  exact ⟨by rw [hq]<;>rfl,Sep.tail_un (xs:=[_,_,_,_,_]) s1⟩
theorem Ec {w:World} {df:Nat} {na ea oa:Option Addr} {nc ec oc:Nat} {F:FsM} {R:List Ch} {X:List UInt8} (hS0:Sep w ((dP df na nc ea ec oa oc F)++R)) (hz:SmF F) (hok:FsOk F) (hX:X.length≤1000) :
  CallsR Tryz.prog 35 #[π df,σ X] w (fun v w'=>v=.tuple #[ν ((Ab F X).2:Int),ν (Ab F X).1]∧Sep w' ((dP df na nc ea ec oa oc F)++R)):=by
 have hS:=Sep.tail_many (xs:=dP df na nc ea ec oa oc F) hS0;clear hS0
 have hz0:=hz;obtain ⟨hz1,hz2,hz3⟩:F.N.length≤1000∧F.E.length≤1000∧F.O.length≤1000:=hz
 refine AE Tryz.func35 rfl (N:=21) Tryz.ntmps35 (by show 2≤21;decide) [(0,π df),(1,σ X)] rfl fun _ h1=>sqr fun _ hK3=>mvs 2 h1 rfl fun _ h6=>wpList_nil<|hK3 _ _<|sqr fun _ hK8=>mv h6 rfl fun _ h9=>?_
 rcases bC ((Ag X).isSome) with hc1 | hc1
 ·skip
  obtain ⟨L13,hL14⟩:=Option.isSome_iff_exists.1 hc1
  have h2:=Do hL14
  refine cl h9 rfl Bh (EJ (X:=X) hS ω hL14) fun _ v1 w1 r1 h3=>?_
  obtain ⟨pax16,pcx17,rfl,s1⟩:=r1
  refine mvs 5 h3 rfl fun _ h4=>h4.sn [7,6,5,4,0,1] rfl fun h5=>hK8 _ _<|sq fun _ hK1=>sqr fun _ hK2=>mv h5 rfl fun _ h7=>bv h7 rfl (cNe _ _ _ _ rfl) fun _ h8=>h8.sn [14,7,6,5,4,0,1] rfl fun h10=>hK2 _ _<|wcF h10 rfl rfl<|h10.sk [7,6,5,4,0,1] rfl fun h11=>?_
  refine wp_skip<|hK1 _ _<|sqr fun _ hK4=>mvs 2 h11 rfl fun _ h12=>cl h12 rfl Ey (LU (F:=F) s1 hz0 hok ω ω) fun _ v2 w2 r2 h13=>?_
  obtain ⟨rfl,s2⟩:=r2
  refine mvs 2 h13 rfl fun _ h14=>h14.sk [20,19,18,17,16,7,6,5,0,1] rfl fun h15=>mv h15 rfl fun _ h16=>h16.sk [4,20,19,18,17,16,7,6,0,1] rfl fun h17=>mv h17 rfl fun _ h18=>h18.sn [5,4,7,6,0,1] rfl fun h19=>hK4 _ _<|wp_ret ?_
  try simp only [Exit.then,Exit.inBlock]
  refine Bi (v:=.tuple #[ν ((Am F 0 (L13.take L13.length)).2:Int),ν ((Am F 0 (L13.take L13.length)).1)]) (Gc h19 rfl rfl rfl) h19.defs ?_
  exact ⟨by rw [CY hL14,List.take_length],Sep.tail_un (xs:=[_,_,_,_]) (s2.pk [1,2,3,4,5] rfl)⟩
 ·skip
  refine cl h9 rfl Bh (Ff (X:=X) hS ω (AG hc1)) fun _ v3 w3 r3 h20=>?_
  obtain ⟨pax68,pcx69,rfl,s3⟩:=r3
  refine mvs 5 h20 rfl fun _ h21=>h21.sn [7,6,5,4,0,1] rfl fun h22=>hK8 _ _<|sq fun _ hK5=>sqr fun _ hK6=>mv h22 rfl fun _ h23=>bv h23 rfl (cNe _ _ _ _ rfl) fun _ h24=>h24.sn [14,7,6,5,4,0,1] rfl fun h25=>hK6 _ _<|wcT h25 rfl rfl<|h25.sk [7,6,5,4,0,1] rfl fun h26=>?_
  refine sqr fun _ hK7=>mv h26 rfl fun _ h27=>h27.sk [15,7,6,5,0,1] rfl fun h28=>mv h28 rfl fun _ h29=>h29.sk [4,15,7,6,0,1] rfl fun h30=>mv h30 rfl fun _ h31=>h31.sn [5,4,7,6,0,1] rfl fun h32=>hK7 _ _<|wp_ret ?_
  try simp only [Exit.then,Exit.inBlock]
  refine Bi (v:=.tuple #[.int .i64 0,.int .i64 15]) (Gc h32 rfl rfl rfl) h32.defs ?_
  exact ⟨by rw [Hi (AG hc1)]<;>rfl,Sep.tail_un (xs:=[_,_,_,_]) s3⟩
theorem Cx {w:World} {df:Nat} {na ea oa:Option Addr} {nc ec oc:Nat} {F:FsM} {R:List Ch} {X:List UInt8} (hS0:Sep w ((dP df na nc ea ec oa oc F)++R)) (hz:SmF F) (hok:FsOk F) (hX:X.length≤1000) :
  CallsR Tryz.prog 36 #[π df,σ X] w (fun v w'=>v=.tuple #[ν ((Aa F X).2.1:Int),.string (Aa F X).2.2,ν (Aa F X).1]∧Sep w' ((dP df na nc ea ec oa oc F)++R)):=by
 have hS:=Sep.tail_many (xs:=dP df na nc ea ec oa oc F) hS0;clear hS0
 have hz0:=hz;obtain ⟨hz1,hz2,hz3⟩:F.N.length≤1000∧F.E.length≤1000∧F.O.length≤1000:=hz
 refine AE Tryz.func36 rfl (N:=52) Tryz.ntmps36 (by show 2≤52;decide) [(0,π df),(1,σ X)] rfl fun _ h1=>sqr fun _ hK3=>mvs 3 h1 rfl fun _ h8=>wpList_nil<|hK3 _ _<|sqr fun _ hK1=>mv h8 rfl fun _ h2=>?_
 rcases bC ((Ag X).isSome) with hc1 | hc1
 ·skip
  rcases bC (decide (Ag X=some [])) with hc2 | hc2
  ·skip
   have hp1:Ag X=some []:=(dT hc2)
   refine cl h2 rfl Bh (Mm (X:=X) hS ω (dT hc2)) fun _ v1 w2 r1 h3=>?_
   obtain ⟨pax17,pcx18,rfl,s1⟩:=r1
   refine mvs 5 h3 rfl fun _ h4=>h4.sn [8,7,6,5,4,0,1] rfl fun h5=>hK1 _ _<|sq fun _ hK2=>sqr fun _ hK4=>mv h5 rfl fun _ h6=>bv h6 rfl (cNe _ _ _ _ rfl) fun _ h7=>mv h7 rfl fun _ h9=>sv h9 (wF h9 (E:=false) rfl rfl rfl) rfl rfl rfl (Aq h9 rfl rfl) fun _ h10=>sv h10 (wF h10 (E:=false) rfl rfl rfl) rfl rfl rfl (CR h10 rfl rfl υ33) fun _ h11=>sv h11 (wF h11 (E:=false) rfl rfl rfl) rfl rfl rfl (BF h11 rfl rfl rfl (cEq _ _ _ _ rfl)) fun _ h12=>?_
   refine sv1 h12 rfl (Eh h12 rfl rfl rfl) fun _ h13=>h13.sn [22,8,7,6,5,4,0,1] rfl fun h14=>hK4 _ _<|wcT h14 rfl rfl<|h14.sk [8,7,6,5,4,0,1] rfl fun h15=>sqr fun _ hK5=>h15.sk [8,7,6,5,0,1] rfl fun h16=>mv h16 rfl fun _ h17=>h17.sk [4,8,7,6,0,1] rfl fun h18=>mv h18 rfl fun _ h19=>?_
   refine h19.sk [5,4,8,7,0,1] rfl fun h20=>mv h20 rfl fun _ h21=>wpList_nil<|hK5 _ _<|wp_ret ?_
   try simp only [Exit.then,Exit.inBlock]
   refine Bi (v:=.tuple #[ν 0,σ [],ν 15]) (Hs h21 rfl rfl rfl rfl) h21.defs ?_
   exact ⟨by rw [ET (dT hc2)];rfl,Sep.tail_un (xs:=[_,_,_,_]) s1⟩
  ·skip
   have hp2:¬ (Ag X=some []):=(dF hc2)
   obtain ⟨M66,x67,hL68⟩:=HD hc1 (dF hc2)
   have hl69:(M66++[x67]).length=M66.length+1:=List.length_append;have h22:=Do hL68
   refine cl h2 rfl Bh (EJ (X:=X) hS ω hL68) fun _ v2 w3 r2 h23=>?_
   obtain ⟨pax71,pcx72,rfl,s2⟩:=r2
   refine mvs 5 h23 rfl fun _ h24=>h24.sn [8,7,6,5,4,0,1] rfl fun h25=>hK1 _ _<|sq fun _ hK6=>sqr fun _ hK7=>mv h25 rfl fun _ h26=>bv h26 rfl (cNe _ _ _ _ rfl) fun _ h27=>mv h27 rfl fun _ h28=>sv h28 (wF h28 (E:=false) rfl rfl rfl) rfl rfl rfl (Aq h28 rfl rfl) fun _ h29=>sv h29 (wF h29 (E:=false) rfl rfl rfl) rfl rfl rfl (CR h29 rfl rfl υ33) fun _ h30=>sv h30 (wF h30 (E:=false) rfl rfl rfl) rfl rfl rfl (BF h30 rfl rfl rfl (cEq _ _ _ _ (decide_eq_false ω))) fun _ h31=>?_
   refine sv1 h31 rfl (Eh h31 rfl rfl rfl) fun _ h32=>h32.sn [22,8,7,6,5,4,0,1] rfl fun h33=>hK7 _ _<|wcF h33 rfl rfl<|h33.sk [8,7,6,5,4,0,1] rfl fun h34=>wp_skip<|hK6 _ _<|sqr fun _ hK8=>mvs 3 h34 rfl fun _ h35=>sv1 h35 rfl (CR h35 rfl rfl υ33) fun _ h36=>bv h36 (z:=ν (((M66++[x67]).length-1:Nat):Int)) rfl (Ij _ _ _ ω ω ω) fun _ h37=>?_
   have hcap120:=OI (s2.get 0 rfl:Own _ _ _ _ _ _ _ _)
   refine sv1 h37 rfl (EK h37 rfl rfl (vl:=none) (vh:=some (ν (((M66++[x67]).length-1:Nat):Int))) rfl rfl (fun w=>slL 33 9 υ33 κ pax71 ((M66++[x67]).length) pcx72 (b:=(M66++[x67]).length-1) ω w)) fun _ h38=>cl h38 rfl Ey (LU (F:=F) s2 hz0 hok ω ω) fun _ v3 w4 r3 h39=>?_
   obtain ⟨rfl,s3⟩:=r3
   refine mvs 5 h39 rfl fun _ h40=>h40.sn [10,9,8,7,6,5,4,0,1] rfl fun h41=>hK8 _ _<|sq fun _ hK9=>sqr fun _ hK10=>mv h41 rfl fun _ h42=>bv h42 (z:=.bool (decide ((Am F 0 ((M66++[x67]).take ((M66++[x67]).length-1))).1≠0))) rfl (cNe _ _ _ _ rfl) fun _ h43=>h43.sn [34,10,9,8,7,6,5,4,0,1] rfl fun h44=>hK10 _ _ ?_
   rcases bC (decide ((Am F 0 ((M66++[x67]).take ((M66++[x67]).length-1))).1≠0)) with hc3 | hc3
   ·skip
    have hp3:(Am F 0 ((M66++[x67]).take ((M66++[x67]).length-1))).1≠0:=(dT hc3)
    refine wcT h44 rfl hc3<|h44.sk [10,9,8,7,6,5,4,0,1] rfl fun h45=>sqr fun _ hK11=>mv h45 rfl fun _ h46=>h46.sk [35,10,9,8,7,6,5,0,1] rfl fun h47=>mv h47 rfl fun _ h48=>h48.sk [4,35,10,9,8,7,6,0,1] rfl fun h49=>mv h49 rfl fun _ h50=>h50.sk [5,4,35,10,9,8,7,0,1] rfl fun h51=>mv h51 rfl fun _ h52=>?_
    refine h52.sn [6,5,4,10,9,8,7,0,1] rfl fun h53=>hK11 _ _<|wp_ret ?_
    try simp only [Exit.then,Exit.inBlock]
    refine Bi (v:=.tuple #[.int .i64 0,.string (Ad []),.int .i64 ((Am F 0 ((M66++[x67]).take ((M66++[x67]).length-1))).1)]) (Hs h53 rfl rfl rfl rfl) h53.defs ?_
    have hq:=Cz (F:=F) hL68
    have ht:(M66++[x67]).take ((M66++[x67]).length-1)=M66:=EX _ _
    simp only [ht] at hp3
    rw [Iz ω] at hq
    refine ⟨?_,Sep.tail_un (xs:=[_,_,_,_]) (s3.pk [1,2,3,4,5] rfl)⟩
    rw [hq]
    try simp only [ht,Hx]
    try rfl
   ·skip
    have hp4:¬ ((Am F 0 ((M66++[x67]).take ((M66++[x67]).length-1))).1≠0):=(dF hc3)
    refine wcF h44 rfl hc3<|h44.sk [10,9,8,7,6,5,4,0,1] rfl fun h54=>wp_skip<|hK9 _ _<|sq fun _ hK12=>sq fun _ hK13=>?_
    have hk168:(Am F 0 ((M66++[x67]).take ((M66++[x67]).length-1))).2<F.N.length:=hok.walk_lt _ _ hok.n0.1
    refine wp_region_lit<|mvs 2 h54 rfl fun _ h55=>fav h55 rfl (Ak _ _) fun _ h56=>ldv h56 s3 1 υ47 rfl rfl rfl rfl fun _ h57=>mv h57 rfl fun _ h58=>?_
    obtain ⟨q179,hq1⟩:=AT (s3.get 2 rfl:Own _ _ _ _ _ _ _ _)
    refine sv1 h58 rfl (Ay h58 rfl rfl rfl (fun w=>ixO υ47 κ (sz:=3) (hq1 ω) (j:=(((Am F 0 ((M66++[x67]).take ((M66++[x67]).length-1))).2:Int)).toNat) ω ω ω w)) fun _ h59=>sv1 h59 rfl (rfa h59 rfl rfl (fun w=>AC q179 (((((Am F 0 ((M66++[x67]).take ((M66++[x67]).length-1))).2:Int)).toNat)*3) w)) fun _ h60=>sw1 h60 rfl (rld h60 rfl rfl (BJ Bb υ4 rfl (s3.get 2 rfl:Own _ _ _ _ _ _ _ _) (hq1 ω) Ap (j:=((((Am F 0 ((M66++[x67]).take ((M66++[x67]).length-1))).2:Int)).toNat)) (f:=0) ω (by decide) rfl rfl)) fun _ h61=>mv h61 rfl fun _ h62=>h62.sn [44,10,9,8,7,6,5,4,0,1] rfl fun h63=>hK13 _ _ ?_
    rcases bC ((F.N.getD ((((Am F 0 ((M66++[x67]).take ((M66++[x67]).length-1))).2:Int)).toNat) Ap).dir) with hc4 | hc4
    ·skip
     refine wcF h63 rfl (Bq hc4)<|h63.sk [10,9,8,7,6,5,4,0,1] rfl fun h64=>wp_skip<|hK12 _ _<|sq fun _ hK14=>?_
     have s4:=s3.drew
     refine wp_region_held_drew (S:=fun w'=>Sep w' [Ai 0 9 1 pax71 (M66++[x67]).length pcx72 ((M66++[x67]).flatMap sE),Ah df 51 [.slice na F.N.length nc,.slice ea F.E.length ec,.slice oa F.O.length oc],Ai 0 88 3 na F.N.length nc (F.N.flatMap Ca),Ai 0 114 3 ea F.E.length ec (F.E.flatMap BU),Ai 0 93 3 oa F.O.length oc (F.O.flatMap BQ),Ch.many R]) κ s4 (fun hq2=>?_)
     refine tv1 hq2 h64 0 rfl rfl (fun w1 _=>(Aq h64 rfl rfl) w1) fun _ h65=>?_
     refine tv1 hq2 h65 1 rfl rfl (fun w1 _=>(Aq h65 rfl rfl) w1) fun _ h66=>?_
     refine tv1 hq2 h66 2 rfl rfl (fun w1 _=>(Aq h66 rfl rfl) w1) fun _ h67=>?_
     refine tv1 hq2 h67 3 rfl rfl (fun w1 _=>(CR h67 rfl rfl υ33) w1) fun _ h68=>?_
     refine tv1 hq2 h68 4 rfl rfl (v:=ν (((M66++[x67]).length-1:Nat):Int)) (fun w1 _=>(BF h68 rfl rfl rfl (Ij _ _ _ ω ω ω)) w1) fun _ h69=>?_
     obtain ⟨q206,hq3⟩:=AT (s4.get 0 rfl:Own _ _ _ _ _ _ _ _)
     refine tv1 hq2 h69 5 rfl rfl (v:=.pointer (some ⟨q206,(M66++[x67]).length-1,none⟩)) (fun w1 _=>(Ay h69 rfl rfl rfl (fun w=>ixO υ33 κ (sz:=1) (hq3 ω) (j:=(M66++[x67]).length-1) rfl ω ω w)) w1) fun _ h70=>?_
     refine tv1 hq2 h70 6 rfl rfl (fun w1 hSw=>(rld h70 rfl rfl (BJ Ea υ9 rfl (hSw.get 0 rfl:Own _ _ _ _ _ _ _ _) (hq3 ω) AL (j:=(M66++[x67]).length-1) (f:=0) ω (by decide) ω rfl))) fun _ h71=>?_
     refine h71.sk [51,50,49,48,47,46,45,10,9,8,7,6,5,0,1] rfl fun h72=>?_
     refine tv1 hq2 h72 7 rfl rfl (fun w1 _=>(CH h72 rfl rfl) w1) fun _ h73=>?_
     refine h73.sk [4,51,50,49,48,47,46,45,10,9,8,7,6,0,1] rfl fun h74=>?_
     refine tv1 hq2 h74 8 rfl rfl (fun w1 _=>(CH h74 rfl rfl) w1) fun _ h75=>?_
     refine h75.sk [5,4,51,50,49,48,47,46,45,10,9,8,7,0,1] rfl fun h76=>?_
     refine tv1 hq2 h76 9 rfl rfl (fun w1 _=>(CH h76 rfl rfl) w1) fun _ h77=>?_
     refine h77.sk [6,5,4,10,9,8,7,0,1] rfl fun h78=>?_
     refine wpAnyH_done κ ?_ _
     refine hK14 _ _ ?_
     refine wp_ret ?_
     try simp only [Exit.then,Exit.inBlock]
     refine Bi (v:=.tuple #[ν ((Am F 0 ((M66++[x67]).take ((M66++[x67]).length-1))).2:Int),.string ((M66++[x67]).getD ((M66++[x67]).length-1) AL),ν 0]) (Hs h78 rfl rfl rfl rfl) h78.defs ?_
     have hq:=Cz (F:=F) hL68
     have ht:(M66++[x67]).take ((M66++[x67]).length-1)=M66:=EX _ _
     simp only [ht] at hp4 hc4
     rw [Ju ω hc4] at hq
     refine ⟨?_,Sep.tail_un (xs:=[_,_,_,_]) (s4.pk [1,2,3,4,5] rfl)⟩
     rw [hq]
     try simp only [ht,Hx]
     try rfl
    ·skip
     refine wcT h63 rfl (Bt hc4)<|h63.sk [10,9,8,7,6,5,4,0,1] rfl fun h79=>sqr fun _ hK15=>h79.sk [10,9,8,7,6,5,0,1] rfl fun h80=>mv h80 rfl fun _ h81=>h81.sk [4,10,9,8,7,6,0,1] rfl fun h82=>mv h82 rfl fun _ h83=>h83.sk [5,4,10,9,8,7,0,1] rfl fun h84=>mv h84 rfl fun _ h85=>wpList_nil<|hK15 _ _ ?_
     refine wp_ret ?_
     try simp only [Exit.then,Exit.inBlock]
     refine Bi (v:=.tuple #[.int .i64 0,.string (Ad []),.int .i64 12]) (Hs h85 rfl rfl rfl rfl) h85.defs ?_
     have hq:=Cz (F:=F) hL68
     have ht:(M66++[x67]).take ((M66++[x67]).length-1)=M66:=EX _ _
     simp only [ht] at hp4 hc4
     rw [GJ ω hc4] at hq
     refine ⟨?_,Sep.tail_un (xs:=[_,_,_,_]) (s3.pk [1,2,3,4,5] rfl)⟩
     rw [hq]
     try simp only [ht,Hx]
     try rfl
 ·skip
  refine cl h2 rfl Bh (Ff (X:=X) hS ω (AG hc1)) fun _ v4 w5 r4 h86=>?_
  obtain ⟨pax235,pcx236,rfl,s5⟩:=r4
  refine mvs 5 h86 rfl fun _ h87=>h87.sn [8,7,6,5,4,0,1] rfl fun h88=>hK1 _ _<|sq fun _ hK16=>sqr fun _ hK17=>mv h88 rfl fun _ h89=>bv h89 rfl (cNe _ _ _ _ rfl) fun _ h90=>mv h90 rfl fun _ h91=>su h91 (wF h91 (E:=true) rfl rfl rfl) rfl rfl rfl fun _ h92=>su h92 (wF h92 (E:=true) rfl rfl rfl) rfl rfl rfl fun _ h93=>su h93 (wF h93 (E:=true) rfl rfl rfl) rfl rfl rfl fun _ h94=>?_
  refine sv1 h94 rfl (Eh h94 rfl rfl rfl) fun _ h95=>h95.sn [22,8,7,6,5,4,0,1] rfl fun h96=>hK17 _ _<|wcT h96 rfl rfl<|h96.sk [8,7,6,5,4,0,1] rfl fun h97=>sqr fun _ hK18=>h97.sk [8,7,6,5,0,1] rfl fun h98=>mv h98 rfl fun _ h99=>h99.sk [4,8,7,6,0,1] rfl fun h100=>mv h100 rfl fun _ h101=>?_
  refine h101.sk [5,4,8,7,0,1] rfl fun h102=>mv h102 rfl fun _ h103=>wpList_nil<|hK18 _ _<|wp_ret ?_
  try simp only [Exit.then,Exit.inBlock]
  refine Bi (v:=.tuple #[.int .i64 0,.string (Ad []),.int .i64 15]) (Hs h103 rfl rfl rfl rfl) h103.defs ?_
  exact ⟨by rw [Fz (AG hc1)];rfl,Sep.tail_un (xs:=[_,_,_,_]) s5⟩
end
section
theorem Qa {E:List EntM} {d i:Nat} {s:ByteArray} (hi:i<E.length) (h:(((E.getD i AU).dn:Int)≠(d:Int))∨((E.getD i AU).nm≠s)):BW (E.take (i+1)) d s=BW (E.take i) d s++[E.getD i AU]:=by
 unfold BW
 rw [Dk hi AU,List.filter_append]
 congr 1
 rw [List.filter_cons,if_pos (by rw [decide_eq_false (show ¬ ((E.getD i AU).dn=d∧(E.getD i AU).nm=s) from fun q=>h.elim (fun z=>z ω) (fun z=>z q.2))];rfl)];rfl
theorem RD {E:List EntM} {d i:Nat} {s:ByteArray} (hi:i<E.length) (h:¬ (((E.getD i AU).dn:Int)≠(d:Int))∧¬ ((E.getD i AU).nm≠s)):BW (E.take (i+1)) d s=BW (E.take i) d s:=by
 unfold BW
 rw [Dk hi AU,List.filter_append,List.filter_cons,if_neg (by rw [decide_eq_true (show (E.getD i AU).dn=d∧(E.getD i AU).nm=s from ⟨ω,Classical.not_not.1 h.2⟩)];exact Bool.false_ne_true)]
 simp
def EP (O:List OpM) (c:Int):List OpM:=O.filter fun x=>!decide (x.cl=c)
theorem Po {O:List OpM} {i:Nat} {c:Int} (hi:i<O.length) (h:(O.getD i BL).cl≠c):EP (O.take (i+1)) c=EP (O.take i) c++[O.getD i BL]:=by
 unfold EP
 rw [Dk hi BL,List.filter_append]
 congr 1
 rw [List.filter_cons,if_pos (by rw [decide_eq_false h];rfl)];rfl
theorem QG {O:List OpM} {i:Nat} {c:Int} (hi:i<O.length) (h:¬ (O.getD i BL).cl≠c):EP (O.take (i+1)) c=EP (O.take i) c:=by
 unfold EP
 rw [Dk hi BL,List.filter_append,List.filter_cons,if_neg (by rw [decide_eq_true (Classical.not_not.1 h)];exact Bool.false_ne_true)]
 simp
theorem Ed (X:List UInt8) (n:Nat):(Bc X n).length=n:=by
 unfold Bc;rw [List.length_append,List.length_take,List.length_replicate];omega
theorem PT {X:List UInt8} {n:Nat} (h:n<X.length):Bc X n=X.take n:=by
 unfold Bc;rw [show n-X.length=0 by omega];simp
theorem Of {X:List UInt8} {n:Nat} (h:X.length=n):Bc X n=X:=by
 unfold Bc;rw [show n-X.length=0 by omega,List.take_of_length_le ω];simp
theorem Og {X Y:List UInt8} {n:Nat} (h:Bc X n=Bc Y n) (hl:Y.length<n):Bc X n=Bc (Y++[0]) n:=by
 rw [h];unfold Bc
 rw [List.take_of_length_le ω,List.take_of_length_le (by rw [List.length_append];show Y.length+1≤n;omega),List.length_append]
 rw [show n-Y.length=(n-(Y.length+[(0:UInt8)].length))+1 by show _=n-(Y.length+1)+1;omega,List.replicate_succ]
 simp
def Ew (x:CallM):Bool:=(Ag x.p1).isSome&&(Ag x.p2).isSome
theorem HH {x:CallM} {a b c:Bool} (h1:(Ag x.p1).isSome=a) (h2:(Ag x.p2).isSome=b) (h:(a&&b)=c:=by rfl):c=Ew x:=by
 unfold Ew;rw [h1,h2,h]
theorem IW {w:World} {df:Nat} {na ea oa:Option Addr} {nc ec oc:Nat} {F:FsM} {R:List Ch} (hS0:Sep w ((dP df na nc ea ec oa oc F)++R)) (hz:SmF F) (d:Nat) (s:ByteArray) (m:Nat) :
  CallsR Tryz.prog 37 #[π df,ν (d:Int),.string s,ν (m:Int)] w (fun v w'=>∃ na' nc' ea' ec' oa' oc',v=.tuple #[]∧Sep w' ([Ah df 51 [.slice na' ((Br F d s m).N.length) nc',.slice ea' ((Br F d s m).E.length) ec',.slice oa' ((Br F d s m).O.length) oc'],Ai 0 88 3 na' ((Br F d s m).N).length nc' (((Br F d s m).N).flatMap Ca),Ai 0 114 3 ea' ((Br F d s m).E).length ec' (((Br F d s m).E).flatMap BU),Ai 0 93 3 oa' ((Br F d s m).O).length oc' (((Br F d s m).O).flatMap BQ)]++R)):=by
 have hS:=Sep.tail_many (xs:=dP df na nc ea ec oa oc F) hS0;clear hS0
 have hz0:=hz;obtain ⟨hz1,hz2,hz3⟩:F.N.length≤1000∧F.E.length≤1000∧F.O.length≤1000:=hz
 refine AE Tryz.func37 rfl (N:=21) Tryz.ntmps37 (by show 4≤21;decide) [(0,π df),(1,ν (d:Int)),(2,.string s),(3,ν (m:Int))] rfl fun _ h1=>wp_region_lit<|mvs 3 h1 rfl fun _ h7=>fav h7 rfl (AD _ _) fun _ h9=>ldv h9 hS 0 υ48 rfl rfl rfl rfl fun _ h2=>mvs 3 h2 rfl fun _ h3=>bu h3 (v:=.agg #[ν (d:Int),.string s,ν (m:Int)]) rfl (fun w=>κ) fun _ h4=>so (wn rfl) fun _ hK1=>Dd h4 rfl rfl rfl (E:=114) (xs:=[(0,.tmp 16)]) rfl (vs:=[(0,.agg #[ν (d:Int),.string s,ν (m:Int)])]) rfl (z:=[ν (d:Int),.string s,ν (m:Int)]) (fun _=>κ) hS fun _ g1 w1 h5 s1 _ _=>hK1 _ _ ?_
 refine so (wn rfl) fun _ hK2=>EQ Dy h5 rfl rfl rfl rfl EEn s1 3 rfl rfl 0 (y:=(⟨d,s,m⟩:EntM)) rfl rfl rfl (by decide) ω (L':=F.E++[(⟨d,s,m⟩:EntM)]) rfl fun _ p29 c30 w2 h6 s2=>hK2 _ _ ?_
 have s3:=s2.pk [1,2,3,4,5] rfl;clear s2
 refine mv h6 rfl fun _ h8=>fav h8 rfl (AD _ _) fun _ h10=>st1 h10 s3 0 rfl rfl κ rfl rfl rfl rfl fun _ w3 h11 s4 _=>h11.sk [0,1,2,3] rfl fun h12=>wpList_nil ?_
 refine Nz (v:=.tuple #[]) (fun _=>NX rfl _) h12.defs ?_
 exact ⟨na,nc,p29,c30,oa,oc,rfl,Sep.tail_un (xs:=[_,_,_,_]) s4⟩
theorem Rh {w:World} {df:Nat} {na ea oa:Option Addr} {nc ec oc:Nat} {F:FsM} {R:List Ch} (hS0:Sep w ((dP df na nc ea ec oa oc F)++R)) (hz:SmF F) (dir:Bool) :
  CallsR Tryz.prog 38 #[π df,.bool dir] w (fun v w'=>∃ na' nc' ea' ec' oa' oc',v=ν (F.N.length:Int)∧Sep w' ([Ah df 51 [.slice na' ((AH F dir).N.length) nc',.slice ea' ((AH F dir).E.length) ec',.slice oa' ((AH F dir).O.length) oc'],Ai 0 88 3 na' ((AH F dir).N).length nc' (((AH F dir).N).flatMap Ca),Ai 0 114 3 ea' ((AH F dir).E).length ec' (((AH F dir).E).flatMap BU),Ai 0 93 3 oa' ((AH F dir).O).length oc' (((AH F dir).O).flatMap BQ)]++R)):=by
 have hS:=Sep.tail_many (xs:=dP df na nc ea ec oa oc F) hS0;clear hS0
 have hz0:=hz;obtain ⟨hz1,hz2,hz3⟩:F.N.length≤1000∧F.E.length≤1000∧F.O.length≤1000:=hz
 refine AE Tryz.func38 rfl (N:=22) Tryz.ntmps38 (by show 2≤22;decide) [(0,π df),(1,.bool dir)] rfl fun _ h1=>sqr fun _ hK3=>mv h1 rfl fun _ h4=>wpList_nil<|hK3 _ _<|sqr fun _ hK6=>mvs 3 h4 rfl fun _ h2=>fav h2 rfl (Ak _ _) fun _ h3=>ldv h3 hS 0 υ47 rfl rfl rfl rfl fun _ h5=>mv h5 rfl fun _ h6=>bu h6 (v:=.agg #[.bool dir,σ [],ν 1]) rfl (fun w=>κ) fun _ h7=>?_
 refine so (wn rfl) fun _ hK1=>Dd h7 rfl rfl rfl (E:=88) (xs:=[(0,.tmp 11)]) rfl (vs:=[(0,.agg #[.bool dir,σ [],ν 1])]) rfl (z:=[.bool dir,σ [],ν 1]) (fun _=>κ) hS fun _ g1 w1 h8 s1 _ _=>hK1 _ _ ?_
 refine so (wn rfl) fun _ hK2=>EQ Bb h8 rfl rfl rfl rfl ENd s1 2 rfl rfl 0 (y:=(⟨dir,[],1⟩:NodeM)) rfl rfl rfl (by decide) ω (L':=F.N++[(⟨dir,[],1⟩:NodeM)]) rfl fun _ p29 c30 w2 h9 s2=>hK2 _ _ ?_
 have s3:=s2.pk [1,2,3,4,5] rfl;clear s2
 refine mv h9 rfl fun _ h10=>fav h10 rfl (Ak _ _) fun _ h11=>st1 h11 s3 0 rfl rfl κ rfl rfl rfl rfl fun _ w3 h12 s4 _=>h12.sn [4,0,1] rfl fun h13=>hK6 _ _<|sq fun _ hK4=>?_
 have hnl:(F.N++[(⟨dir,[],1⟩:NodeM)]:List NodeM).length=F.N.length+1:=List.length_append
 refine wp_region_lit<|mvs 2 h13 rfl fun _ h14=>fav h14 rfl (Ak _ _) fun _ h15=>ldv h15 s4 0 υ47 rfl rfl rfl rfl fun _ h16=>sv1 h16 rfl (CR h16 rfl rfl υ47) fun _ h17=>bv h17 (z:=ν (((F.N++[(⟨dir,[],1⟩:NodeM)]).length-1:Nat):Int)) rfl (Ij _ _ _ ω ω ω) fun _ h18=>h18.sk [21,20,19,18,17,16,0,1] rfl fun h19=>mv h19 rfl fun _ h20=>h20.sn [4,0,1] rfl fun h21=>hK4 _ _ ?_
 refine wp_ret ?_
 try simp only [Exit.then,Exit.inBlock]
 refine Bi (v:=ν (((F.N++[(⟨dir,[],1⟩:NodeM)]).length-1:Nat):Int)) (Ce h21 rfl rfl) h21.defs ?_
 exact ⟨p29,c30,ea,ec,oa,oc,(congrArg (fun k:Nat=>Value.int .i64 (k:Int)) (by rw [List.length_append];show F.N.length+1-1=_;omega)),Sep.tail_un (xs:=[_,_,_,_]) s4⟩
theorem Sk {w:World} {df:Nat} {na ea oa:Option Addr} {nc ec oc:Nat} {F:FsM} {R:List Ch} (hS0:Sep w ((dP df na nc ea ec oa oc F)++R)) (hz:SmF F) (d:Nat) (s:ByteArray) :
  CallsR Tryz.prog 41 #[π df,ν (d:Int),.string s] w (fun v w'=>∃ na' nc' ea' ec' oa' oc',v=.tuple #[]∧Sep w' ([Ah df 51 [.slice na' F.N.length nc',.slice ea' ((BW F.E d s).length) ec',.slice oa' F.O.length oc'],Ai 0 88 3 na' F.N.length nc' (F.N.flatMap Ca),Ai 0 114 3 ea' (BW F.E d s).length ec' ((BW F.E d s).flatMap BU),Ai 0 93 3 oa' F.O.length oc' (F.O.flatMap BQ)]++R)):=by
 have hS:=Sep.tail_many (xs:=dP df na nc ea ec oa oc F) hS0;clear hS0
 have hz0:=hz;obtain ⟨hz1,hz2,hz3⟩:F.N.length≤1000∧F.E.length≤1000∧F.O.length≤1000:=hz
 refine AE Tryz.func41 rfl (N:=53) Tryz.ntmps41 (by show 3≤53;decide) [(0,π df),(1,ν (d:Int)),(2,.string s)] rfl fun _ h1=>sqr fun _ hK3=>mv h1 rfl fun _ h4=>wpList_nil<|hK3 _ _<|sq fun _ hK6=>sqr fun _ hK7=>mv h4 rfl fun _ h8=>wpList_nil<|hK7 _ _<|wp_block ?_
 have s1:=hS.ownNil 0 114 3
 refine Fj (fun (i:Nat) (ra:Option Addr) (rc:Nat) a' w'=>Kn 53 [(7,ν (i:Int)),(6,.slice ra ((BW (F.E.take i) d s).length) rc),(0,π df),(1,ν (d:Int)),(2,.string s)] a'∧Sep w' [Ai 0 114 3 ra (BW (F.E.take i) d s).length rc ((BW (F.E.take i) d s).flatMap BU),Ah df 51 [.slice na F.N.length nc,.slice ea F.E.length ec,.slice oa F.O.length oc],Ai 0 88 3 na F.N.length nc (F.N.flatMap Ca),Ai 0 114 3 ea F.E.length ec (F.E.flatMap BU),Ai 0 93 3 oa F.O.length oc (F.O.flatMap BQ),Ch.many R]∧((BW (F.E.take i) d s).length≤i)) (fun (i:Nat) (ra:Option Addr) (rc:Nat)=>F.E.length-i) 0 none 0 ⟨h8.subs rfl,s1,Nat.le_refl 0⟩ ?_
 rintro i1 ra18 rc19 a1 w1 ⟨h2,s2,hrl16⟩ K1 hK1
 refine sq fun _ hK2=>sqr fun _ hK4=>mvs 3 h2 rfl fun _ h3=>fav h3 rfl (AD _ _) fun _ h5=>ldv h5 s2 1 υ48 rfl rfl rfl rfl fun _ h6=>sv1 h6 rfl (CR h6 rfl rfl υ48) fun _ h7=>bv h7 (z:=.bool (decide ((i1:Int)<(F.E.length:Int)))) rfl (cLt _ _ _ _ rfl) fun _ h9=>h9.sn [14,7,6,0,1,2] rfl fun h10=>hK4 _ _ ?_
 rcases bC (decide ((i1:Int)<(F.E.length:Int))) with hc1 | hc1
 ·skip
  have hp1:(i1:Int)<(F.E.length:Int):=(dT hc1)
  refine wcT h10 rfl hc1<|h10.sk [7,6,0,1,2] rfl fun h11=>wp_skip<|hK2 _ _<|sq fun _ hK5=>wp_block ?_
  refine sqr fun _ hK8=>mvs 2 h11 rfl fun _ h12=>fav h12 rfl (AD _ _) fun _ h13=>ldv h13 s2 1 υ48 rfl rfl rfl rfl fun _ h14=>mv h14 rfl fun _ h15=>?_
  obtain ⟨q52,hq1⟩:=AT (s2.get 3 rfl:Own _ _ _ _ _ _ _ _)
  refine sv1 h15 rfl (Ay h15 rfl rfl rfl (fun w=>ixO υ48 κ (sz:=3) (hq1 ω) (j:=i1) rfl ω ω w)) fun _ h16=>sv1 h16 rfl (rfa h16 rfl rfl (fun w=>CM q52 (i1*3) w)) fun _ h17=>sw1 h17 rfl (rld h17 rfl rfl (BJ Dy υ3 rfl (s2.get 3 rfl:Own _ _ _ _ _ _ _ _) (hq1 ω) AU (j:=i1) (f:=0) ω (by decide) rfl rfl)) fun _ h18=>mv h18 rfl fun _ h19=>bv h19 (z:=.bool (decide (((F.E.getD i1 AU).dn:Int)≠(d:Int)))) rfl (cNe _ _ _ _ rfl) fun _ h20=>mv h20 rfl fun _ h21=>sg h21 (wF h21 rfl rfl rfl) rfl rfl rfl (fun hC1=>by have hq:=(dF (AW hC1));exact (Aq h21 rfl rfl) _) fun _ h22=>sg h22 (wF h22 rfl rfl rfl) rfl rfl rfl (fun hC2=>by have hq:=(dF (AW hC2));exact (CJ h22 rfl (opg rfl hC2)) _) fun _ h23=>sg h23 (wF h23 rfl rfl rfl) rfl rfl rfl (fun hC3=>by have hq:=(dF (AW hC3));exact (rfa h23 rfl (opg rfl hC3) (fun w=>AD df 0 w)) _) fun _ h24=>sg h24 (wF h24 rfl rfl rfl) rfl rfl rfl (fun hC4=>by have hq:=(dF (AW hC4));exact (rld h24 rfl (opg rfl hC4) (ldB υ48 rfl (s2.get 1 rfl:Blk _ _ _ _) rfl))) fun _ h25=>?_
  refine sg h25 (wF h25 rfl rfl rfl) rfl rfl rfl (v:=ν (i1:Int)) (fun hC5=>by have hq:=(dF (AW hC5));exact (Aq h25 rfl rfl) _) fun _ h26=>sg h26 (wF h26 rfl rfl rfl) rfl rfl rfl (v:=.pointer (some ⟨q52,i1*3,none⟩)) (fun hC6=>by have hq:=(dF (AW hC6));exact (Ay h26 rfl (opg rfl hC6) (opg rfl hC6) (fun w=>ixO υ48 κ (sz:=3) (hq1 ω) (j:=i1) rfl ω ω w)) _) fun _ h27=>sg h27 (wF h27 rfl rfl rfl) rfl rfl rfl (v:=.pointer (some ⟨q52,i1*3+1,none⟩)) (fun hC7=>by have hq:=(dF (AW hC7));exact (rfa h27 rfl (opg rfl hC7) (fun w=>Ct q52 (i1*3) w)) _) fun _ h28=>sg h28 (wF h28 rfl rfl rfl) rfl rfl rfl (v:=.string ((F.E.getD i1 AU).nm)) (fun hC8=>by have hq:=(dF (AW hC8));exact (rld h28 rfl (opg rfl hC8) (BJ Dy υ9 rfl (s2.get 3 rfl:Own _ _ _ _ _ _ _ _) (hq1 ω) AU (j:=i1) (f:=1) ω (by decide) rfl rfl))) fun _ h29=>sg h29 (wF h29 rfl rfl rfl) rfl rfl rfl (v:=.string s) (fun hC9=>by have hq:=(dF (AW hC9));exact (Aq h29 rfl rfl) _) fun _ h30=>sg h30 (wF h30 rfl rfl rfl) rfl rfl rfl (v:=.bool (decide (((F.E.getD i1 AU).nm)≠s))) (fun hC10=>by have hq:=(dF (AW hC10));exact (BF h30 rfl (opg rfl hC10) (opg rfl hC10) (Ou _ _ _ ((F.E.getD i1 AU).nm) s rfl)) _) fun _ h31=>sv1 h31 rfl (v:=.bool ((decide (((F.E.getD i1 AU).dn:Int)≠(d:Int)))||(decide (((F.E.getD i1 AU).nm)≠s)))) (Ds h31 rfl (E:=(decide (((F.E.getD i1 AU).dn:Int)≠(d:Int)))) (F:=(decide (((F.E.getD i1 AU).nm)≠s))) rfl rfl rfl (fun e=>if_pos (by rw [e];try rfl))) fun _ h32=>h32.sn [38,7,6,0,1,2] rfl fun h33=>hK8 _ _ ?_
  rcases bC ((decide (((F.E.getD i1 AU).dn:Int)≠(d:Int)))||(decide (((F.E.getD i1 AU).nm)≠s))) with hc2 | hc2
  ·skip
   have hp2:(((F.E.getD i1 AU).dn:Int)≠(d:Int))∨(((F.E.getD i1 AU).nm)≠s):=((orT hc2).imp (fun q=>(dT q)) (fun q=>(dT q)))
   refine wcT h33 rfl hc2<|h33.sk [7,6,0,1,2] rfl fun h34=>wp_region_lit<|mvs 3 h34 rfl fun _ h35=>fav h35 rfl (AD _ _) fun _ h36=>ldv h36 s2 1 υ48 rfl rfl rfl rfl fun _ h37=>mv h37 rfl fun _ h38=>sv1 h38 rfl (Ay h38 rfl rfl rfl (fun w=>ixO υ48 κ (sz:=3) (hq1 ω) (j:=i1) rfl ω ω w)) fun _ h39=>sw1 h39 rfl (rld h39 rfl rfl (Lj Dy υ114 rfl κ (s2.get 3 rfl:Own _ _ _ _ _ _ _ _) (hq1 ω) AU ω rfl)) fun _ h40=>so (wn rfl) fun _ hK9=>Dd h40 rfl rfl rfl (E:=114) (xs:=[(0,.tmp 46)]) rfl (vs:=[(0,.agg #[ν ((F.E.getD i1 AU).dn:Int),.string ((F.E.getD i1 AU).nm),ν ((F.E.getD i1 AU).nd:Int)])]) rfl (z:=[ν ((F.E.getD i1 AU).dn:Int),.string ((F.E.getD i1 AU).nm),ν ((F.E.getD i1 AU).nd:Int)]) (fun _=>κ) s2 fun _ g1 w2 h41 s3 _ _=>hK9 _ _ ?_
   refine so (wn rfl) fun _ hK10=>EQ Dy h41 rfl rfl rfl rfl EEn s3 1 rfl rfl 0 (y:=(⟨(F.E.getD i1 AU).dn,((F.E.getD i1 AU).nm),(F.E.getD i1 AU).nd⟩:EntM)) rfl rfl rfl (by decide) ω (L':=BW (F.E.take (i1+1)) d s) (Qa ω hp2).symm fun _ p126 c127 w3 h42 s4=>hK10 _ _ ?_
   have s5:=s4.pk [1,2,3,4,5,6] rfl;clear s4
   refine h42.sk [48,47,46,45,44,43,42,41,40,39,7,0,1,2] rfl fun h43=>mv h43 rfl fun _ h44=>h44.sn [6,7,0,1,2] rfl fun h45=>hK5 _ _<|wp_region_lit<|mv h45 rfl fun _ h46=>bv h46 (z:=ν ((i1+1:Nat):Int)) rfl (DG _ _ _ ω ω ω) fun _ h47=>h47.sk [16,15,6,0,1,2] rfl fun h48=>mv h48 rfl fun _ h49=>h49.sk [7,6,0,1,2] rfl fun h50=>?_
   refine wpList_nil ?_
   exact hK1 (i1+1) p126 c127 _ _ ⟨h50.subs rfl,s5,(Nat.le_trans (List.length_filter_le ..) (by rw [List.length_take];omega))⟩ ω
  ·skip
   have hp3:(¬ (((F.E.getD i1 AU).dn:Int)≠(d:Int)))∧(¬ (((F.E.getD i1 AU).nm)≠s)):=(And.intro (dF (orF hc2).1) (dF (orF hc2).2))
   refine wcF h33 rfl hc2<|h33.sk [7,6,0,1,2] rfl fun h51=>wp_skip<|hK5 _ _<|wp_region_lit<|mv h51 rfl fun _ h52=>bv h52 (z:=ν ((i1+1:Nat):Int)) rfl (DG _ _ _ ω ω ω) fun _ h53=>h53.sk [16,15,6,0,1,2] rfl fun h54=>mv h54 rfl fun _ h55=>h55.sk [7,6,0,1,2] rfl fun h56=>wpList_nil ?_
   have e1:BW (F.E.take (i1+1)) d s=BW (F.E.take i1) d s:=RD ω hp3
   rw [← e1] at h56 s2
   exact hK1 (i1+1) ra18 rc19 _ _ ⟨h56.subs rfl,s2,(Nat.le_trans (List.length_filter_le ..) (by rw [List.length_take];omega))⟩ ω
 ·skip
  have hp4:¬ ((i1:Int)<(F.E.length:Int)):=(dF hc1)
  refine wcF h10 rfl hc1<|h10.sk [7,6,0,1,2] rfl fun h57=>wp_exit ?_
  refine hK6 _ _ ?_
  refine wp_region_lit<|mvs 3 h57 rfl fun _ h58=>fav h58 rfl (AD _ _) fun _ h59=>st1 h59 s2 1 rfl rfl κ rfl rfl rfl rfl fun _ w4 h60 s6 _=>h60.sk [7,6,0,1,2] rfl fun h61=>wpList_nil ?_
  refine Nz (v:=.tuple #[]) (fun _=>NX rfl _) h61.defs ?_
  have hw8:BW (F.E.take i1) d s=BW F.E d s:=by rw [List.take_of_length_le ω]
  exact ⟨na,nc,ra18,rc19,oa,oc,rfl,by rw [← hw8];exact Sep.tail_un (xs:=[_,_,_,_]) (s6.pk [1,2,0,4,5] rfl)⟩
theorem FP {w:World} {df:Nat} {na ea oa:Option Addr} {nc ec oc:Nat} {F:FsM} {R:List Ch} (hS0:Sep w ((dP df na nc ea ec oa oc F)++R)) (hz:SmF F) (d:Nat) (s:ByteArray):CallsR Tryz.prog 41 #[π df,ν (d:Int),.string s] w (fun v w'=>∃ na' nc' ea' ec' oa' oc',v=.tuple #[]∧Sep w' ([Ah df 51 [.slice na' ((As F d s).N.length) nc',.slice ea' ((As F d s).E.length) ec',.slice oa' ((As F d s).O.length) oc'],Ai 0 88 3 na' ((As F d s).N).length nc' (((As F d s).N).flatMap Ca),Ai 0 114 3 ea' ((As F d s).E).length ec' (((As F d s).E).flatMap BU),Ai 0 93 3 oa' ((As F d s).O).length oc' (((As F d s).O).flatMap BQ)]++R)):=Sk hS0 hz d s
theorem RR {w:World} {df:Nat} {na ea oa:Option Addr} {nc ec oc:Nat} {F:FsM} {R:List Ch} (hS0:Sep w ((dP df na nc ea ec oa oc F)++R)) (hz:SmF F) (c:Int) :
  CallsR Tryz.prog 26 #[π df,ν c] w (fun v w'=>∃ na' nc' ea' ec' oa' oc',v=.tuple #[]∧Sep w' ([Ah df 51 [.slice na' F.N.length nc',.slice ea' F.E.length ec',.slice oa' ((EP F.O c).length) oc'],Ai 0 88 3 na' F.N.length nc' (F.N.flatMap Ca),Ai 0 114 3 ea' F.E.length ec' (F.E.flatMap BU),Ai 0 93 3 oa' (EP F.O c).length oc' ((EP F.O c).flatMap BQ)]++R)):=by
 have hS:=Sep.tail_many (xs:=dP df na nc ea ec oa oc F) hS0;clear hS0
 have hz0:=hz;obtain ⟨hz1,hz2,hz3⟩:F.N.length≤1000∧F.E.length≤1000∧F.O.length≤1000:=hz
 refine AE Tryz.func26 rfl (N:=39) Tryz.ntmps26 (by show 2≤39;decide) [(0,π df),(1,ν c)] rfl fun _ h1=>sqr fun _ hK3=>mv h1 rfl fun _ h4=>wpList_nil<|hK3 _ _<|sq fun _ hK6=>sqr fun _ hK7=>mv h4 rfl fun _ h8=>wpList_nil<|hK7 _ _<|wp_block ?_
 have s1:=hS.ownNil 0 93 3
 refine Fj (fun (i:Nat) (ra:Option Addr) (rc:Nat) a' w'=>Kn 39 [(5,ν (i:Int)),(4,.slice ra ((EP (F.O.take i) c).length) rc),(0,π df),(1,ν c)] a'∧Sep w' [Ai 0 93 3 ra (EP (F.O.take i) c).length rc ((EP (F.O.take i) c).flatMap BQ),Ah df 51 [.slice na F.N.length nc,.slice ea F.E.length ec,.slice oa F.O.length oc],Ai 0 88 3 na F.N.length nc (F.N.flatMap Ca),Ai 0 114 3 ea F.E.length ec (F.E.flatMap BU),Ai 0 93 3 oa F.O.length oc (F.O.flatMap BQ),Ch.many R]∧((EP (F.O.take i) c).length≤i)) (fun (i:Nat) (ra:Option Addr) (rc:Nat)=>F.O.length-i) 0 none 0 ⟨h8.subs rfl,s1,Nat.le_refl 0⟩ ?_
 rintro i1 ra18 rc19 a1 w1 ⟨h2,s2,hrl16⟩ K1 hK1
 refine sq fun _ hK2=>sqr fun _ hK4=>mvs 3 h2 rfl fun _ h3=>fav h3 rfl (AB _ _) fun _ h5=>ldv h5 s2 1 υ49 rfl rfl rfl rfl fun _ h6=>sv1 h6 rfl (CR h6 rfl rfl υ49) fun _ h7=>bv h7 (z:=.bool (decide ((i1:Int)<(F.O.length:Int)))) rfl (cLt _ _ _ _ rfl) fun _ h9=>h9.sn [12,5,4,0,1] rfl fun h10=>hK4 _ _ ?_
 rcases bC (decide ((i1:Int)<(F.O.length:Int))) with hc1 | hc1
 ·skip
  have hp1:(i1:Int)<(F.O.length:Int):=(dT hc1)
  refine wcT h10 rfl hc1<|h10.sk [5,4,0,1] rfl fun h11=>wp_skip<|hK2 _ _<|sq fun _ hK5=>wp_block ?_
  refine sqr fun _ hK8=>mvs 2 h11 rfl fun _ h12=>fav h12 rfl (AB _ _) fun _ h13=>ldv h13 s2 1 υ49 rfl rfl rfl rfl fun _ h14=>mv h14 rfl fun _ h15=>?_
  obtain ⟨q52,hq1⟩:=AT (s2.get 4 rfl:Own _ _ _ _ _ _ _ _)
  refine sv1 h15 rfl (Ay h15 rfl rfl rfl (fun w=>ixO υ49 κ (sz:=3) (hq1 ω) (j:=i1) rfl ω ω w)) fun _ h16=>sv1 h16 rfl (rfa h16 rfl rfl (fun w=>DH q52 (i1*3) w)) fun _ h17=>sw1 h17 rfl (rld h17 rfl rfl (BJ DJ υ3 rfl (s2.get 4 rfl:Own _ _ _ _ _ _ _ _) (hq1 ω) BL (j:=i1) (f:=0) ω (by decide) rfl rfl)) fun _ h18=>mv h18 rfl fun _ h19=>bv h19 (z:=.bool (decide ((F.O.getD i1 BL).cl≠c))) rfl (cNe _ _ _ _ rfl) fun _ h20=>h20.sn [24,5,4,0,1] rfl fun h21=>hK8 _ _ ?_
  rcases bC (decide ((F.O.getD i1 BL).cl≠c)) with hc2 | hc2
  ·skip
   have hp2:(F.O.getD i1 BL).cl≠c:=(dT hc2)
   refine wcT h21 rfl hc2<|h21.sk [5,4,0,1] rfl fun h22=>wp_region_lit<|mvs 3 h22 rfl fun _ h23=>fav h23 rfl (AB _ _) fun _ h24=>ldv h24 s2 1 υ49 rfl rfl rfl rfl fun _ h25=>mv h25 rfl fun _ h26=>sv1 h26 rfl (Ay h26 rfl rfl rfl (fun w=>ixO υ49 κ (sz:=3) (hq1 ω) (j:=i1) rfl ω ω w)) fun _ h27=>sw1 h27 rfl (rld h27 rfl rfl (Lj DJ υ93 rfl κ (s2.get 4 rfl:Own _ _ _ _ _ _ _ _) (hq1 ω) BL ω rfl)) fun _ h28=>so (wn rfl) fun _ hK9=>Dd h28 rfl rfl rfl (E:=93) (xs:=[(0,.tmp 32)]) rfl (vs:=[(0,.agg #[ν ((F.O.getD i1 BL).cl),ν ((F.O.getD i1 BL).fd),ν ((F.O.getD i1 BL).nd:Int)])]) rfl (z:=[ν ((F.O.getD i1 BL).cl),ν ((F.O.getD i1 BL).fd),ν ((F.O.getD i1 BL).nd:Int)]) (fun _=>κ) s2 fun _ g1 w2 h29 s3 _ _=>hK9 _ _ ?_
   refine so (wn rfl) fun _ hK10=>EQ DJ h29 rfl rfl rfl rfl EOp s3 1 rfl rfl 0 (y:=(⟨(F.O.getD i1 BL).cl,(F.O.getD i1 BL).fd,(F.O.getD i1 BL).nd⟩:OpM)) rfl rfl rfl (by decide) ω (L':=EP (F.O.take (i1+1)) c) (Po ω hp2).symm fun _ p92 c93 w3 h30 s4=>hK10 _ _ ?_
   have s5:=s4.pk [1,2,3,4,5,6] rfl;clear s4
   refine h30.sk [34,33,32,31,30,29,28,27,26,25,5,0,1] rfl fun h31=>mv h31 rfl fun _ h32=>h32.sn [4,5,0,1] rfl fun h33=>hK5 _ _<|wp_region_lit<|mv h33 rfl fun _ h34=>bv h34 (z:=ν ((i1+1:Nat):Int)) rfl (DG _ _ _ ω ω ω) fun _ h35=>h35.sk [14,13,4,0,1] rfl fun h36=>mv h36 rfl fun _ h37=>h37.sk [5,4,0,1] rfl fun h38=>?_
   refine wpList_nil ?_
   exact hK1 (i1+1) p92 c93 _ _ ⟨h38.subs rfl,s5,(Nat.le_trans (List.length_filter_le ..) (by rw [List.length_take];omega))⟩ ω
  ·skip
   have hp3:¬ ((F.O.getD i1 BL).cl≠c):=(dF hc2)
   refine wcF h21 rfl hc2<|h21.sk [5,4,0,1] rfl fun h39=>wp_skip<|hK5 _ _<|wp_region_lit<|mv h39 rfl fun _ h40=>bv h40 (z:=ν ((i1+1:Nat):Int)) rfl (DG _ _ _ ω ω ω) fun _ h41=>h41.sk [14,13,4,0,1] rfl fun h42=>mv h42 rfl fun _ h43=>h43.sk [5,4,0,1] rfl fun h44=>wpList_nil ?_
   have e1:EP (F.O.take (i1+1)) c=EP (F.O.take i1) c:=QG ω hp3
   rw [← e1] at h44 s2
   exact hK1 (i1+1) ra18 rc19 _ _ ⟨h44.subs rfl,s2,(Nat.le_trans (List.length_filter_le ..) (by rw [List.length_take];omega))⟩ ω
 ·skip
  have hp4:¬ ((i1:Int)<(F.O.length:Int)):=(dF hc1)
  refine wcF h10 rfl hc1<|h10.sk [5,4,0,1] rfl fun h45=>wp_exit ?_
  refine hK6 _ _ ?_
  refine wp_region_lit<|mvs 3 h45 rfl fun _ h46=>fav h46 rfl (AB _ _) fun _ h47=>st1 h47 s2 1 rfl rfl κ rfl rfl rfl rfl fun _ w4 h48 s6 _=>h48.sk [5,4,0,1] rfl fun h49=>wpList_nil ?_
  refine Nz (v:=.tuple #[]) (fun _=>NX rfl _) h49.defs ?_
  have hw8:EP (F.O.take i1) c=EP F.O c:=by rw [List.take_of_length_le ω]
  exact ⟨na,nc,ea,ec,ra18,rc19,rfl,by rw [← hw8];exact Sep.tail_un (xs:=[_,_,_,_]) (s6.pk [1,2,3,0,5] rfl)⟩
theorem Pp {w:World} {df:Nat} {na ea oa:Option Addr} {nc ec oc:Nat} {F:FsM} {R:List Ch} (hS0:Sep w ((dP df na nc ea ec oa oc F)++R)) (hz:SmF F) (c:Int):CallsR Tryz.prog 26 #[π df,ν c] w (fun v w'=>∃ na' nc' ea' ec' oa' oc',v=.tuple #[]∧Sep w' ([Ah df 51 [.slice na' ((EB F c).N.length) nc',.slice ea' ((EB F c).E.length) ec',.slice oa' ((EB F c).O.length) oc'],Ai 0 88 3 na' ((EB F c).N).length nc' (((EB F c).N).flatMap Ca),Ai 0 114 3 ea' ((EB F c).E).length ec' (((EB F c).E).flatMap BU),Ai 0 93 3 oa' ((EB F c).O).length oc' (((EB F c).O).flatMap BQ)]++R)):=RR hS0 hz c
theorem AV {w:World} {R:List Ch} (hS0:Sep w R) (e:Int) :
  CallsR Tryz.prog 32 #[ν e] w (fun v w'=>v=.agg #[ν e,ν 0,σ [],.slice none 0 0,ν 0,ν 0,ν 0]∧Sep w' R):=by
 have hS:Sep w [Ch.many R]:=Sep.tail_many (xs:=[]) hS0;clear hS0
 refine AE Tryz.func32 rfl (N:=5) Tryz.ntmps32 (by show 1≤5;decide) [(0,ν e)] rfl fun _ h1=>sqr fun _ hK3=>so (wn rfl) fun _ hK1=>BE h1 rfl rfl rfl rfl (z:=zL) (fun _=>rfl) hS fun _ g4 w7 h5 s8 _ _=>hK1 _ _ ?_
 refine wpList_nil<|hK3 _ _<|sqr fun _ hK2=>mv h5 rfl fun _ h2=>bu h2 (v:=.agg #[ν e,ν 0,σ [],.slice none 0 0,ν 0,ν 0,ν 0]) rfl (fun w=>κ) fun _ h3=>stA h3 s8 0 rfl rfl rfl κ rfl rfl rfl rfl fun _ w1 h4 s1 _=>h4.sn [2,0] rfl fun h6=>hK2 _ _<|wp_ret ?_
 try simp only [Exit.then,Exit.inBlock]
 refine rC h6 s1 0 υ37 rfl rfl rfl rfl ?_
 exact ⟨rfl,Sep.tail_un (xs:=[]) (s1.pk [1] rfl)⟩
theorem OR {w:World} {R:List Ch} (hS0:Sep w R) (X:List UInt8) {n:Nat} (hX:X.length≤1000) (hn:n≤1000) :
  CallsR Tryz.prog 21 #[σ X,ν (n:Int)] w (fun v w'=>v=σ (Bc X n)∧Sep w' R):=by
 have hS:Sep w [Ch.many R]:=Sep.tail_many (xs:=[]) hS0;clear hS0
 refine AE Tryz.func21 rfl (N:=19) Tryz.ntmps21 (by show 2≤19;decide) [(0,σ X),(1,ν (n:Int))] rfl fun _ h1=>sqr fun _ hK3=>mv h1 rfl fun _ h4=>wpList_nil<|hK3 _ _<|sq fun _ hK6=>sqr fun _ hK7=>mvs 2 h4 rfl fun _ h2=>sv1 h2 rfl (CP h2 rfl rfl υ9) fun _ h3=>bv h3 (z:=.bool (decide ((n:Int)<(X.length:Int)))) rfl (cLt _ _ _ _ rfl) fun _ h5=>h5.sn [8,4,0,1] rfl fun h6=>hK7 _ _ ?_
 rcases bC (decide ((n:Int)<(X.length:Int))) with hc1 | hc1
 ·skip
  have hp1:(n:Int)<(X.length:Int):=(dT hc1)
  refine wcT h6 rfl hc1<|h6.sk [4,0,1] rfl fun h7=>sqr fun _ hK1=>mvs 2 h7 rfl fun _ h8=>sv1 h8 rfl (EK h8 rfl rfl (vl:=none) (vh:=(some (ν (n:Int)))) rfl rfl (fun w=>(fun w=>((slT 9 υ9 X (a:=0) (b:=n) (.inl ⟨rfl,rfl⟩) (.inr ⟨_,rfl,rfl⟩) ω ω) w).trans (by rw [List.drop_zero])) w)) fun _ h9=>h9.sk [11,10,9,0,1] rfl fun h10=>mv h10 rfl fun _ h11=>h11.sn [4,0,1] rfl fun h12=>hK1 _ _<|wp_ret ?_
  try simp only [Exit.then,Exit.inBlock]
  refine Bi (v:=.string (Ad (X.take n))) (Ce h12 rfl rfl) h12.defs ?_
  exact ⟨by rw [PT ω],Sep.tail_un (xs:=[]) hS⟩
 ·skip
  have hp2:¬ ((n:Int)<(X.length:Int)):=(dF hc1)
  refine wcF h6 rfl hc1<|h6.sk [4,0,1] rfl fun h13=>wp_skip<|hK6 _ _<|sq fun _ hK2=>wp_block ?_
  refine DK (fun (Y:List UInt8) a' w'=>Kn 19 [(4,σ []),(0,σ Y),(1,ν (n:Int))] a'∧Sep w' [Ch.many R]∧(Y.length≤n)∧(Bc X n=Bc Y n)) (fun (Y:List UInt8)=>n-Y.length) X ⟨h13.subs rfl,hS,ω,rfl⟩ ?_
  rintro Y41 a1 w1 ⟨h14,s1,hn39,hY40⟩ K1 hK4
  refine sq fun _ hK5=>sqr fun _ hK8=>mv h14 rfl fun _ h15=>sv1 h15 rfl (CP h15 rfl rfl υ9) fun _ h16=>mv h16 rfl fun _ h17=>bv h17 (z:=.bool (decide ((Y41.length:Int)<(n:Int)))) rfl (cLt _ _ _ _ rfl) fun _ h18=>h18.sn [15,4,0,1] rfl fun h19=>hK8 _ _ ?_
  rcases bC (decide ((Y41.length:Int)<(n:Int))) with hc2 | hc2
  ·skip
   have hp3:(Y41.length:Int)<(n:Int):=(dT hc2)
   refine wcT h19 rfl hc2<|h19.sk [4,0,1] rfl fun h20=>wp_skip<|hK5 _ _<|wp_block ?_
   refine wp_region_lit<|mv h20 rfl fun _ h21=>bv h21 (z:=σ (Y41++[0])) rfl (DQ _ _ _ Y41 [0] (by simp only [List.length_append,List.length_take,List.length_drop,List.length_cons,List.length_nil];omega)) fun _ h22=>h22.sk [17,16,4,1] rfl fun h23=>mv h23 rfl fun _ h24=>h24.sk [0,4,1] rfl fun h25=>wpList_nil ?_
   exact hK4 (Y41++[0]) _ _ ⟨h25.subs rfl,s1,(by rw [List.length_append];show Y41.length+1≤n;omega),(Og hY40 ω)⟩ (by rw [List.length_append];show n-(Y41.length+1)<_;omega)
  ·skip
   have hp4:¬ ((Y41.length:Int)<(n:Int)):=(dF hc2)
   refine wcF h19 rfl hc2<|h19.sk [4,0,1] rfl fun h26=>wp_exit ?_
   refine hK2 _ _ ?_
   refine sqr fun _ hK9=>mv h26 rfl fun _ h27=>h27.sk [18,0,1] rfl fun h28=>mv h28 rfl fun _ h29=>h29.sn [4,0,1] rfl fun h30=>hK9 _ _<|wp_ret ?_
   try simp only [Exit.then,Exit.inBlock]
   refine Bi (v:=σ Y41) (Ce h30 rfl rfl) h30.defs ?_
   exact ⟨by rw [hY40,Of ω],Sep.tail_un (xs:=[]) s1⟩
theorem OK {w:World} {R:List Ch} (hS0:Sep w R) (k:Int) (x:CallM) (h1:x.p1.length≤1000) (h2:x.p2.length≤1000) :
  CallsR Tryz.prog 67 #[.agg #[ν k,σ x.p1,σ x.p2,ν x.fl,ν x.fd,ν x.off,ν x.n,σ x.data]] w (fun v w'=>v=.bool (Ew x)∧Sep w' R):=by
 have hS:Sep w [Ch.many R]:=Sep.tail_many (xs:=[]) hS0;clear hS0
 refine AE Tryz.func67 rfl (N:=25) Tryz.ntmps67 (by show 1≤25;decide) [(0,.agg #[ν k,σ x.p1,σ x.p2,ν x.fl,ν x.fd,ν x.off,ν x.n,σ x.data])] rfl fun _ h1=>sqr fun _ hK3=>so (wn rfl) fun _ hK1=>Dc h1 rfl rfl rfl rfl rfl (z:=[ν k,σ x.p1,σ x.p2,ν x.fl,ν x.fd,ν x.off,ν x.n,σ x.data]) rfl hS fun _ g4 w7 h5 s8 _ _=>hK1 _ _ ?_
 refine mv h5 rfl fun _ h3=>wpList_nil<|hK3 _ _<|sqr fun _ hK2=>fav h3 rfl (Ao _ _) fun _ h4=>ldv h4 s8 0 υ9 rfl rfl rfl rfl fun _ h6=>?_
 rcases bC ((Ag x.p1).isSome) with hc1 | hc1
 ·skip
  obtain ⟨L21,hL22⟩:=Option.isSome_iff_exists.1 hc1
  have h7:=Do hL22
  refine cl h6 rfl Bh (EJ (X:=x.p1) s8 ω hL22) fun _ v1 w1 r1 h8=>?_
  obtain ⟨pax24,pcx25,rfl,s1⟩:=r1
  refine mvs 5 h8 rfl fun _ h9=>h9.sn [4,2,1,0] rfl fun h10=>hK2 _ _<|sqr fun _ hK4=>fav h10 rfl (AR _ _) fun _ h11=>ldv h11 s1 1 υ9 rfl rfl rfl rfl fun _ h12=>?_
  rcases bC ((Ag x.p2).isSome) with hc2 | hc2
  ·skip
   obtain ⟨L51,hL52⟩:=Option.isSome_iff_exists.1 hc2
   have h13:=Do hL52
   refine cl h12 rfl Bh (EJ (X:=x.p2) s1 ω hL52) fun _ v2 w2 r2 h14=>?_
   obtain ⟨pax54,pcx55,rfl,s2⟩:=r2
   refine mvs 5 h14 rfl fun _ h15=>h15.sn [6,4,2,1,0] rfl fun h16=>hK4 _ _<|sqr fun _ hK5=>mv h16 rfl fun _ h17=>bv h17 rfl (cEq _ _ _ _ rfl) fun _ h18=>mv h18 rfl fun _ h19=>sv h19 (wT h19 (E:=true) rfl rfl rfl) rfl rfl rfl (Aq h19 rfl rfl) fun _ h20=>sv h20 (wT h20 (E:=true) rfl rfl rfl) rfl rfl rfl (BF h20 rfl rfl rfl (cEq _ _ _ _ rfl)) fun _ h21=>sv1 h21 rfl (Eh h21 rfl rfl rfl) fun _ h22=>?_
   refine h22.sk [24,23,22,21,20,19,6,4,1,0] rfl fun h23=>mv h23 rfl fun _ h24=>h24.sn [2,6,4,1,0] rfl fun h25=>hK5 _ _<|wp_ret ?_
   try simp only [Exit.then,Exit.inBlock]
   refine Bi (v:=.bool true) (Ce h25 rfl rfl) h25.defs ?_
   exact ⟨congrArg Value.bool (HH hc1 hc2),Sep.tail_un (xs:=[]) (s2.pk [3] rfl)⟩
  ·skip
   refine cl h12 rfl Bh (Ff (X:=x.p2) s1 ω (AG hc2)) fun _ v3 w3 r3 h26=>?_
   obtain ⟨pax92,pcx93,rfl,s3⟩:=r3
   refine mvs 5 h26 rfl fun _ h27=>h27.sn [6,4,2,1,0] rfl fun h28=>hK4 _ _<|sqr fun _ hK6=>mv h28 rfl fun _ h29=>bv h29 rfl (cEq _ _ _ _ rfl) fun _ h30=>mv h30 rfl fun _ h31=>sv h31 (wT h31 (E:=true) rfl rfl rfl) rfl rfl rfl (Aq h31 rfl rfl) fun _ h32=>sv h32 (wT h32 (E:=true) rfl rfl rfl) rfl rfl rfl (BF h32 rfl rfl rfl (cEq _ _ _ _ rfl)) fun _ h33=>sv1 h33 rfl (Eh h33 rfl rfl rfl) fun _ h34=>?_
   refine h34.sk [24,23,22,21,20,19,6,4,1,0] rfl fun h35=>mv h35 rfl fun _ h36=>h36.sn [2,6,4,1,0] rfl fun h37=>hK6 _ _<|wp_ret ?_
   try simp only [Exit.then,Exit.inBlock]
   refine Bi (v:=.bool false) (Ce h37 rfl rfl) h37.defs ?_
   exact ⟨congrArg Value.bool (HH hc1 hc2),Sep.tail_un (xs:=[]) (s3.pk [2] rfl)⟩
 ·skip
  refine cl h6 rfl Bh (Ff (X:=x.p1) s8 ω (AG hc1)) fun _ v4 w4 r4 h38=>?_
  obtain ⟨pax130,pcx131,rfl,s4⟩:=r4
  refine mvs 5 h38 rfl fun _ h39=>h39.sn [4,2,1,0] rfl fun h40=>hK2 _ _<|sqr fun _ hK7=>fav h40 rfl (AR _ _) fun _ h41=>ldv h41 s4 0 υ9 rfl rfl rfl rfl fun _ h42=>?_
  rcases bC ((Ag x.p2).isSome) with hc3 | hc3
  ·skip
   obtain ⟨L157,hL158⟩:=Option.isSome_iff_exists.1 hc3
   have h43:=Do hL158
   refine cl h42 rfl Bh (EJ (X:=x.p2) s4 ω hL158) fun _ v5 w5 r5 h44=>?_
   obtain ⟨pax160,pcx161,rfl,s5⟩:=r5
   refine mvs 5 h44 rfl fun _ h45=>h45.sn [6,4,2,1,0] rfl fun h46=>hK7 _ _<|sqr fun _ hK8=>mv h46 rfl fun _ h47=>bv h47 rfl (cEq _ _ _ _ rfl) fun _ h48=>mv h48 rfl fun _ h49=>su h49 (wT h49 (E:=false) rfl rfl rfl) rfl rfl rfl fun _ h50=>su h50 (wT h50 (E:=false) rfl rfl rfl) rfl rfl rfl fun _ h51=>sv1 h51 rfl (Eh h51 rfl rfl rfl) fun _ h52=>?_
   refine h52.sk [24,23,22,21,20,19,6,4,1,0] rfl fun h53=>mv h53 rfl fun _ h54=>h54.sn [2,6,4,1,0] rfl fun h55=>hK8 _ _<|wp_ret ?_
   try simp only [Exit.then,Exit.inBlock]
   refine Bi (v:=.bool false) (Ce h55 rfl rfl) h55.defs ?_
   exact ⟨congrArg Value.bool (HH hc1 hc3),Sep.tail_un (xs:=[]) (s5.pk [2] rfl)⟩
  ·skip
   refine cl h42 rfl Bh (Ff (X:=x.p2) s4 ω (AG hc3)) fun _ v6 w6 r6 h56=>?_
   obtain ⟨pax198,pcx199,rfl,s6⟩:=r6
   refine mvs 5 h56 rfl fun _ h57=>h57.sn [6,4,2,1,0] rfl fun h58=>hK7 _ _<|sqr fun _ hK9=>mv h58 rfl fun _ h59=>bv h59 rfl (cEq _ _ _ _ rfl) fun _ h60=>mv h60 rfl fun _ h61=>su h61 (wT h61 (E:=false) rfl rfl rfl) rfl rfl rfl fun _ h62=>su h62 (wT h62 (E:=false) rfl rfl rfl) rfl rfl rfl fun _ h63=>sv1 h63 rfl (Eh h63 rfl rfl rfl) fun _ h64=>?_
   refine h64.sk [24,23,22,21,20,19,6,4,1,0] rfl fun h65=>mv h65 rfl fun _ h66=>h66.sn [2,6,4,1,0] rfl fun h67=>hK9 _ _<|wp_ret ?_
   try simp only [Exit.then,Exit.inBlock]
   refine Bi (v:=.bool false) (Ce h67 rfl rfl) h67.defs ?_
   exact ⟨congrArg Value.bool (HH hc1 hc3),Sep.tail_un (xs:=[]) (s6.pk [1] rfl)⟩
end
section
theorem Oh (L:List ByteArray) (x:ByteArray):Aw (L++[x])=Gb x (Aw L):=by unfold Aw;rw [List.foldl_append];rfl
theorem MF (x:ByteArray):∀ S,(Gb x S).length=S.length+1
 | []=>rfl
 | y::r=>by
  unfold Gb
  split
  ·rfl
  ·rw [List.length_cons,MF x r,List.length_cons]
theorem Ee (L:List ByteArray):(Aw L).length=L.length:=by
 suffices h:∀ (L A:List ByteArray),(L.foldl (fun acc x=>Gb x acc) A).length=A.length+L.length by
  unfold Aw;rw [h];simp
 intro L
 induction L with
 | nil=>intro A;simp
 | cons x r ih=>intro A;rw [List.foldl_cons,ih,MF,List.length_cons];omega
theorem Ev (E:List EntM) (d:Nat):(Al E d).length≤E.length:=by unfold Al;rw [List.length_map];exact List.length_filter_le _ _
theorem Rd {E:List EntM} {d i:Nat} (hi:i<E.length) (h:((E.getD i AU).dn:Int)≠(d:Int)):Aw (Al (E.take (i+1)) d)=Aw (Al (E.take i) d):=by
 unfold Al
 rw [Dk hi AU,List.filter_append,List.filter_cons,if_neg (by rw [decide_eq_true_eq];omega)]
 simp
theorem LE {E:List EntM} {d i:Nat} (hi:i<E.length) (h:¬ ((E.getD i AU).dn:Int)≠(d:Int)):Aw (Al (E.take (i+1)) d)=Gb (E.getD i AU).nm (Aw (Al (E.take i) d)):=by
 rw [← Oh]
 unfold Al
 rw [Dk hi AU,List.filter_append,List.filter_cons,if_pos (by rw [decide_eq_true_eq];omega),List.map_append];rfl
def FN (x:ByteArray) (s:List ByteArray×Bool) (y:ByteArray):List ByteArray×Bool:=if (!s.2&&ltN x y)=true then (s.1++[x]++[y],true) else (s.1++[y],s.2)
def stN (x:ByteArray) (S:List ByteArray) (j:Nat):List ByteArray×Bool:=(S.take j).foldl (FN x) ([],false)
theorem Nf (x:ByteArray) (S:List ByteArray) {j:Nat} (hj:j<S.length):stN x S (j+1)=FN x (stN x S j) (S.getD j AL):=by
 unfold stN
 rw [Dk hj AL,List.foldl_append];rfl
theorem Mq {x:ByteArray} {S:List ByteArray} {j:Nat} (hj:j<S.length) (h:(!(stN x S j).2&&ltN x (S.getD j AL))=true):(stN x S (j+1)).1=(stN x S j).1++[x]++[S.getD j AL]∧(stN x S (j+1)).2=true:=by
 rw [Nf x S hj,FN,if_pos h];exact ⟨rfl,rfl⟩
theorem Oj {x:ByteArray} {S:List ByteArray} {j:Nat} (hj:j<S.length) (h:(!(stN x S j).2&&ltN x (S.getD j AL))=false):(stN x S (j+1)).1=(stN x S j).1++[S.getD j AL]∧(stN x S (j+1)).2=(stN x S j).2:=by
 rw [Nf x S hj,FN,if_neg (by rw [h];exact Bool.false_ne_true)];exact ⟨rfl,rfl⟩
theorem Kl (x:ByteArray):∀ (S A:List ByteArray),S.foldl (FN x) (A,true)=(A++S,true)
 | [],A=>by simp
 | y::r,A=>by
  show r.foldl (FN x) (FN x (A,true) y)=_
  rw [show FN x (A,true) y=(A++[y],true) from rfl,Kl x r]
  simp
def Pq (x:ByteArray) (s:List ByteArray×Bool):List ByteArray:=if s.2=true then s.1 else s.1++[x]
theorem JD (x:ByteArray):∀ (S A:List ByteArray),Pq x (S.foldl (FN x) (A,false))=A++Gb x S
 | [],A=>rfl
 | y::r,A=>by
  show Pq x (r.foldl (FN x) (FN x (A,false) y))=_
  cases h:ltN x y with
  | true=>
   rw [show FN x (A,false) y=(A++[x]++[y],true) by unfold FN;simp [h],Kl]
   unfold Pq Gb
   simp [h]
  | false=>
   rw [show FN x (A,false) y=(A++[y],false) by unfold FN;simp [h],JD x r]
   show _=A++(if ltN x y=true then x::y::r else y::Gb x r)
   rw [h];simp
theorem My (x:ByteArray) (S:List ByteArray):Pq x (stN x S S.length)=Gb x S:=by
 unfold stN
 rw [List.take_length,JD];rfl
theorem QJ {x:ByteArray} {S:List ByteArray} {k:Nat} (hk:k≤S.length∧S.length≤k) (h:(stN x S k).2=true):(stN x S k).1=Gb x S:=by
 have e:k=S.length:=ω
 subst e
 rw [← My];unfold Pq;rw [if_pos h]
theorem QI {x:ByteArray} {S:List ByteArray} {k:Nat} (hk:k≤S.length∧S.length≤k) (h:(stN x S k).2=false):(stN x S k).1++[x]=Gb x S:=by
 have e:k=S.length:=ω
 subst e
 rw [← My];unfold Pq;rw [if_neg (by rw [h];exact Bool.false_ne_true)]
theorem Ne (x:ByteArray) (S:List ByteArray):∀ k,k≤S.length→(stN x S k).1.length=k+(if (stN x S k).2=true then 1 else 0)
 | 0,_=>rfl
 | k+1,h=>by
  have ih:=Ne x S k ω
  cases hc:(!(stN x S k).2&&ltN x (S.getD k AL)) with
  | true=>
   obtain ⟨e1,e2⟩:=Mq (x:=x) (S:=S) (j:=k) ω hc
   rw [e1,e2,if_pos rfl]
   have h2:(stN x S k).2=false:=by cases q:(stN x S k).2 with | false=>rfl | true=>rw [q] at hc;cases hc
   rw [h2,if_neg Bool.false_ne_true] at ih
   simp only [List.length_append,List.length_cons,List.length_nil];omega
  | false=>
   obtain ⟨e1,e2⟩:=Oj (x:=x) (S:=S) (j:=k) ω hc
   rw [e1,e2]
   simp only [List.length_append,List.length_cons,List.length_nil];omega
theorem OS (x:ByteArray) (S:List ByteArray) (k:Nat) (h:k≤S.length):(stN x S k).1.length≤k+1:=by
 rw [Ne x S k h];split<;>omega
theorem Iw {w:World} {df:Nat} {na ea oa:Option Addr} {nc ec oc:Nat} {F:FsM} {R:List Ch} {d:Nat} (hS0:Sep w ((dP df na nc ea ec oa oc F)++R)) (hz:SmF F) :
  CallsR Tryz.prog 44 #[π df,ν (d:Int)] w (fun v w'=>∃ sa sc,v=.slice sa (Aw (Al F.E d)).length sc∧Sep w' (Ai 0 9 1 sa (Aw (Al F.E d)).length sc ((Aw (Al F.E d)).flatMap sE)::(dP df na nc ea ec oa oc F)++R)):=by
 have hS:=Sep.tail_many (xs:=dP df na nc ea ec oa oc F) hS0;clear hS0
 have hz0:=hz;obtain ⟨hz1,hz2,hz3⟩:F.N.length≤1000∧F.E.length≤1000∧F.O.length≤1000:=hz
 refine AE Tryz.func44 rfl (N:=85) Tryz.ntmps44 (by show 2≤85;decide) [(0,π df),(1,ν (d:Int))] rfl fun _ h1=>sqr fun _ hK3=>mv h1 rfl fun _ h4=>wpList_nil<|hK3 _ _<|sqr fun _ hK6=>mv h4 rfl fun _ h7=>wpList_nil<|hK6 _ _<|sq fun _ hK9=>sqr fun _ hK1=>mv h7 rfl fun _ h2=>wpList_nil<|hK1 _ _ ?_
 refine wp_block ?_
 have s1:=hS.ownNil 0 9 1
 refine Fj (fun (i:Nat) (sa:Option Addr) (sc:Nat) a' w'=>Kn 85 [(6,ν (i:Int)),(5,.slice sa ((Aw (Al (F.E.take i) d)).length) sc),(4,.slice none 0 0),(0,π df),(1,ν (d:Int))] a'∧Sep w' [Ai 0 9 1 sa (Aw (Al (F.E.take i) d)).length sc ((Aw (Al (F.E.take i) d)).flatMap sE),Ah df 51 [.slice na F.N.length nc,.slice ea F.E.length ec,.slice oa F.O.length oc],Ai 0 88 3 na F.N.length nc (F.N.flatMap Ca),Ai 0 114 3 ea F.E.length ec (F.E.flatMap BU),Ai 0 93 3 oa F.O.length oc (F.O.flatMap BQ),Ch.many R]∧((Aw (Al (F.E.take i) d)).length≤i)) (fun (i:Nat) (sa:Option Addr) (sc:Nat)=>F.E.length-i) 0 none 0 ⟨h2.subs rfl,s1,Nat.le_refl 0⟩ ?_
 rintro i1 sa21 sc22 a1 w2 ⟨h3,s2,hsl19⟩ K1 hK2
 refine sq fun _ hK4=>sqr fun _ hK5=>mvs 3 h3 rfl fun _ h5=>fav h5 rfl (AD _ _) fun _ h6=>ldv h6 s2 1 υ48 rfl rfl rfl rfl fun _ h8=>sv1 h8 rfl (CR h8 rfl rfl υ48) fun _ h9=>bv h9 (z:=.bool (decide ((i1:Int)<(F.E.length:Int)))) rfl (cLt _ _ _ _ rfl) fun _ h10=>h10.sn [16,6,5,4,0,1] rfl fun h11=>hK5 _ _ ?_
 rcases bC (decide ((i1:Int)<(F.E.length:Int))) with hc1 | hc1
 ·skip
  have hp1:(i1:Int)<(F.E.length:Int):=(dT hc1)
  refine wcT h11 rfl hc1<|h11.sk [6,5,4,0,1] rfl fun h12=>wp_skip<|hK4 _ _<|sq fun _ hK7=>wp_block ?_
  refine sq fun _ hK8=>sqr fun _ hK10=>mvs 2 h12 rfl fun _ h13=>fav h13 rfl (AD _ _) fun _ h14=>ldv h14 s2 1 υ48 rfl rfl rfl rfl fun _ h15=>mv h15 rfl fun _ h16=>?_
  obtain ⟨q56,hq1⟩:=AT (s2.get 3 rfl:Own _ _ _ _ _ _ _ _)
  refine sv1 h16 rfl (Ay h16 rfl rfl rfl (fun w=>ixO υ48 κ (sz:=3) (hq1 ω) (j:=i1) rfl ω ω w)) fun _ h17=>sv1 h17 rfl (rfa h17 rfl rfl (fun w=>CM q56 (i1*3) w)) fun _ h18=>sw1 h18 rfl (rld h18 rfl rfl (BJ Dy υ3 rfl (s2.get 3 rfl:Own _ _ _ _ _ _ _ _) (hq1 ω) AU (j:=i1) (f:=0) ω (by decide) rfl rfl)) fun _ h19=>mv h19 rfl fun _ h20=>bv h20 (z:=.bool (decide (((F.E.getD i1 AU).dn:Int)≠(d:Int)))) rfl (cNe _ _ _ _ rfl) fun _ h21=>h21.sn [28,6,5,4,0,1] rfl fun h22=>hK10 _ _ ?_
  rcases bC (decide (((F.E.getD i1 AU).dn:Int)≠(d:Int))) with hc2 | hc2
  ·skip
   have hp2:((F.E.getD i1 AU).dn:Int)≠(d:Int):=(dT hc2)
   refine wcT h22 rfl hc2<|h22.sk [6,5,4,0,1] rfl fun h23=>wp_exit ?_
   refine hK7 _ _ ?_
   refine wp_region_lit<|mv h23 rfl fun _ h24=>bv h24 (z:=ν ((i1+1:Nat):Int)) rfl (DG _ _ _ ω ω ω) fun _ h25=>h25.sk [18,17,5,4,0,1] rfl fun h26=>mv h26 rfl fun _ h27=>h27.sk [6,5,4,0,1] rfl fun h28=>wpList_nil ?_
   have e1:Aw (Al (F.E.take (i1+1)) d)=Aw (Al (F.E.take i1) d):=Rd ω hp2
   rw [← e1] at h28 s2
   exact hK2 (i1+1) sa21 sc22 _ _ ⟨h28.subs rfl,s2,(by rw [Ee];exact Nat.le_trans (Ev _ _) (by rw [List.length_take];omega))⟩ ω
  ·skip
   have hp3:¬ (((F.E.getD i1 AU).dn:Int)≠(d:Int)):=(dF hc2)
   refine wcF h22 rfl hc2<|h22.sk [6,5,4,0,1] rfl fun h29=>wp_skip<|hK8 _ _<|sqr fun _ hK11=>mv h29 rfl fun _ h30=>wpList_nil<|hK11 _ _<|sqr fun _ hK12=>mv h30 rfl fun _ h31=>wpList_nil<|hK12 _ _<|sq fun _ hK13=>sq fun _ hK14=>wp_region_lit ?_
   refine mv h31 rfl fun _ h32=>wpList_nil<|hK14 _ _<|wp_block ?_
   have s3:=s2.ownNil 0 9 1
   refine Fj (fun (k:Nat) (ta:Option Addr) (tc:Nat) a' w'=>Kn 85 [(9,ν (k:Int)),(8,.bool ((stN ((F.E.getD i1 AU).nm) (Aw (Al (F.E.take i1) d)) k).2)),(7,.slice ta (((stN ((F.E.getD i1 AU).nm) (Aw (Al (F.E.take i1) d)) k).1).length) tc),(6,ν (i1:Int)),(5,.slice sa21 ((Aw (Al (F.E.take i1) d)).length) sc22),(4,.slice none 0 0),(0,π df),(1,ν (d:Int))] a'∧Sep w' [Ai 0 9 1 ta ((stN ((F.E.getD i1 AU).nm) (Aw (Al (F.E.take i1) d)) k).1).length tc (((stN ((F.E.getD i1 AU).nm) (Aw (Al (F.E.take i1) d)) k).1).flatMap sE),Ai 0 9 1 sa21 (Aw (Al (F.E.take i1) d)).length sc22 ((Aw (Al (F.E.take i1) d)).flatMap sE),Ah df 51 [.slice na F.N.length nc,.slice ea F.E.length ec,.slice oa F.O.length oc],Ai 0 88 3 na F.N.length nc (F.N.flatMap Ca),Ai 0 114 3 ea F.E.length ec (F.E.flatMap BU),Ai 0 93 3 oa F.O.length oc (F.O.flatMap BQ),Ch.many R]∧((stN ((F.E.getD i1 AU).nm) (Aw (Al (F.E.take i1) d)) k).1.length≤k+1)∧(k≤(Aw (Al (F.E.take i1) d)).length)) (fun (k:Nat) (ta:Option Addr) (tc:Nat)=>(Aw (Al (F.E.take i1) d)).length-k) 0 none 0 ⟨h32.subs rfl,s3,Nat.zero_le _,Nat.zero_le _⟩ ?_
   rintro k1 ta102 tc103 a2 w3 ⟨h33,s4,htl99,hkl100⟩ K2 hK15
   refine sq fun _ hK16=>sqr fun _ hK17=>mvs 2 h33 rfl fun _ h34=>sv1 h34 rfl (CR h34 rfl rfl υ33) fun _ h35=>bv h35 (z:=.bool (decide ((k1:Int)<(((Aw (Al (F.E.take i1) d)).length:Nat):Int)))) rfl (cLt _ _ _ _ rfl) fun _ h36=>h36.sn [32,9,8,7,6,5,4,0,1] rfl fun h37=>hK17 _ _ ?_
   rcases bC (decide ((k1:Int)<(((Aw (Al (F.E.take i1) d)).length:Nat):Int))) with hc3 | hc3
   ·skip
    have hp4:(k1:Int)<(((Aw (Al (F.E.take i1) d)).length:Nat):Int):=(dT hc3)
    refine wcT h37 rfl hc3<|h37.sk [9,8,7,6,5,4,0,1] rfl fun h38=>wp_skip<|hK16 _ _<|sq fun _ hK18=>wp_block ?_
    refine sq fun _ hK19=>sq fun _ hK20=>?_
    have s5:=s4.drew
    refine wp_region_held_drew (S:=fun w'=>Sep w' [Ai 0 9 1 ta102 ((stN ((F.E.getD i1 AU).nm) (Aw (Al (F.E.take i1) d)) k1).1).length tc103 (((stN ((F.E.getD i1 AU).nm) (Aw (Al (F.E.take i1) d)) k1).1).flatMap sE),Ai 0 9 1 sa21 (Aw (Al (F.E.take i1) d)).length sc22 ((Aw (Al (F.E.take i1) d)).flatMap sE),Ah df 51 [.slice na F.N.length nc,.slice ea F.E.length ec,.slice oa F.O.length oc],Ai 0 88 3 na F.N.length nc (F.N.flatMap Ca),Ai 0 114 3 ea F.E.length ec (F.E.flatMap BU),Ai 0 93 3 oa F.O.length oc (F.O.flatMap BQ),Ch.many R]) κ s5 (fun hq2=>?_)
    refine tv1 hq2 h38 0 rfl rfl (fun w1 _=>(Aq h38 rfl rfl) w1) fun _ h39=>?_
    refine tv1 hq2 h39 1 rfl rfl (fun w1 _=>(Oa h39 rfl (b:=(stN ((F.E.getD i1 AU).nm) (Aw (Al (F.E.take i1) d)) k1).2) rfl) w1) fun _ h40=>?_
    refine tv1 hq2 h40 2 rfl rfl (fun w1 _=>(Aq h40 rfl rfl) w1) fun _ h41=>?_
    refine tgv hq2 h41 3 rfl rfl rfl rfl κ κ κ (fun _ _ _ _ h=>h) (wT h41 rfl rfl rfl) (v:=π df) (fun w1 hSw hC1=>by have hq:=(AW hC1);exact (Aq h41 rfl rfl) w1) fun _ h42=>?_
    refine tgv hq2 h42 4 rfl rfl rfl rfl κ κ κ (fun _ _ _ _ h=>h) (wT h42 rfl rfl rfl) (v:=π df) (fun w1 hSw hC2=>by have hq:=(AW hC2);exact (CJ h42 rfl (opg rfl hC2)) w1) fun _ h43=>?_
    refine tgv hq2 h43 5 rfl rfl rfl rfl κ κ κ (fun _ _ _ _ h=>h) (wT h43 rfl rfl rfl) (v:=.pointer (some ⟨df,1,none⟩)) (fun w1 hSw hC3=>by have hq:=(AW hC3);exact (rfa h43 rfl (opg rfl hC3) (fun w=>AD df 0 w)) w1) fun _ h44=>?_
    refine tgv hq2 h44 6 rfl rfl rfl rfl κ κ κ (fun _ _ _ _ h=>h) (wT h44 rfl rfl rfl) (v:=.slice ea F.E.length ec) (fun w1 hSw hC4=>by have hq:=(AW hC4);exact (rld h44 rfl (opg rfl hC4) (ldB υ48 rfl (hSw.get 2 rfl:Blk _ _ _ _) rfl))) fun _ h45=>?_
    refine tgv hq2 h45 7 rfl rfl rfl rfl κ κ κ (fun _ _ _ _ h=>h) (wT h45 rfl rfl rfl) (v:=ν (i1:Int)) (fun w1 hSw hC5=>by have hq:=(AW hC5);exact (Aq h45 rfl rfl) w1) fun _ h46=>?_
    refine tgv hq2 h46 8 rfl rfl rfl rfl κ κ κ (fun _ _ _ _ h=>h) (wT h46 rfl rfl rfl) (v:=.pointer (some ⟨q56,i1*3,none⟩)) (fun w1 hSw hC6=>by have hq:=(AW hC6);exact (Ay h46 rfl (opg rfl hC6) (opg rfl hC6) (fun w=>ixO υ48 κ (sz:=3) (hq1 ω) (j:=i1) rfl ω ω w)) w1) fun _ h47=>?_
    refine tgv hq2 h47 9 rfl rfl rfl rfl κ κ κ (fun _ _ _ _ h=>h) (wT h47 rfl rfl rfl) (v:=.pointer (some ⟨q56,i1*3+1,none⟩)) (fun w1 hSw hC7=>by have hq:=(AW hC7);exact (rfa h47 rfl (opg rfl hC7) (fun w=>Ct q56 (i1*3) w)) w1) fun _ h48=>?_
    refine tgv hq2 h48 10 rfl rfl rfl rfl κ κ κ (fun _ _ _ _ h=>h) (wT h48 rfl rfl rfl) (v:=.string ((F.E.getD i1 AU).nm)) (fun w1 hSw hC8=>by have hq:=(AW hC8);exact (rld h48 rfl (opg rfl hC8) (BJ Dy υ9 rfl (hSw.get 4 rfl:Own _ _ _ _ _ _ _ _) (hq1 ω) AU (j:=i1) (f:=1) ω (by decide) rfl rfl))) fun _ h49=>?_
    refine tgv hq2 h49 11 rfl rfl rfl rfl κ κ κ (fun _ _ _ _ h=>h) (wT h49 rfl rfl rfl) (v:=.slice sa21 ((Aw (Al (F.E.take i1) d)).length) sc22) (fun w1 hSw hC9=>by have hq:=(AW hC9);exact (Aq h49 rfl rfl) w1) fun _ h50=>?_
    refine tgv hq2 h50 12 rfl rfl rfl rfl κ κ κ (fun _ _ _ _ h=>h) (wT h50 rfl rfl rfl) (v:=ν (k1:Int)) (fun w1 hSw hC10=>by have hq:=(AW hC10);exact (Aq h50 rfl rfl) w1) fun _ h51=>?_
    obtain ⟨q160,hq3⟩:=AT (s5.get 1 rfl:Own _ _ _ _ _ _ _ _)
    refine tgv hq2 h51 13 rfl rfl rfl rfl κ κ κ (fun _ _ _ _ h=>h) (wT h51 rfl rfl rfl) (v:=.pointer (some ⟨q160,k1,none⟩)) (fun w1 hSw hC11=>by have hq:=(AW hC11);exact (Ay h51 rfl (opg rfl hC11) (opg rfl hC11) (fun w=>ixO υ33 κ (sz:=1) (hq3 ω) (j:=k1) rfl ω ω w)) w1) fun _ h52=>?_
    refine tgv hq2 h52 14 rfl rfl rfl rfl κ κ κ (fun _ _ _ _ h=>h) (wT h52 rfl rfl rfl) (v:=.string ((Aw (Al (F.E.take i1) d)).getD k1 AL)) (fun w1 hSw hC12=>by have hq:=(AW hC12);exact (rld h52 rfl (opg rfl hC12) (BJ Ea υ9 rfl (hSw.get 1 rfl:Own _ _ _ _ _ _ _ _) (hq3 ω) AL (j:=k1) (f:=0) ω (by decide) ω rfl))) fun _ h53=>?_
    refine tgv hq2 h53 15 rfl rfl rfl rfl κ κ κ (fun _ _ _ _ h=>h) (wT h53 rfl rfl rfl) (v:=.bool (ltN ((F.E.getD i1 AU).nm) ((Aw (Al (F.E.take i1) d)).getD k1 AL))) (fun w1 hSw hC13=>by have hq:=(AW hC13);exact (BF h53 rfl (opg rfl hC13) (opg rfl hC13) (SH _ _ _ ((F.E.getD i1 AU).nm) ((Aw (Al (F.E.take i1) d)).getD k1 AL))) w1) fun _ h54=>?_
    refine tv1 hq2 h54 16 rfl rfl (fun w1 _=>(Ej h54 rfl (E:=(!((stN ((F.E.getD i1 AU).nm) (Aw (Al (F.E.take i1) d)) k1).2))) (F:=(ltN ((F.E.getD i1 AU).nm) ((Aw (Al (F.E.take i1) d)).getD k1 AL))) rfl rfl rfl (fun e=>if_pos (by rw [e];try rfl))) w1) fun _ h55=>?_
    refine h55.sk [51,9,8,7,6,5,4,0,1] rfl fun h56=>?_
    refine wpAnyH_done κ ?_ _
    refine hK20 _ _ ?_
    rcases bC ((!((stN ((F.E.getD i1 AU).nm) (Aw (Al (F.E.take i1) d)) k1).2))&&(ltN ((F.E.getD i1 AU).nm) ((Aw (Al (F.E.take i1) d)).getD k1 AL))) with hc4 | hc4
    ·skip
     have hp5:(((stN ((F.E.getD i1 AU).nm) (Aw (Al (F.E.take i1) d)) k1).2)=false)∧((ltN ((F.E.getD i1 AU).nm) ((Aw (Al (F.E.take i1) d)).getD k1 AL))=true):=(And.intro (AW (AA hc4).1) (AA hc4).2)
     refine wcT h56 rfl hc4<|h56.sk [9,8,7,6,5,4,0,1] rfl fun h57=>sqr fun _ hK21=>mvs 3 h57 rfl fun _ h58=>fav h58 rfl (AD _ _) fun _ h59=>ldv h59 s5 2 υ48 rfl rfl rfl rfl fun _ h60=>mv h60 rfl fun _ h61=>sv1 h61 rfl (Ay h61 rfl rfl rfl (fun w=>ixO υ48 κ (sz:=3) (hq1 ω) (j:=i1) rfl ω ω w)) fun _ h62=>sv1 h62 rfl (rfa h62 rfl rfl (fun w=>Ct q56 (i1*3) w)) fun _ h63=>sw1 h63 rfl (rld h63 rfl rfl (BJ Dy υ9 rfl (s5.get 4 rfl:Own _ _ _ _ _ _ _ _) (hq1 ω) AU (j:=i1) (f:=1) ω (by decide) rfl rfl)) fun _ h64=>?_
     refine so (wn rfl) fun _ hK22=>Dd h64 rfl rfl rfl (E:=9) (xs:=[(0,.tmp 60)]) rfl (vs:=[(0,.string ((F.E.getD i1 AU).nm))]) rfl (z:=[.string ((F.E.getD i1 AU).nm)]) (fun _=>κ) s5 fun _ g1 w4 h65 s6 _ _=>hK22 _ _ ?_
     refine so (wn rfl) fun _ hK23=>EQ Ea h65 rfl rfl rfl rfl ESt s6 1 rfl rfl 0 (y:=((F.E.getD i1 AU).nm)) rfl rfl rfl (by decide) ω (L':=(stN ((F.E.getD i1 AU).nm) (Aw (Al (F.E.take i1) d)) k1).1++[((F.E.getD i1 AU).nm)]) rfl fun _ p203 c204 w5 h66 s7=>hK23 _ _ ?_
     have s8:=s7.pk [1,2,3,4,5,6,7] rfl;clear s7
     refine h66.sk [62,61,60,59,58,57,56,55,54,53,52,9,8,6,5,4,0,1] rfl fun h67=>mv h67 rfl fun _ h68=>h68.sn [7,9,8,6,5,4,0,1] rfl fun h69=>hK21 _ _<|wp_region_lit<|h69.sk [7,9,6,5,4,0,1] rfl fun h70=>mv h70 rfl fun _ h71=>wpList_nil<|hK19 _ _<|wp_region_lit<|mvs 3 h71 rfl fun _ h72=>?_
     refine sv1 h72 rfl (v:=.pointer (some ⟨q160,k1,none⟩)) (Ay h72 rfl rfl rfl (fun w=>ixO υ33 κ (sz:=1) (hq3 ω) (j:=k1) rfl ω ω w)) fun _ h73=>sw1 h73 rfl (v:=.string ((Aw (Al (F.E.take i1) d)).getD k1 AL)) (rld h73 rfl rfl (BJ Ea υ9 rfl (s8.get 1 rfl:Own _ _ _ _ _ _ _ _) (hq3 ω) AL (j:=k1) (f:=0) ω (by decide) ω rfl)) fun _ h74=>so (wn rfl) fun _ hK24=>Dd h74 rfl rfl rfl (E:=9) (xs:=[(0,.tmp 67)]) rfl (vs:=[(0,.string ((Aw (Al (F.E.take i1) d)).getD k1 AL))]) rfl (z:=[.string ((Aw (Al (F.E.take i1) d)).getD k1 AL)]) (fun _=>κ) s8 fun _ g2 w6 h75 s9 _ _=>hK24 _ _ ?_
     refine so (wn rfl) fun _ hK25=>EQ Ea h75 rfl rfl rfl rfl ESt s9 1 rfl rfl 0 (y:=((Aw (Al (F.E.take i1) d)).getD k1 AL)) rfl rfl rfl (by decide) (by (try rw [List.length_append]);simp only [List.length_cons,List.length_nil];omega) (L':=(stN ((F.E.getD i1 AU).nm) (Aw (Al (F.E.take i1) d)) (k1+1)).1) (Mq ω hc4).1.symm fun _ p236 c237 w7 h76 s10=>hK25 _ _ ?_
     have s11:=s10.pk [1,2,3,4,5,6,7] rfl;clear s10
     refine h76.sk [69,68,67,66,65,64,63,8,9,6,5,4,0,1] rfl fun h77=>mv h77 rfl fun _ h78=>h78.sn [7,8,9,6,5,4,0,1] rfl fun h79=>hK18 _ _<|wp_region_lit<|mv h79 rfl fun _ h80=>bv h80 (z:=ν ((k1+1:Nat):Int)) rfl (DG _ _ _ ω ω ω) fun _ h81=>h81.sk [34,33,7,8,6,5,4,0,1] rfl fun h82=>mv h82 rfl fun a3 h83=>h83.sk [9,7,8,6,5,4,0,1] rfl fun h84=>?_
     refine wpList_nil ?_
     have e2:(stN ((F.E.getD i1 AU).nm) (Aw (Al (F.E.take i1) d)) (k1+1)).2=true:=(Mq ω hc4).2
     have h85:Kn 85 [(9,ν ((k1+1:Nat):Int)),(7,.slice p236 (((stN ((F.E.getD i1 AU).nm) (Aw (Al (F.E.take i1) d)) (k1+1)).1).length) c237),(8,.bool ((stN ((F.E.getD i1 AU).nm) (Aw (Al (F.E.take i1) d)) (k1+1)).2)),(6,ν (i1:Int)),(5,.slice sa21 ((Aw (Al (F.E.take i1) d)).length) sc22),(4,.slice none 0 0),(0,π df),(1,ν (d:Int))] a3:=by rw [e2];exact h84
     exact hK15 (k1+1) p236 c237 _ _ ⟨h85.subs rfl,s11,(by have z:=OS ((F.E.getD i1 AU).nm) (Aw (Al (F.E.take i1) d)) (k1+1) ω;exact z),ω⟩ ω
    ·skip
     have hp6:(((stN ((F.E.getD i1 AU).nm) (Aw (Al (F.E.take i1) d)) k1).2)=true)∨((ltN ((F.E.getD i1 AU).nm) ((Aw (Al (F.E.take i1) d)).getD k1 AL))=false):=((IG hc4).imp (fun q=>(DC q)) (fun q=>q))
     refine wcF h56 rfl hc4<|h56.sk [9,8,7,6,5,4,0,1] rfl fun h86=>wp_skip<|hK19 _ _<|wp_region_lit<|mvs 3 h86 rfl fun _ h87=>sv1 h87 rfl (v:=.pointer (some ⟨q160,k1,none⟩)) (Ay h87 rfl rfl rfl (fun w=>ixO υ33 κ (sz:=1) (hq3 ω) (j:=k1) rfl ω ω w)) fun _ h88=>sw1 h88 rfl (v:=.string ((Aw (Al (F.E.take i1) d)).getD k1 AL)) (rld h88 rfl rfl (BJ Ea υ9 rfl (s5.get 1 rfl:Own _ _ _ _ _ _ _ _) (hq3 ω) AL (j:=k1) (f:=0) ω (by decide) ω rfl)) fun _ h89=>so (wn rfl) fun _ hK26=>Dd h89 rfl rfl rfl (E:=9) (xs:=[(0,.tmp 67)]) rfl (vs:=[(0,.string ((Aw (Al (F.E.take i1) d)).getD k1 AL))]) rfl (z:=[.string ((Aw (Al (F.E.take i1) d)).getD k1 AL)]) (fun _=>κ) s5 fun _ g3 w8 h90 s12 _ _=>hK26 _ _ ?_
     refine so (wn rfl) fun _ hK27=>EQ Ea h90 rfl rfl rfl rfl ESt s12 1 rfl rfl 0 (y:=((Aw (Al (F.E.take i1) d)).getD k1 AL)) rfl rfl rfl (by decide) ω (L':=(stN ((F.E.getD i1 AU).nm) (Aw (Al (F.E.take i1) d)) (k1+1)).1) (Oj ω hc4).1.symm fun _ p278 c279 w9 h91 s13=>hK27 _ _ ?_
     have s14:=s13.pk [1,2,3,4,5,6,7] rfl;clear s13
     refine h91.sk [69,68,67,66,65,64,63,9,8,6,5,4,0,1] rfl fun h92=>mv h92 rfl fun _ h93=>h93.sn [7,9,8,6,5,4,0,1] rfl fun h94=>hK18 _ _<|wp_region_lit<|mv h94 rfl fun _ h95=>bv h95 (z:=ν ((k1+1:Nat):Int)) rfl (DG _ _ _ ω ω ω) fun _ h96=>h96.sk [34,33,7,8,6,5,4,0,1] rfl fun h97=>mv h97 rfl fun a4 h98=>h98.sk [9,7,8,6,5,4,0,1] rfl fun h99=>?_
     refine wpList_nil ?_
     have e3:(stN ((F.E.getD i1 AU).nm) (Aw (Al (F.E.take i1) d)) (k1+1)).2=(stN ((F.E.getD i1 AU).nm) (Aw (Al (F.E.take i1) d)) k1).2:=(Oj ω hc4).2
     have h100:Kn 85 [(9,ν ((k1+1:Nat):Int)),(7,.slice p278 (((stN ((F.E.getD i1 AU).nm) (Aw (Al (F.E.take i1) d)) (k1+1)).1).length) c279),(8,.bool ((stN ((F.E.getD i1 AU).nm) (Aw (Al (F.E.take i1) d)) (k1+1)).2)),(6,ν (i1:Int)),(5,.slice sa21 ((Aw (Al (F.E.take i1) d)).length) sc22),(4,.slice none 0 0),(0,π df),(1,ν (d:Int))] a4:=by rw [e3];exact h99
     exact hK15 (k1+1) p278 c279 _ _ ⟨h100.subs rfl,s14,(by have z:=OS ((F.E.getD i1 AU).nm) (Aw (Al (F.E.take i1) d)) (k1+1) ω;exact z),ω⟩ ω
   ·skip
    have hp7:¬ ((k1:Int)<(((Aw (Al (F.E.take i1) d)).length:Nat):Int)):=(dF hc3)
    refine wcF h37 rfl hc3<|h37.sk [9,8,7,6,5,4,0,1] rfl fun h101=>wp_exit ?_
    refine hK13 _ _ ?_
    refine sq fun _ hK28=>sqr fun _ hK29=>mvs 2 h101 rfl fun _ h102=>h102.sn [71,9,8,7,6,5,4,0,1] rfl fun h103=>hK29 _ _ ?_
    rcases bC ((stN ((F.E.getD i1 AU).nm) (Aw (Al (F.E.take i1) d)) k1).2) with hc5 | hc5
    ·skip
     refine wcF h103 rfl (Bq hc5)<|h103.sk [9,8,7,6,5,4,0,1] rfl fun h104=>wp_skip<|hK28 _ _<|wp_region_lit<|mv h104 rfl fun _ h105=>h105.sk [83,9,8,7,6,4,0,1] rfl fun h106=>mv h106 rfl fun _ h107=>h107.sn [5,9,8,7,6,4,0,1] rfl fun h108=>hK7 _ _<|wp_region_lit ?_
     refine mv h108 rfl fun _ h109=>bv h109 (z:=ν ((i1+1:Nat):Int)) rfl (DG _ _ _ ω ω ω) fun _ h110=>h110.sk [18,17,5,9,8,7,4,0,1] rfl fun h111=>mv h111 rfl fun _ h112=>h112.sk [6,5,9,8,7,4,0,1] rfl fun h113=>wpList_nil ?_
     have e4:Aw (Al (F.E.take (i1+1)) d)=(stN ((F.E.getD i1 AU).nm) (Aw (Al (F.E.take i1) d)) k1).1:=(LE ω hp3).trans (QJ ω hc5).symm
     rw [← e4] at h113 s4
     exact hK2 (i1+1) ta102 tc103 _ _ ⟨h113.subs rfl,(s4.pk [0,2,3,4,5,6] rfl),(by rw [Ee];exact Nat.le_trans (Ev _ _) (by rw [List.length_take];omega))⟩ ω
    ·skip
     refine wcT h103 rfl (Bt hc5)<|h103.sk [9,8,7,6,5,4,0,1] rfl fun h114=>wp_region_lit<|mvs 3 h114 rfl fun _ h115=>fav h115 rfl (AD _ _) fun _ h116=>ldv h116 s4 2 υ48 rfl rfl rfl rfl fun _ h117=>mv h117 rfl fun _ h118=>sv1 h118 rfl (Ay h118 rfl rfl rfl (fun w=>ixO υ48 κ (sz:=3) (hq1 ω) (j:=i1) rfl ω ω w)) fun _ h119=>sv1 h119 rfl (rfa h119 rfl rfl (fun w=>Ct q56 (i1*3) w)) fun _ h120=>sw1 h120 rfl (rld h120 rfl rfl (BJ Dy υ9 rfl (s4.get 4 rfl:Own _ _ _ _ _ _ _ _) (hq1 ω) AU (j:=i1) (f:=1) ω (by decide) rfl rfl)) fun _ h121=>?_
     refine so (wn rfl) fun _ hK30=>Dd h121 rfl rfl rfl (E:=9) (xs:=[(0,.tmp 80)]) rfl (vs:=[(0,.string ((F.E.getD i1 AU).nm))]) rfl (z:=[.string ((F.E.getD i1 AU).nm)]) (fun _=>κ) s4 fun _ g4 w10 h122 s15 _ _=>hK30 _ _ ?_
     refine so (wn rfl) fun _ hK31=>EQ Ea h122 rfl rfl rfl rfl ESt s15 1 rfl rfl 0 (y:=((F.E.getD i1 AU).nm)) rfl rfl rfl (by decide) ω (L':=Aw (Al (F.E.take (i1+1)) d)) ((LE ω hp3).trans (QI ω hc5).symm).symm fun _ p355 c356 w11 h123 s16=>hK31 _ _ ?_
     have s17:=s16.pk [1,2,3,4,5,6,7] rfl;clear s16
     refine h123.sk [82,81,80,79,78,77,76,75,74,73,72,9,8,6,5,4,0,1] rfl fun h124=>mv h124 rfl fun _ h125=>h125.sn [7,9,8,6,5,4,0,1] rfl fun h126=>hK28 _ _<|wp_region_lit<|mv h126 rfl fun _ h127=>h127.sk [83,7,9,8,6,4,0,1] rfl fun h128=>mv h128 rfl fun _ h129=>h129.sn [5,7,9,8,6,4,0,1] rfl fun h130=>hK7 _ _ ?_
     refine wp_region_lit<|mv h130 rfl fun _ h131=>bv h131 (z:=ν ((i1+1:Nat):Int)) rfl (DG _ _ _ ω ω ω) fun _ h132=>h132.sk [18,17,5,7,9,8,4,0,1] rfl fun h133=>mv h133 rfl fun _ h134=>h134.sk [6,5,7,9,8,4,0,1] rfl fun h135=>wpList_nil ?_
     exact hK2 (i1+1) p355 c356 _ _ ⟨h135.subs rfl,(s17.pk [0,2,3,4,5,6] rfl),(by rw [Ee];exact Nat.le_trans (Ev _ _) (by rw [List.length_take];omega))⟩ ω
 ·skip
  have hp8:¬ ((i1:Int)<(F.E.length:Int)):=(dF hc1)
  refine wcF h11 rfl hc1<|h11.sk [6,5,4,0,1] rfl fun h136=>wp_exit ?_
  refine hK9 _ _ ?_
  refine sqr fun _ hK32=>mv h136 rfl fun _ h137=>h137.sk [84,6,5,0,1] rfl fun h138=>mv h138 rfl fun _ h139=>h139.sn [4,6,5,0,1] rfl fun h140=>hK32 _ _<|wp_ret ?_
  try simp only [Exit.then,Exit.inBlock]
  refine Bi (v:=.slice sa21 ((Aw (Al (F.E.take i1) d)).length) sc22) (Ce h140 rfl rfl) h140.defs ?_
  have hw8:Aw (Al (F.E.take i1) d)=Aw (Al F.E d):=by rw [List.take_of_length_le ω]
  exact ⟨sa21,sc22,by rw [← hw8],by rw [← hw8];exact Sep.tail_un (xs:=[_,_,_,_,_]) s2⟩
end
section
theorem FsM.at_set {F:FsM} {n:Nat} (hn:n<F.N.length) (x:NodeM) (E:List EntM) (O:List OpM) (i:Nat):(FsM.at ⟨F.N.set n x,E,O⟩ i)=if i=n then x else F.at i:=by
  unfold FsM.at
  simp only [List.getD_eq_getElem?_getD]
  rw [List.getElem?_set]
  by_cases h:n=i
  · subst h;rw [if_pos rfl,if_pos rfl,if_pos hn];rfl
  · rw [if_neg h,if_neg (fun e=>h e.symm)]
theorem FsM.at_snoc (F:FsM) (x:NodeM) (E:List EntM) (O:List OpM) (i:Nat):(FsM.at ⟨F.N++[x],E,O⟩ i)=if i=F.N.length then x else F.at i:=by
  unfold FsM.at
  simp only [List.getD_eq_getElem?_getD]
  rcases Nat.lt_trichotomy i F.N.length with h | h | h
  · rw [List.getElem?_append_left h,if_neg ω]
  · subst h;rw [List.getElem?_append_right (Nat.le_refl _),Nat.sub_self,if_pos rfl];rfl
  · rw [List.getElem?_eq_none (by rw [List.length_append];show F.N.length+1≤i;omega),if_neg ω,List.getElem?_eq_none ω]
theorem PE (E:List EntM) (d m d':Nat) (s s':ByteArray):Aj (E++[⟨d,s,m⟩]) d' s'=(Aj E d' s').or (if d'=d∧s'=s then some m else none):=by
  unfold Aj
  rw [List.find?_append]
  cases h:E.find? (fun x=>decide (x.dn=d'∧x.nm=s')) with
  | some x=>rfl
  | none=>
    rw [Option.none_or,List.find?_cons]
    by_cases hq:d'=d∧s'=s
    · obtain ⟨rfl,rfl⟩:=hq
      rw [decide_eq_true (show d'=d'∧s'=s' from ⟨rfl,rfl⟩),if_pos ⟨rfl,rfl⟩];rfl
    · rw [decide_eq_false (show ¬ (d=d'∧s=s') from fun q=>hq ⟨q.1.symm,q.2.symm⟩),if_neg hq];rfl
theorem Dh {E:List EntM} {d m:Nat} {s:ByteArray} (h:Aj E d s=none) (d':Nat) (s':ByteArray):Aj (E++[⟨d,s,m⟩]) d' s'=if d'=d∧s'=s then some m else Aj E d' s':=by
  rw [PE]
  by_cases hq:d'=d∧s'=s
  · rw [if_pos hq,if_pos hq,hq.1,hq.2,h];rfl
  · rw [if_neg hq,if_neg hq,Option.or_none]
theorem Bw (E:List EntM) (d d':Nat) (s s':ByteArray):Aj (BW E d s) d' s'=if d'=d∧s'=s then none else Aj E d' s':=by
  unfold Aj BW
  rw [List.find?_filter]
  by_cases hq:d'=d∧s'=s
  · obtain ⟨rfl,rfl⟩:=hq
    rw [if_pos ⟨rfl,rfl⟩,List.find?_eq_none.2 (fun x _=>by by_cases z:x.dn=d'∧x.nm=s'<;>simp [z])];rfl
  · rw [if_neg hq]
    congr 1
    congr 1
    funext x
    by_cases z:x.dn=d'∧x.nm=s'
    · rw [decide_eq_true z,decide_eq_false (show ¬ (x.dn=d∧x.nm=s) from fun q=>hq ⟨z.1.symm.trans q.1,z.2.symm.trans q.2⟩)];rfl
    · simp [z]
theorem PH (O:List OpM) (c fd c' fd':Int) (m:Nat):Az (O++[⟨c,fd,m⟩]) c' fd'=(Az O c' fd').or (if c'=c∧fd'=fd then some m else none):=by
  unfold Az
  rw [List.find?_append]
  cases h:O.find? (fun x=>decide (x.cl=c'∧x.fd=fd')) with
  | some x=>rfl
  | none=>
    rw [Option.none_or,List.find?_cons]
    by_cases hq:c'=c∧fd'=fd
    · obtain ⟨rfl,rfl⟩:=hq
      rw [decide_eq_true (show c'=c'∧fd'=fd' from ⟨rfl,rfl⟩),if_pos ⟨rfl,rfl⟩];rfl
    · rw [decide_eq_false (show ¬ (c=c'∧fd=fd') from fun q=>hq ⟨q.1.symm,q.2.symm⟩),if_neg hq];rfl
theorem Gs {O:List OpM} {c fd:Int} {m:Nat} (h:Az O c fd=none) (c' fd':Int):Az (O++[⟨c,fd,m⟩]) c' fd'=if c'=c∧fd'=fd then some m else Az O c' fd':=by
  rw [PH]
  by_cases hq:c'=c∧fd'=fd
  · rw [if_pos hq,if_pos hq,hq.1,hq.2,h];rfl
  · rw [if_neg hq,if_neg hq,Option.or_none]
theorem Iv (O:List OpM) (c fd c' fd':Int):Az (Df O c fd) c' fd'=if c'=c∧fd'=fd then none else Az O c' fd':=by
  unfold Az Df
  rw [List.find?_filter]
  by_cases hq:c'=c∧fd'=fd
  · obtain ⟨rfl,rfl⟩:=hq
    rw [if_pos ⟨rfl,rfl⟩,List.find?_eq_none.2 (fun x _=>by by_cases z:x.cl=c'∧x.fd=fd'<;>simp [z])];rfl
  · rw [if_neg hq]
    congr 1
    congr 1
    funext x
    by_cases z:x.cl=c'∧x.fd=fd'
    · rw [decide_eq_true z,decide_eq_false (show ¬ (x.cl=c∧x.fd=fd) from fun q=>hq ⟨z.1.symm.trans q.1,z.2.symm.trans q.2⟩)];rfl
    · simp [z]
theorem Kv {E:List EntM} {d:Nat} {s:ByteArray} (h:Aj E d s=none):∀ x∈E,¬ (x.dn=d∧x.nm=s):=by
  intro x hx hq
  unfold Aj at h
  have:=List.find?_eq_none.1 (Option.map_eq_none_iff.1 h) x hx
  exact this (decide_eq_true hq)
theorem NI {O:List OpM} {c fd:Int} (h:Az O c fd=none):∀ x∈O,¬ (x.cl=c∧x.fd=fd):=by
  intro x hx hq
  unfold Az at h
  have:=List.find?_eq_none.1 (Option.map_eq_none_iff.1 h) x hx
  exact this (decide_eq_true hq)
theorem IQ {E:List EntM} (hd:E.Pairwise (fun x y=>¬ (x.dn=y.dn∧x.nm=y.nm))) {x:EntM} (hx:x∈E):Aj E x.dn x.nm=some x.nd:=by
  induction E with
  | nil=>cases hx
  | cons y r ih=>
    rw [List.pairwise_cons] at hd
    unfold Aj
    rw [List.find?_cons]
    by_cases hq:y.dn=x.dn∧y.nm=x.nm
    · rw [decide_eq_true hq]
      rcases List.mem_cons.1 hx with e | e
      · rw [e];rfl
      · exact absurd hq (hd.1 x e)
    · rw [decide_eq_false hq]
      rcases List.mem_cons.1 hx with e | e
      · exact absurd ⟨by rw [e],by rw [e]⟩ hq
      · exact ih hd.2 e
theorem Qu (E:List EntM) (x:EntM) (i:Nat):FB (E++[x]) i=FB E i+(if i=x.nd then 1 else 0):=by
  unfold FB
  rw [List.filter_append,List.length_append,List.filter_cons]
  by_cases h:x.nd=i
  · rw [if_pos (decide_eq_true h),if_pos h.symm];rfl
  · rw [if_neg (by rw [decide_eq_true_eq];exact h),if_neg (fun e=>h e.symm)];rfl
theorem Ok {E:List EntM} {d:Nat} {s:ByteArray} (h:∀ x∈E,¬ (x.dn=d∧x.nm=s)):BW E d s=E:=by
  unfold BW
  exact List.filter_eq_self.2 fun x hx=>by rw [decide_eq_false (h x hx)];rfl
theorem Ji (y:EntM) (r:List EntM) (i:Nat):FB (y::r) i=FB r i+(if i=y.nd then 1 else 0):=by
  unfold FB
  rw [List.filter_cons]
  by_cases h:y.nd=i
  · rw [if_pos (decide_eq_true h),if_pos h.symm];rfl
  · rw [if_neg (by rw [decide_eq_true_eq];exact h),if_neg (fun e=>h e.symm)];rfl
theorem Pg {E:List EntM} (hd:E.Pairwise (fun x y=>¬ (x.dn=y.dn∧x.nm=y.nm))) {d m:Nat} {s:ByteArray} (h:Aj E d s=some m) (i:Nat):FB E i=FB (BW E d s) i+(if i=m then 1 else 0):=by
  induction E with
  | nil=>cases h
  | cons y r ih=>
    rw [List.pairwise_cons] at hd
    by_cases hq:y.dn=d∧y.nm=s
    · have e1:BW (y::r) d s=r:=by
        rw [show BW (y::r) d s=BW r d s by unfold BW;rw [List.filter_cons,if_neg (by rw [decide_eq_true hq];exact Bool.false_ne_true)]]
        exact Ok fun x hx q=>hd.1 x hx ⟨hq.1.trans q.1.symm,hq.2.trans q.2.symm⟩
      have e2:y.nd=m:=by
        unfold Aj at h
        rw [List.find?_cons,decide_eq_true hq] at h
        exact Option.some.inj h
      rw [e1,Ji,e2]
    · have e1:BW (y::r) d s=y::BW r d s:=by unfold BW;rw [List.filter_cons,if_pos (by rw [decide_eq_false hq];rfl)]
      have e2:Aj r d s=some m:=by
        unfold Aj at h ⊢
        rw [List.find?_cons,decide_eq_false hq] at h
        exact h
      rw [e1,Ji,Ji,ih hd.2 e2];omega
theorem Qv {E:List EntM} {m:Nat}:(∃ x∈E,x.nd=m)↔0<FB E m:=by
  unfold FB
  rw [List.length_pos_iff_exists_mem]
  constructor
  · rintro ⟨x,hx,h⟩;exact ⟨x,List.mem_filter.2 ⟨hx,decide_eq_true h⟩⟩
  · rintro ⟨x,hx⟩;obtain ⟨h1,h2⟩:=List.mem_filter.1 hx;exact ⟨x,h1,of_decide_eq_true h2⟩
theorem FsC.put {F:FsM} {δ:Nat→Int} (h:FsC F δ) {d m:Nat} {s:ByteArray} (hd:d<F.N.length∧F.dir d=true) (hm:m<F.N.length∧0<m) (hs:mayN s=true) (hl:Aj F.E d s=none) (hu:F.dir m=true→∀ x∈F.E,x.nd≠m) :
    FsC (Br F d s m) (fun i=>δ i-if i=m then 1 else 0) where
  n0:=h.n0
  e x hx:=by
    rcases List.mem_append.1 hx with q | q
    · exact h.e x q
    · rw [List.mem_singleton.1 q];exact ⟨hd,hm,hs⟩
  ed:=by
    show (F.E++[_]).Pairwise _
    rw [List.pairwise_append]
    refine ⟨h.ed,List.pairwise_singleton _ _,fun x hx y hy q=>?_⟩
    rw [List.mem_singleton.1 hy] at q
    exact Kv hl x hx q
  du:=by
    show (F.E++[_]).Pairwise _
    rw [List.pairwise_append]
    refine ⟨h.du,List.pairwise_singleton _ _,fun x hx y hy q=>?_⟩
    rw [List.mem_singleton.1 hy] at q
    have q':x.nd=m:=q
    show F.dir x.nd=false
    cases hq:F.dir x.nd with
    | false=>rfl
    | true=>exact absurd q' (hu (by rw [← q'];exact hq) x hx)
  o:=h.o
  od:=h.od
  k i hi:=by
    obtain ⟨k1,k2,k3⟩:=h.k i hi
    refine ⟨k1,k2,fun q=>?_⟩
    have z:=k3 q
    show (F.at i).links=((FB (F.E++[_]) i:Nat):Int)+_
    rw [Qu]
    show _=((FB F.E i+(if i=m then 1 else 0):Nat):Int)+(δ i-if i=m then 1 else 0)
    by_cases e:i=m
    · rw [if_pos e,if_pos e];omega
    · rw [if_neg e,if_neg e];omega
theorem FsC.take {F:FsM} {δ:Nat→Int} (h:FsC F δ) {d m:Nat} {s:ByteArray} (hl:Aj F.E d s=some m) :
    FsC (As F d s) (fun i=>δ i+if i=m then 1 else 0) where
  n0:=h.n0
  e x hx:=h.e x (List.mem_filter.1 hx).1
  ed:=h.ed.filter _
  du:=h.du.filter _
  o:=h.o
  od:=h.od
  k i hi:=by
    obtain ⟨k1,k2,k3⟩:=h.k i hi
    refine ⟨k1,k2,fun q=>?_⟩
    have z:=k3 q
    have y:=Pg h.ed hl i
    show (F.at i).links=((FB (BW F.E d s) i:Nat):Int)+(δ i+if i=m then 1 else 0)
    by_cases e:i=m
    · rw [if_pos e] at y ⊢;omega
    · rw [if_neg e] at y ⊢;omega
theorem FsC.link {F:FsM} {δ:Nat→Int} (h:FsC F δ) {n:Nat} (hn:n<F.N.length) (hf:F.dir n=false) (j:Int):FsC (By F n j) (fun i=>δ i+if i=n then j else 0):=by
  have ea:∀ i,(By F n j).at i=if i=n then { F.at n with links:=(F.at n).links+j } else F.at i:=fun i=>FsM.at_set hn _ _ _ i
  have ed:∀ i,(By F n j).dir i=F.dir i:=fun i=>by
    show ((By F n j).at i).dir=_
    rw [ea]
    by_cases e:i=n
    · rw [if_pos e,e];rfl
    · rw [if_neg e];rfl
  have el:(By F n j).N.length=F.N.length:=List.length_set
  exact {
    n0:=by rw [el,ed];exact h.n0
    e:=fun x hx=>by rw [el,ed];exact h.e x hx
    ed:=h.ed
    du:=h.du.imp fun {x y} q e=>by rw [ed];exact q e
    o:=fun x hx=>by rw [el,ed];exact h.o x hx
    od:=h.od
    k:=fun i hi=>by
      rw [el] at hi
      obtain ⟨k1,k2,k3⟩:=h.k i hi
      rw [ed,ea]
      by_cases e:i=n
      · subst e
        rw [if_pos rfl]
        refine ⟨k1,fun q=>?_,fun q=>?_⟩
        · rw [hf] at q;cases q
        · have z:=k3 q
          show (F.at i).links+j=((FB F.E i:Nat):Int)+(δ i+if i=i then j else 0)
          rw [if_pos rfl];omega
      · rw [if_neg e]
        refine ⟨k1,k2,fun q=>?_⟩
        have z:=k3 q
        show (F.at i).links=((FB F.E i:Nat):Int)+(δ i+if i=n then j else 0)
        rw [if_neg e];omega }
theorem He {F:FsM} {n:Nat} (hn:n<F.N.length) (X:List UInt8) (i:Nat):(BS F n X).at i=if i=n then { F.at n with data:=X } else F.at i:=FsM.at_set hn _ _ _ i
theorem Gj {F:FsM} {n:Nat} (hn:n<F.N.length) (X:List UInt8) (i:Nat):(BS F n X).dir i=F.dir i:=by
  show ((BS F n X).at i).dir=_
  rw [He hn]
  by_cases e:i=n
  · rw [if_pos e,e];rfl
  · rw [if_neg e];rfl
theorem Hl {F:FsM} {n:Nat} (hn:n<F.N.length) (j:Int) (i:Nat):(By F n j).at i=if i=n then { F.at n with links:=(F.at n).links+j } else F.at i:=FsM.at_set hn _ _ _ i
theorem Dz {F:FsM} {n:Nat} (hn:n<F.N.length) (j:Int) (i:Nat):(By F n j).dir i=F.dir i:=by
  show ((By F n j).at i).dir=_
  rw [Hl hn]
  by_cases e:i=n
  · rw [if_pos e,e];rfl
  · rw [if_neg e];rfl
theorem FsC.data {F:FsM} {δ:Nat→Int} (h:FsC F δ) {n:Nat} (hn:n<F.N.length) {X:List UInt8} (hX:X.length≤256):FsC (BS F n X) δ:=by
  have ea:=He hn X
  have ed:=Gj hn X
  have el:(BS F n X).N.length=F.N.length:=List.length_set
  exact {
    n0:=by rw [el,ed];exact h.n0
    e:=fun x hx=>by rw [el,ed];exact h.e x hx
    ed:=h.ed
    du:=h.du.imp fun {x y} q e=>by rw [ed];exact q e
    o:=fun x hx=>by rw [el,ed];exact h.o x hx
    od:=h.od
    k:=fun i hi=>by
      rw [el] at hi
      obtain ⟨k1,k2,k3⟩:=h.k i hi
      rw [ed,ea]
      by_cases e:i=n
      · subst e
        rw [if_pos rfl]
        exact ⟨hX,k2,k3⟩
      · rw [if_neg e]
        exact ⟨k1,k2,k3⟩ }
theorem Fc (F:FsM) (b:Bool) (i:Nat):(AH F b).at i=if i=F.N.length then ⟨b,[],1⟩ else F.at i:=FsM.at_snoc F _ _ _ i
theorem CN (F:FsM) (b:Bool):(AH F b).N.length=F.N.length+1:=List.length_append
theorem Di (F:FsM) (b:Bool) (i:Nat):(AH F b).dir i=if i=F.N.length then b else F.dir i:=by
  show ((AH F b).at i).dir=_
  rw [Fc]
  by_cases e:i=F.N.length
  · rw [if_pos e,if_pos e]
  · rw [if_neg e,if_neg e];rfl
theorem FsC.cnt0 {F:FsM} {δ:Nat→Int} (h:FsC F δ) {i:Nat} (hi:F.N.length≤i):FB F.E i=0:=by
  rcases Nat.eq_zero_or_pos (FB F.E i) with q | q
  · exact q
  · obtain ⟨x,hx,e⟩:=Qv.2 q
    have:=(h.e x hx).2.1.1
    omega
theorem FsC.node {F:FsM} {δ:Nat→Int} (h:FsC F δ) (b:Bool):FsC (AH F b) (fun i=>if i=F.N.length then 1 else δ i):=by
  have ea:=Fc F b
  have ed:=Di F b
  have el:=CN F b
  have ed':∀ i,i<F.N.length→(AH F b).dir i=F.dir i:=fun i hi=>by rw [ed,if_neg ω]
  exact {
    n0:=by rw [el,ed' 0 h.n0.1];exact ⟨ω,h.n0.2⟩
    e:=fun x hx=>by
      obtain ⟨q1,q2,q3⟩:=h.e x hx
      rw [el,ed' _ q1.1];exact ⟨⟨ω,q1.2⟩,⟨ω,q2.2⟩,q3⟩
    ed:=h.ed
    du:=List.Pairwise.imp_of_mem (fun {x y} hx hy q e=>by rw [ed' _ (h.e x hx).2.1.1];exact q e) h.du
    o:=fun x hx=>by
      obtain ⟨q1,q2,q3⟩:=h.o x hx
      rw [el,ed' _ q1.1];exact ⟨⟨ω,q1.2⟩,q2,q3⟩
    od:=h.od
    k:=fun i hi=>by
      rw [el] at hi
      rw [ed,ea]
      by_cases e:i=F.N.length
      · rw [if_pos e,if_pos e]
        refine ⟨Nat.zero_le _,fun _=>rfl,fun _=>?_⟩
        show (1:Int)=((FB F.E i:Nat):Int)+(if i=F.N.length then 1 else δ i)
        rw [if_pos e,h.cnt0 ω];rfl
      · rw [if_neg e,if_neg e]
        obtain ⟨k1,k2,k3⟩:=h.k i ω
        refine ⟨k1,k2,fun q=>?_⟩
        show (F.at i).links=((FB F.E i:Nat):Int)+(if i=F.N.length then 1 else δ i)
        rw [if_neg e];exact k3 q }
theorem FsC.fd {F:FsM} {δ:Nat→Int} (h:FsC F δ) {c fd:Int} {m:Nat} (hm:m<F.N.length∧F.dir m=false) (hc:1≤c∧c≤8) (hf:0≤fd∧fd<8) (hl:Az F.O c fd=none):FsC (fdF F c fd m) δ where
  n0:=h.n0
  e:=h.e
  ed:=h.ed
  du:=h.du
  o x hx:=by
    rcases List.mem_append.1 hx with q | q
    · exact h.o x q
    · rw [List.mem_singleton.1 q];exact ⟨hm,hc,hf⟩
  od:=by
    show (F.O++[_]).Pairwise _
    rw [List.pairwise_append]
    refine ⟨h.od,List.pairwise_singleton _ _,fun x hx y hy q=>?_⟩
    rw [List.mem_singleton.1 hy] at q
    exact NI hl x hx q
  k:=h.k
theorem FsC.unO {F:FsM} {δ:Nat→Int} (h:FsC F δ) (p:OpM→Bool):FsC { F with O:=F.O.filter p } δ where
  n0:=h.n0
  e:=h.e
  ed:=h.ed
  du:=h.du
  o x hx:=h.o x (List.mem_filter.1 hx).1
  od:=h.od.filter _
  k:=h.k
theorem FsC.eq {F:FsM} {δ δ':Nat→Int} (h:FsC F δ) (e:∀ i,i<F.N.length→F.dir i=false→δ i=δ' i):FsC F δ':=
  { h with k:=fun i hi=>⟨(h.k i hi).1,(h.k i hi).2.1,fun q=>by rw [← e i hi q];exact (h.k i hi).2.2 q⟩ }
theorem QN:FsOk fs0 where
  n0:=⟨by decide,rfl⟩
  e x hx:=by cases hx
  ed:=List.Pairwise.nil
  du:=List.Pairwise.nil
  o x hx:=by cases hx
  od:=List.Pairwise.nil
  k i hi:=by
    have:i=0:=by have:i<1:=hi;omega
    subst this
    exact ⟨by decide,fun _=>rfl,fun q=>by cases q⟩
  l20 i hi:=by
    have:i=0:=by have:i<1:=hi;omega
    subst this
    decide
end
section
theorem GB (F:FsM):∀ (M:List ByteArray) (n:Nat) (x:ByteArray),Am F n (M++[x])=if (Am F n M).1=0 then (if F.dir (Am F n M).2=true then (match Aj F.E (Am F n M).2 x with | none=>(10,0) | some m=>(0,m)) else (12,0)) else Am F n M
  | [],n,x=>by
    show Am F n [x]=_
    rw [show Am F n []=(0,n) from rfl,if_pos rfl]
    rfl
  | s::L,n,x=>by
    show Am F n (s::(L++[x]))=_
    unfold Am
    by_cases hd:F.dir n=true
    · rw [if_pos hd,if_pos hd]
      cases Aj F.E n s with
      | none=>rfl
      | some m=>exact GB F L m x
    · rw [if_neg hd,if_neg hd];rfl
theorem FI {X:List UInt8} {L:List ByteArray} (h:Ag X=some L):L.all mayN=true:=by
  unfold Ag at h
  split at h
  · cases h;rfl
  · cases X with
    | nil=>cases h
    | cons b r=>
      by_cases hb:b=47
      · have h':DZ r=some L:=by rw [FM,if_pos hb] at h;exact h
        by_cases hc:(Bs r).length≤6∧((Bs r).map Ad).all mayN=true
        · rw [DZ,if_pos hc] at h'
          rw [← Option.some.inj h'];exact hc.2
        · rw [DZ,if_neg hc] at h';cases h'
      · rw [FM,if_neg hb] at h;cases h
theorem EF {F:FsM} {X:List UInt8} (h:(Aa F X).1=0):∃ M x,Ag X=some (M++[x])∧(Am F 0 M).1=0∧F.dir (Am F 0 M).2=true∧Aa F X=(0,(Am F 0 M).2,x):=by
  cases hp:Ag X with
  | none=>rw [Fz hp] at h;cases h
  | some L=>
    rcases CC L with e | ⟨M,x,e⟩
    · rw [e] at hp;rw [ET hp] at h;cases h
    · rw [e] at hp
      refine ⟨M,x,by rw [e],?_⟩
      rw [Cz hp] at h ⊢
      unfold EU at h ⊢
      by_cases h1:(Am F 0 M).1=0
      · rw [if_pos h1] at h ⊢
        by_cases h2:F.dir (Am F 0 M).2=true
        · rw [if_pos h2];exact ⟨h1,h2,rfl⟩
        · rw [if_neg h2] at h;cases h
      · rw [if_neg h1] at h;exact absurd h h1
theorem NB {F:FsM} {X:List UInt8} (h:(Aa F X).1=0):Ab F X=(match Aj F.E (Aa F X).2.1 (Aa F X).2.2 with | none=>(10,0) | some m=>(0,m)):=by
  obtain ⟨M,x,hp,h1,h2,e⟩:=EF h
  rw [e,CY hp,GB,if_pos h1,if_pos h2]
theorem Bg {F:FsM} {X:List UInt8} (h:(Ab F X).1=0) (hn:¬ Ag X=some []):(Aa F X).1=0∧Aj F.E (Aa F X).2.1 (Aa F X).2.2=some (Ab F X).2:=by
  cases hp:Ag X with
  | none=>rw [Hi hp] at h;cases h
  | some L=>
    rcases CC L with e | ⟨M,x,e⟩
    · rw [e] at hp;exact absurd hp hn
    · rw [e] at hp
      have hf:=CY (F:=F) hp
      rw [GB] at hf
      have hq:=Cz (F:=F) hp
      by_cases h1:(Am F 0 M).1=0
      · rw [if_pos h1] at hf
        by_cases h2:F.dir (Am F 0 M).2=true
        · rw [if_pos h2] at hf
          rw [EU,if_pos h1,if_pos h2] at hq
          rw [hq]
          refine ⟨rfl,?_⟩
          show Aj F.E (Am F 0 M).2 x=_
          cases hl:Aj F.E (Am F 0 M).2 x with
          | none=>rw [hl] at hf;rw [hf] at h;cases h
          | some m=>rw [hl] at hf;rw [hf]
        · rw [if_neg h2] at hf;rw [hf] at h;cases h
      · rw [if_neg h1] at hf;rw [hf] at h;exact absurd h h1
theorem Cq {X:List UInt8}:Ag X=some []↔X=[47]:=by
  constructor
  · intro h
    by_cases e:X=[47]
    · exact e
    · unfold Ag at h
      rw [if_neg e] at h
      cases X with
      | nil=>cases h
      | cons b r=>
        by_cases hb:b=47
        · have h':DZ r=some []:=by rw [FM,if_pos hb] at h;exact h
          by_cases hc:(Bs r).length≤6∧((Bs r).map Ad).all mayN=true
          · rw [DZ,if_pos hc] at h'
            have z:(Bs r).map Ad=[]:=Option.some.inj h'
            have z2:=List.map_eq_nil_iff.1 z
            exact absurd z2 (Jt _)
          · rw [DZ,if_neg hc] at h';cases h'
        · rw [FM,if_neg hb] at h;cases h
  · intro h;rw [h];rfl
section
variable {F:FsM} {δ:Nat→Int} {X:List UInt8}
theorem FsC.look_lt (h:FsC F δ) {d m:Nat} {s:ByteArray} (hl:Aj F.E d s=some m):m<F.N.length∧0<m:=by
  obtain ⟨x,hx,_,_,rfl⟩:=BZ hl
  exact (h.e x hx).2.1
theorem FsC.walk_lt (h:FsC F δ):∀ (L:List ByteArray) (n:Nat),n<F.N.length→(Am F n L).2<F.N.length
  | [],n,hn=>hn
  | s::L,n,hn=>by
    unfold Am
    split
    · split
      · exact h.n0.1
      · rename_i m hm;exact h.walk_lt L m (h.look_lt hm).1
    · exact h.n0.1
theorem FsC.find_lt (h:FsC F δ) (X:List UInt8):(Ab F X).2<F.N.length:=by
  unfold Ab
  split
  · exact h.n0.1
  · exact h.walk_lt _ _ h.n0.1
theorem FsC.place (h:FsC F δ) (hp:(Aa F X).1=0):((Aa F X).2.1<F.N.length∧F.dir (Aa F X).2.1=true)∧mayN (Aa F X).2.2=true:=by
  obtain ⟨M,x,hq,h1,h2,e⟩:=EF hp
  rw [e]
  have:=FI hq
  rw [List.all_append,Bool.and_eq_true] at this
  refine ⟨⟨h.walk_lt _ _ h.n0.1,h2⟩,?_⟩
  have z:=this.2
  simpa using z
theorem FsC.look_fd (h:FsC F δ) {c fd:Int} {m:Nat} (hl:Az F.O c fd=some m):m<F.N.length∧F.dir m=false:=by
  obtain ⟨x,hx,_,_,rfl⟩:=Gr hl
  exact (h.o x hx).1
theorem Dq {c:Int} {fd:Nat} (h:Dt F c=some fd):Az F.O c (fd:Int)=none∧fd<8:=by
  unfold Dt at h
  have h1:=List.find?_some h
  have h2:=List.mem_of_find?_eq_some h
  rw [List.mem_range] at h2
  refine ⟨?_,h2⟩
  cases hq:Az F.O c (fd:Int) with
  | none=>rfl
  | some m=>rw [hq] at h1;cases h1
theorem CT (hf:¬ (Ab F X).1=0) (hp:(Aa F X).1=0):Aj F.E (Aa F X).2.1 (Aa F X).2.2=none:=by
  have z:=NB hp
  cases hl:Aj F.E (Aa F X).2.1 (Aa F X).2.2 with
  | none=>rfl
  | some m=>rw [hl] at z;rw [z] at hf;exact absurd rfl hf
theorem FsC.links_lt (h:FsC F δ) {i:Nat} (hi:i<F.N.length) (hd:F.dir i=true):(F.at i).links≤20:=by
  rw [(h.k i hi).2.1 hd];decide
theorem FsC.ok (h:FsC F δ) (hδ:∀ i,i<F.N.length→F.dir i=false→δ i=0) (hl:∀ i,i<F.N.length→F.dir i=false→(F.at i).links≤20):FsOk F:=by
  refine ⟨h.eq hδ,fun i hi=>?_⟩
  cases hd:F.dir i with
  | true=>exact h.links_lt hi hd
  | false=>exact hl i hi hd
end
section
variable {F:FsM} {X Y:List UInt8}
theorem FsOk.newNode (h:FsOk F) (b:Bool) {d:Nat} {s:ByteArray} (hd:d<F.N.length∧F.dir d=true) (hs:mayN s=true) (hl:Aj F.E d s=none):FsOk (Br (AH F b) d s F.N.length):=by
  have h1:=(h.toFsC.node b).put (d:=d) (m:=F.N.length) (s:=s) ⟨by rw [CN];omega,by rw [Di,if_neg ω];exact hd.2⟩ ⟨by rw [CN];omega,h.n0.1⟩ hs hl (fun _ x hx=>by have:=(h.e x hx).2.1.1;omega)
  refine h1.ok (fun i _ _=>?_) (fun i hi _=>?_)
  · show (if i=F.N.length then 1 else 0)-(if i=F.N.length then 1 else 0)=(0:Int);omega
  · show ((AH F b).at i).links≤20
    rw [Fc]
    by_cases e:i=F.N.length
    · rw [if_pos e];show (1:Int)≤20;decide
    · rw [if_neg e]
      have:(Br (AH F b) d s F.N.length).N.length=F.N.length+1:=CN F b
      exact h.l20 i ω
theorem FsOk.fd (h:FsOk F) {c fd:Int} {m:Nat} (hm:m<F.N.length∧F.dir m=false) (hc:1≤c∧c≤8) (hf:0≤fd∧fd<8) (hl:Az F.O c fd=none):FsOk (fdF F c fd m):=
  { h.toFsC.fd hm hc hf hl with l20:=h.l20 }
theorem FsOk.unO (h:FsOk F) (p:OpM→Bool):FsOk { F with O:=F.O.filter p }:={ h.toFsC.unO p with l20:=h.l20 }
theorem FsOk.data (h:FsOk F) {n:Nat} (hn:n<F.N.length) {X:List UInt8} (hX:X.length≤256):FsOk (BS F n X):=by
  refine ⟨h.toFsC.data hn hX,fun i hi=>?_⟩
  rw [He hn]
  have hi':i<F.N.length:=by have:(BS F n X).N.length=F.N.length:=List.length_set;omega
  by_cases e:i=n
  · rw [if_pos e];exact h.l20 n hn
  · rw [if_neg e];exact h.l20 i hi'
theorem Qf (d:List UInt8) (off:Nat) (b:List UInt8) (hd:d.length≤256) (hb:off+b.length≤256):(CS d off b).length≤256:=by
  unfold CS
  rw [List.length_append,List.length_append,Ed,List.length_drop];omega
theorem FsOk.open_ (h:FsOk F) {c:Int} (hc:1≤c∧c≤8) (fl:Int):FsOk (AS F c X fl).1:=by
  unfold AS
  split
  · split
    · rename_i hf
      split
      · exact h
      · split
        · exact h
        · rename_i hd
          split
          · exact h
          · rename_i fd hfd
            obtain ⟨q1,q2⟩:=Dq hfd
            exact h.fd ⟨h.toFsC.find_lt X,by simpa using hd⟩ hc ω q1
    · rename_i hf
      split
      · rename_i hp
        obtain ⟨_,hp,_⟩:=hp
        obtain ⟨p1,p2⟩:=h.toFsC.place hp
        split
        · exact h
        · rename_i fd hfd
          obtain ⟨q1,q2⟩:=Dq hfd
          refine (h.newNode false p1 p2 (CT hf hp)).fd ⟨?_,?_⟩ hc ω q1
          · have:(Br (AH F false) (Aa F X).2.1 (Aa F X).2.2 F.N.length).N.length=F.N.length+1:=CN F false
            omega
          · have:(Br (AH F false) (Aa F X).2.1 (Aa F X).2.2 F.N.length).dir F.N.length=_:=Di F false F.N.length
            rw [this,if_pos rfl]
      · exact h
  · exact h
theorem FsOk.close_ (h:FsOk F) (c fd:Int):FsOk (BK F c fd).1:=by
  unfold BK
  split
  · exact h
  · exact h.unO _
theorem FsOk.read_ (h:FsOk F) (c fd off n:Int):FsOk (BV F c fd off n).1:=by
  unfold BV
  split
  · exact h
  · split<;>exact h
theorem FsOk.write_ (h:FsOk F) (c fd off:Int) (b:List UInt8):FsOk (Bd F c fd off b).1:=by
  unfold Bd
  split
  · exact h
  · rename_i k hk
    split
    · exact h
    · rename_i h1
      split
      · exact h
      · split
        · exact h
        · rename_i h2
          obtain ⟨q1,q2⟩:=h.toFsC.look_fd hk
          exact h.data q1 (Qf _ _ _ (h.k k q1).1 ω)
theorem FsOk.trunc_ (h:FsOk F) (c fd n:Int):FsOk (BD F c fd n).1:=by
  unfold BD
  split
  · exact h
  · rename_i k hk
    split
    · exact h
    · split
      · exact h
      · obtain ⟨q1,q2⟩:=h.toFsC.look_fd hk
        exact h.data q1 (by rw [Ed];omega)
theorem FsOk.sync_ (h:FsOk F) (c fd:Int):FsOk (Cw F c fd).1:=by
  unfold Cw;split<;>exact h
theorem FsOk.mkdir_ (h:FsOk F):FsOk (CB F X).1:=by
  unfold CB
  split
  · exact h
  · rename_i hf
    split
    · rename_i hp
      obtain ⟨p1,p2⟩:=h.toFsC.place hp
      exact h.newNode true p1 p2 (CT hf hp)
    · exact h
theorem FsC.root_dir {δ:Nat→Int} (h:FsC F δ) (hp:Ag X=some []):F.dir (Ab F X).2=true:=by
  rw [CY hp];exact h.n0.2
theorem FsOk.taken (h:FsOk F) {d m:Nat} {s:ByteArray} (hl:Aj F.E d s=some m) (hd:F.dir m=true):FsOk (As F d s):=
  (h.toFsC.take hl).ok (fun i _ q=>by
    show (0:Int)+(if i=m then 1 else 0)=0
    have:i≠m:=fun e=>by rw [e] at q;rw [show (As F d s).dir m=F.dir m from rfl,hd] at q;cases q
    rw [if_neg this];rfl) (fun i hi _=>h.l20 i hi)
theorem FsOk.freed (h:FsOk F) {d m:Nat} {s:ByteArray} (hl:Aj F.E d s=some m):FsOk (Af F d s m):=by
  unfold Af
  split
  · rename_i hd;exact h.taken hl hd
  · rename_i hd
    have hd':F.dir m=false:=by simpa using hd
    have hm:=(h.toFsC.look_lt hl).1
    have h1:=(h.toFsC.take hl).link (n:=m) hm hd' (-1)
    refine h1.ok (fun i _ _=>?_) (fun i hi _=>?_)
    · show (0:Int)+(if i=m then 1 else 0)+(if i=m then -1 else 0)=0
      by_cases e:i=m
      · rw [if_pos e,if_pos e];rfl
      · rw [if_neg e,if_neg e];rfl
    · rw [Hl (F:=As F d s) hm]
      have hi':i<F.N.length:=by have:(By (As F d s) m (-1)).N.length=F.N.length:=List.length_set;omega
      by_cases e:i=m
      · rw [if_pos e]
        have:=h.l20 m hm
        show (F.at m).links+-1≤20
        omega
      · rw [if_neg e];exact h.l20 i hi'
theorem FsOk.unlink_ (h:FsOk F):FsOk (Cb F X).1:=by
  unfold Cb
  split
  · rename_i hf
    split
    · exact h
    · rename_i hd
      have hn:¬ Ag X=some []:=fun e=>hd (h.toFsC.root_dir e)
      obtain ⟨p1,p2⟩:=Bg hf hn
      have:=h.freed p2
      unfold Af at this
      rw [if_neg hd] at this
      exact this
  · exact h
theorem FsOk.rmdir_ (h:FsOk F):FsOk (Bj F X).1:=by
  unfold Bj
  split
  · exact h
  · rename_i hx
    split
    · rename_i hf
      split
      · rename_i hd
        split
        · exact h
        · have hn:¬ Ag X=some []:=fun e=>hx (Cq.1 e)
          obtain ⟨p1,p2⟩:=Bg hf hn
          exact h.taken p2 hd
      · exact h
    · exact h
theorem FsOk.link_ (h:FsOk F):FsOk (AN F X Y).1:=by
  unfold AN
  split
  · split
    · rename_i hf
      split
      · exact h
      · rename_i hd
        have hd':F.dir (Ab F X).2=false:=by simpa using hd
        have hn:¬ Ag X=some []:=fun e=>hd (h.toFsC.root_dir e)
        obtain ⟨x1,x2⟩:=Bg hf hn
        obtain ⟨m1,m2⟩:=h.toFsC.look_lt x2
        split
        · exact h
        · split
          · rename_i hp
            obtain ⟨p1,p2⟩:=h.toFsC.place hp
            split
            · exact h
            · rename_i hl
              split
              · exact h
              · rename_i h20
                have hl':Aj F.E (Aa F Y).2.1 (Aa F Y).2.2=none:=by
                  cases hq:Aj F.E (Aa F Y).2.1 (Aa F Y).2.2 with
                  | none=>rfl
                  | some m=>rw [hq] at hl;exact absurd rfl hl
                have h1:=(h.toFsC.put (m:=(Ab F X).2) p1 ⟨m1,m2⟩ p2 hl' (fun q=>absurd q hd)).link (n:=(Ab F X).2) m1 hd' 1
                refine h1.ok (fun i _ _=>?_) (fun i hi _=>?_)
                · show (0:Int)-(if i=(Ab F X).2 then 1 else 0)+(if i=(Ab F X).2 then 1 else 0)=0
                  split<;>rfl
                · rw [Hl (F:=Br F _ _ _) m1]
                  have hi':i<F.N.length:=by have:(By (Br F (Aa F Y).2.1 (Aa F Y).2.2 (Ab F X).2) (Ab F X).2 1).N.length=F.N.length:=List.length_set;omega
                  by_cases e:i=(Ab F X).2
                  · rw [if_pos e]
                    have:=h.l20 _ m1
                    show (F.at (Ab F X).2).links+1≤20
                    omega
                  · rw [if_neg e];exact h.l20 i hi'
          · exact h
    · exact h
  · exact h
end
end
section
theorem Rl {α:Type} {R:α→α→Prop} {L:List α} (h:L.Pairwise R) {x y:α} (hx:x∈L) (hy:y∈L):x=y∨R x y∨R y x:=by
  induction L with
  | nil=>cases hx
  | cons z r ih=>
    rw [List.pairwise_cons] at h
    rcases List.mem_cons.1 hx with e | e<;>rcases List.mem_cons.1 hy with e' | e'
    · exact .inl (e.trans e'.symm)
    · subst e;exact .inr (.inl (h.1 y e'))
    · subst e';exact .inr (.inr (h.1 x e))
    · exact ih h.2 e e'
theorem Lx {E:List EntM} {d:Nat} (h:¬ 0<BG E d) (t:ByteArray):Aj E d t=none:=by
  cases hl:Aj E d t with
  | none=>rfl
  | some m=>
    obtain ⟨x,hx,h1,_,_⟩:=BZ hl
    refine absurd ?_ h
    unfold BG
    exact List.length_pos_iff_exists_mem.2 ⟨x,List.mem_filter.2 ⟨hx,decide_eq_true h1⟩⟩
theorem FsC.one {F:FsM} {δ:Nat→Int} (h:FsC F δ) {a b k:Nat} {x y:ByteArray} (hx:Aj F.E a x=some k) (hy:Aj F.E b y=some k) (hd:F.dir k=true):a=b∧x=y:=by
  obtain ⟨u,hu,rfl,rfl,rfl⟩:=BZ hx
  obtain ⟨v,hv,rfl,rfl,e⟩:=BZ hy
  rcases Rl h.du hu hv with q | q | q
  · rw [q];exact ⟨rfl,rfl⟩
  · have:=q e.symm;rw [hd] at this;cases this
  · have:=q e;rw [e,hd] at this;cases this
theorem Fi {F:FsM} {M:List ByteArray} {x:ByteArray} {k:Nat} (h:Am F 0 (M++[x])=(0,k)):∃ a,Am F 0 M=(0,a)∧F.dir a=true∧Aj F.E a x=some k:=by
  rw [GB] at h
  by_cases h1:(Am F 0 M).1=0
  · rw [if_pos h1] at h
    by_cases h2:F.dir (Am F 0 M).2=true
    · rw [if_pos h2] at h
      cases hl:Aj F.E (Am F 0 M).2 x with
      | none=>rw [hl] at h;cases h
      | some m=>
        rw [hl] at h
        have e:m=k:=by injection h
        exact ⟨(Am F 0 M).2,by rw [← h1],h2,by rw [hl,e]⟩
    · rw [if_neg h2] at h;cases h
  · rw [if_neg h1] at h;rw [h] at h1;exact absurd rfl h1
theorem FsC.uniq {F:FsM} {δ:Nat→Int} (h:FsC F δ):∀ (n:Nat) (L M:List ByteArray) (k:Nat),L.length=n→Am F 0 L=(0,k)→Am F 0 M=(0,k)→F.dir k=true→L=M:=by
  intro n
  induction n with
  | zero=>
    intro L M k hn hL hM hd
    have e:=List.eq_nil_of_length_eq_zero hn
    subst e
    have hk:0=k:=(Prod.mk.inj hL).2
    subst hk
    rcases CC M with e | ⟨B,y,e⟩
    · exact e.symm
    · subst e
      obtain ⟨b,_,_,hl⟩:=Fi hM
      exact absurd (h.look_lt hl).2 (Nat.lt_irrefl 0)
  | succ n ih=>
    intro L M k hn hL hM hd
    rcases CC L with e | ⟨A,x,e⟩
    · subst e;cases hn
    subst e
    obtain ⟨a,ha,hda,hla⟩:=Fi hL
    rcases CC M with e | ⟨B,y,e⟩
    · subst e
      have hk:0=k:=(Prod.mk.inj hM).2
      subst hk
      exact absurd (h.look_lt hla).2 (Nat.lt_irrefl 0)
    subst e
    obtain ⟨b,hb,hdb,hlb⟩:=Fi hM
    obtain ⟨e1,e2⟩:=h.one hla hlb hd
    subst e1;subst e2
    rw [ih A B a (by simpa using hn) ha hb hda]
theorem HU {F G:FsM} {d m:Nat} {s:ByteArray} (hd:∀ i,G.dir i=F.dir i) (he:∀ k t,¬ (k=d∧t=s)→Aj G.E k t=Aj F.E k t) (hm:Aj F.E d s=some m) (hdead:F.dir m=true→∀ t,Aj F.E m t=none) :
    ∀ (A:List ByteArray) (n f:Nat),Am F n A=(0,f)→F.dir f=true→(∃ t k,Aj F.E f t=some k)→Am G n A=(0,f)
  | [],n,f,hw,_,_=>hw
  | t::A,n,f,hw,hf,hn=>by
    unfold Am at hw ⊢
    rw [hd]
    by_cases h1:F.dir n=true
    · rw [if_pos h1] at hw ⊢
      by_cases hq:n=d∧t=s
      · rw [hq.1,hq.2,hm] at hw
        have hw':Am F m A=(0,f):=hw
        exfalso
        cases A with
        | nil=>
          have e:m=f:=(Prod.mk.inj hw').2
          subst e
          obtain ⟨t',k,hk⟩:=hn
          rw [hdead hf t'] at hk;cases hk
        | cons t' A=>
          unfold Am at hw'
          by_cases h2:F.dir m=true
          · rw [if_pos h2,hdead h2 t'] at hw';cases hw'
          · rw [if_neg h2] at hw';cases hw'
      · rw [he n t hq]
        cases hl:Aj F.E n t with
        | none=>rw [hl] at hw;cases hw
        | some k=>
          rw [hl] at hw
          exact HU hd he hm hdead A k f hw hf hn
    · rw [if_neg h1] at hw;cases hw
theorem Is (F:FsM) (d:Nat) (s:ByteArray) (m:Nat):(Af F d s m).N.length=F.N.length:=by
  unfold Af;split
  · rfl
  · exact List.length_set
theorem DI (F:FsM) (d:Nat) (s:ByteArray) (m:Nat):(Af F d s m).E=BW F.E d s:=by unfold Af;split<;>rfl
theorem Ko (F:FsM) (d:Nat) (s:ByteArray) (m:Nat):(Af F d s m).O=F.O:=by unfold Af;split<;>rfl
theorem Dr {F:FsM} {d:Nat} {s:ByteArray} {m:Nat} (hm:m<F.N.length) (i:Nat):(Af F d s m).dir i=F.dir i:=by
  unfold Af;split
  · rfl
  · exact Dz (F:=As F d s) hm (-1) i
structure RenOk (F:FsM) (n m:Nat):Prop where
  ne:m≠n
  a:¬ (F.dir n=true∧F.dir m=false)
  b:¬ (F.dir n=true∧0<BG F.E m)
  c:¬ (F.dir n=false∧F.dir m=true)
theorem RenOk.dead {F:FsM} {n m:Nat} (h:RenOk F n m) (hd:F.dir m=true) (t:ByteArray):Aj F.E m t=none:=by
  refine Lx (fun q=>h.b ⟨?_,q⟩) t
  cases hn:F.dir n with
  | true=>rfl
  | false=>exact absurd ⟨hn,hd⟩ h.c
theorem FV {F:FsM} {δ:Nat→Int} (h:FsC F δ) {X:List UInt8} {d n m:Nat} {s:ByteArray} (hp:(Aa F X).1=0) (hx:Aj F.E (Aa F X).2.1 (Aa F X).2.2=some n) (hl:Aj F.E d s=some m) (hr:RenOk F n m) :
    Aa (Af F d s m) X=Aa F X∧¬ ((Aa F X).2.1=d∧(Aa F X).2.2=s):=by
  have hne:¬ ((Aa F X).2.1=d∧(Aa F X).2.2=s):=fun q=>by
    rw [q.1,q.2,hl] at hx
    exact hr.ne (Option.some.inj hx)
  refine ⟨?_,hne⟩
  obtain ⟨M,x,hpo,h1,h2,e⟩:=EF hp
  have hm:=(h.look_lt hl).1
  have hw:Am (Af F d s m) 0 M=(0,(Am F 0 M).2):=by
    refine HU (d:=d) (m:=m) (s:=s) (Dr hm) (fun k t hk=>by rw [DI,Bw,if_neg hk]) hl hr.dead M 0 _ (by rw [← h1]) h2 ?_
    rw [e] at hx
    exact ⟨x,n,hx⟩
  rw [e,Cz hpo]
  unfold EU
  rw [hw,if_pos rfl,if_pos (by rw [Dr hm];exact h2)]
section
variable {F:FsM} {X Y:List UInt8}
theorem FsOk.moved (h:FsOk F) {d n:Nat} {s:ByteArray} (hd:d<F.N.length∧F.dir d=true) (hs:mayN s=true) (hl:Aj F.E d s=none) (hx:Aj F.E (Aa F X).2.1 (Aa F X).2.2=some n):FsOk (movedF F X d s n):=by
  have h1:=h.toFsC.take hx
  have hu:(As F (Aa F X).2.1 (Aa F X).2.2).dir n=true→∀ x∈(As F (Aa F X).2.1 (Aa F X).2.2).E,x.nd≠n:=by
    intro hdn x hxm e
    obtain ⟨hm1,hm2⟩:=List.mem_filter.1 hxm
    have hlx:=IQ h.ed hm1
    rw [e] at hlx
    obtain ⟨q1,q2⟩:=h.toFsC.one hlx hx hdn
    rw [decide_eq_true ⟨q1,q2⟩] at hm2;cases hm2
  have h2:=h1.put (d:=d) (m:=n) (s:=s) hd (h.toFsC.look_lt hx) hs (by show Aj (BW F.E _ _) d s=none;rw [Bw];split;rfl;exact hl) hu
  refine h2.ok (fun i _ _=>?_) (fun i hi _=>h.l20 i hi)
  show (0:Int)+(if i=n then 1 else 0)-(if i=n then 1 else 0)=0
  omega
theorem FsOk.rename_ (h:FsOk F):FsOk (An F X Y).1:=by
  unfold An
  split
  · rename_i hc
    split
    · rename_i hf
      split
      · exact h
      · split
        · rename_i hp
          obtain ⟨p1,p2⟩:=h.toFsC.place hp
          have hn:¬ Ag X=some []:=fun e=>hc.2.1 (Cq.1 e)
          obtain ⟨x1,x2⟩:=Bg hf hn
          unfold Be
          split
          · rename_i hl;exact h.moved p1 p2 hl x2
          · rename_i m hl
            split
            · exact h
            · rename_i q0
              split
              · exact h
              · rename_i q1
                split
                · exact h
                · rename_i q2
                  split
                  · exact h
                  · rename_i q3
                    have hr:RenOk F (Ab F X).2 m:=⟨q0,q1,q2,q3⟩
                    obtain ⟨e1,e2⟩:=FV h.toFsC x1 x2 hl hr
                    have hm:=(h.toFsC.look_lt hl).1
                    refine (h.freed hl).moved ⟨by rw [Is];exact p1.1,by rw [Dr hm];exact p1.2⟩ p2 (by rw [DI,Bw,if_pos ⟨rfl,rfl⟩]) ?_
                    rw [e1,DI,Bw,if_neg e2];exact x2
        · exact h
    · exact h
  · exact h
theorem FsOk.list_ (h:FsOk F):FsOk (Cn F X).1:=by unfold Cn;split<;>(try split)<;>exact h
theorem FsOk.stat_ (h:FsOk F):FsOk (Cf F X).1:=by unfold Cf;split<;>(try split)<;>exact h
theorem Gq {Pr:FsM×RepM→Prop} {F:FsM} {c:Int} {x:CallM} (h1:Pr (AS F c x.p1 x.fl)) (h2:Pr (BK F c x.fd)) (h3:Pr (BV F c x.fd x.off x.n)) (h4:Pr (Bd F c x.fd x.off x.data)) (h5:Pr (BD F c x.fd x.n)) (h6:Pr (Cw F c x.fd)) (h7:Pr (CB F x.p1)) (h8:Pr (Bj F x.p1)) (h9:Pr (AN F x.p1 x.p2)) (h10:Pr (Cb F x.p1)) (h11:Pr (An F x.p1 x.p2)) (h12:Pr (Cn F x.p1)) (h13:Pr (Cf F x.p1)) (h0:Pr (F,Av 15)):Pr (EC F c x):=by
  unfold EC
  by_cases k1:x.kind=1
  · rw [if_pos k1];exact h1
  rw [if_neg k1]
  by_cases k2:x.kind=2
  · rw [if_pos k2];exact h2
  rw [if_neg k2]
  by_cases k3:x.kind=3
  · rw [if_pos k3];exact h3
  rw [if_neg k3]
  by_cases k4:x.kind=4
  · rw [if_pos k4];exact h4
  rw [if_neg k4]
  by_cases k5:x.kind=5
  · rw [if_pos k5];exact h5
  rw [if_neg k5]
  by_cases k6:x.kind=6
  · rw [if_pos k6];exact h6
  rw [if_neg k6]
  by_cases k7:x.kind=7
  · rw [if_pos k7];exact h7
  rw [if_neg k7]
  by_cases k8:x.kind=8
  · rw [if_pos k8];exact h8
  rw [if_neg k8]
  by_cases k9:x.kind=9
  · rw [if_pos k9];exact h9
  rw [if_neg k9]
  by_cases k10:x.kind=10
  · rw [if_pos k10];exact h10
  rw [if_neg k10]
  by_cases k11:x.kind=11
  · rw [if_pos k11];exact h11
  rw [if_neg k11]
  by_cases k12:x.kind=12
  · rw [if_pos k12];exact h12
  rw [if_neg k12]
  by_cases k13:x.kind=13
  · rw [if_pos k13];exact h13
  rw [if_neg k13]
  exact h0
theorem FsOk.do_ (h:FsOk F) (c:Int) (x:CallM):FsOk (doF F c x).1:=by
  unfold doF
  split
  · exact h
  · rename_i hc
    have hc':1≤c∧c≤8:=ω
    exact Gq (Pr:=fun p=>FsOk p.1) (h.open_ hc' _) (h.close_ _ _) (h.read_ _ _ _ _) (h.write_ _ _ _ _) (h.trunc_ _ _ _) (h.sync_ _ _) (h.mkdir_ ) (h.rmdir_ ) (h.link_ ) (h.unlink_ ) (h.rename_ ) (h.list_ ) (h.stat_ ) h
theorem FsOk.drop_ (h:FsOk F) (c:Int):FsOk (EB F c):=h.unO _
def SzF (F:FsM) (n:Nat):Prop:=F.N.length≤n+1∧F.E.length≤n∧F.O.length≤n
theorem SzF.sm {n:Nat} (h:SzF F n) (hn:n≤900):SmF F:=⟨by have:=h.1;omega,by have:=h.2.1;omega,by have:=h.2.2;omega⟩
theorem FO (E:List EntM) (d:Nat) (s:ByteArray):(BW E d s).length≤E.length:=List.length_filter_le _ _
theorem SzF.mono {n:Nat} (h:SzF F n):SzF F (n+1):=⟨by have:=h.1;omega,by have:=h.2.1;omega,by have:=h.2.2;omega⟩
theorem SzF.step {n:Nat} (h:SzF F n) {N:List NodeM} {E:List EntM} {O:List OpM} (h1:N.length≤F.N.length+1) (h2:E.length≤F.E.length+1) (h3:O.length≤F.O.length+1):SzF ⟨N,E,O⟩ (n+1):=
  ⟨by have:=h.1;show N.length≤_;omega,by have:=h.2.1;show E.length≤_;omega,by have:=h.2.2;show O.length≤_;omega⟩
theorem IZ (E:List EntM) (x:EntM):(E++[x]).length≤E.length+1:=by rw [List.length_append];exact Nat.le_refl _
theorem OU (O:List OpM) (x:OpM):(O++[x]).length≤O.length+1:=by rw [List.length_append];exact Nat.le_refl _
theorem OT (N:List NodeM) (x:NodeM):(N++[x]).length≤N.length+1:=by rw [List.length_append];exact Nat.le_refl _
theorem SzF.rename {n:Nat} (h:SzF F n) (d:Nat) (s:ByteArray) (m:Nat):SzF (Be F X d s m).1 (n+1):=by
  unfold Be
  split
  · exact h.step (Nat.le_succ _) (Nat.le_trans (IZ _ _) (Nat.succ_le_succ (FO _ _ _))) (Nat.le_succ _)
  · rename_i k _
    split
    · exact h.mono
    · split
      · exact h.mono
      · split
        · exact h.mono
        · split
          · exact h.mono
          · exact h.step (F:=F) (by show (Af F d s k).N.length≤_;rw [Is];omega) (Nat.le_trans (IZ _ _) (Nat.succ_le_succ (Nat.le_trans (FO _ _ _) (by rw [DI];exact FO _ _ _)))) (by show (Af F d s k).O.length≤_;rw [Ko];omega)
theorem SzF.close {n:Nat} (h:SzF F n) (c fd:Int):SzF (BK F c fd).1 (n+1):=by
  unfold BK
  split
  · exact h.mono
  · exact h.step (Nat.le_succ _) (Nat.le_succ _) (Nat.le_trans (List.length_filter_le _ _) (Nat.le_succ _))
theorem SzF.open_ {n:Nat} (h:SzF F n) (c fl:Int):SzF (AS F c X fl).1 (n+1):=by
  unfold AS
  split
  · split
    · split
      · exact h.mono
      · split
        · exact h.mono
        · split
          · exact h.mono
          · exact h.step (Nat.le_succ _) (Nat.le_succ _) (OU _ _)
    · split
      · split
        · exact h.mono
        · exact h.step (OT _ _) (IZ _ _) (OU _ _)
      · exact h.mono
  · exact h.mono
theorem SzF.data {n:Nat} (h:SzF F n) (k:Nat) (d:List UInt8):SzF (BS F k d) (n+1):=h.step (by rw [List.length_set];exact Nat.le_succ _) (Nat.le_succ _) (Nat.le_succ _)
theorem SzF.write {n:Nat} (h:SzF F n) (c fd off:Int) (b:List UInt8):SzF (Bd F c fd off b).1 (n+1):=by
  unfold Bd
  split
  · exact h.mono
  · split
    · exact h.mono
    · split
      · exact h.mono
      · split
        · exact h.mono
        · exact h.data _ _
theorem SzF.trunc {n:Nat} (h:SzF F n) (c fd m:Int):SzF (BD F c fd m).1 (n+1):=by
  unfold BD
  split
  · exact h.mono
  · split
    · exact h.mono
    · split
      · exact h.mono
      · exact h.data _ _
theorem SzF.mkdir {n:Nat} (h:SzF F n):SzF (CB F X).1 (n+1):=by
  unfold CB
  split
  · exact h.mono
  · split
    · exact h.step (OT _ _) (IZ _ _) (Nat.le_succ _)
    · exact h.mono
theorem SzF.take {n:Nat} (h:SzF F n) (d:Nat) (s:ByteArray):SzF (As F d s) (n+1):=h.step (Nat.le_succ _) (Nat.le_trans (FO _ _ _) (Nat.le_succ _)) (Nat.le_succ _)
theorem SzF.rmdir {n:Nat} (h:SzF F n):SzF (Bj F X).1 (n+1):=by
  unfold Bj
  split
  · exact h.mono
  · split
    · split
      · split
        · exact h.mono
        · exact h.take _ _
      · exact h.mono
    · exact h.mono
theorem SzF.unlink {n:Nat} (h:SzF F n):SzF (Cb F X).1 (n+1):=by
  unfold Cb
  split
  · split
    · exact h.mono
    · exact h.step (F:=F) (by show (List.set _ _ _).length≤_;rw [List.length_set];exact Nat.le_succ _) (Nat.le_trans (FO _ _ _) (Nat.le_succ _)) (Nat.le_succ _)
  · exact h.mono
theorem SzF.links {n:Nat} (h:SzF F n):SzF (AN F X Y).1 (n+1):=by
  unfold AN
  split
  · split
    · split
      · exact h.mono
      · split
        · exact h.mono
        · split
          · split
            · exact h.mono
            · split
              · exact h.mono
              · exact h.step (F:=F) (by show (List.set _ _ _).length≤_;rw [List.length_set];exact Nat.le_succ _) (IZ _ _) (Nat.le_succ _)
          · exact h.mono
    · exact h.mono
  · exact h.mono
theorem SzF.renames {n:Nat} (h:SzF F n):SzF (An F X Y).1 (n+1):=by
  unfold An
  split
  · split
    · split
      · exact h.mono
      · split
        · exact h.rename _ _ _
        · exact h.mono
    · exact h.mono
  · exact h.mono
theorem SzF.list {n:Nat} (h:SzF F n):SzF (Cn F X).1 (n+1):=by unfold Cn;split<;>(try split)<;>exact h.mono
theorem SzF.stat {n:Nat} (h:SzF F n):SzF (Cf F X).1 (n+1):=by unfold Cf;split<;>(try split)<;>exact h.mono
theorem SzF.read {n:Nat} (h:SzF F n) (c fd off m:Int):SzF (BV F c fd off m).1 (n+1):=by
  unfold BV
  split
  · exact h.mono
  · split<;>exact h.mono
theorem SzF.sync {n:Nat} (h:SzF F n) (c fd:Int):SzF (Cw F c fd).1 (n+1):=by unfold Cw;split<;>exact h.mono
theorem SzF.do_ {n:Nat} (h:SzF F n) (c:Int) (x:CallM):SzF (doF F c x).1 (n+1):=by
  unfold doF
  split
  · exact h.mono
  · exact Gq (Pr:=fun p=>SzF p.1 (n+1)) (h.open_ _ _) (h.close _ _) (h.read _ _ _ _) (h.write _ _ _ _) (h.trunc _ _ _) (h.sync _ _) h.mkdir h.rmdir h.links h.unlink h.renames h.list h.stat h.mono
theorem SzF.drop_ {n:Nat} (h:SzF F n) (c:Int):SzF (EB F c) (n+1):=h.step (Nat.le_succ _) (Nat.le_succ _) (Nat.le_trans (List.length_filter_le _ _) (Nat.le_succ _))
theorem QO:SzF fs0 0:=⟨by decide,by decide,by decide⟩
end
end
end Go.Proofs.YtcanemamnmmbcaaGreatDoor
