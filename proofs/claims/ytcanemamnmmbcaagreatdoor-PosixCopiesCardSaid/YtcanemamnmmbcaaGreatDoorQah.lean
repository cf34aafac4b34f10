/- Parts of the proof. -/
import Derived.Test.YtcanemamnmmbcaaGreatDoorQag
namespace Go.Proofs.YtcanemamnmmbcaaGreatDoor
open Go.RowKit
set_option linter.unusedSimpArgs false
set_option linter.unusedVariables false
set_option linter.unusedSectionVars false
set_option maxRecDepth 100000
set_option maxHeartbeats 8000000
section
def r0 (r:RepM):RepM:={ r with e:=0 }
theorem Gt {F:FsM} {A:AdM} {n:Nat} (h:AdOk F A n) (hn:n≤900):A.B<maxLen:=by have:=h.hB;unfold maxLen;omega
theorem LM {F:FsM} {A:AdM} {n:Nat} (h:AdOk F A n) (hn:n≤900):A.C<maxLen:=by have:=h.hC;unfold maxLen;omega
theorem Ea {F:FsM} {A:AdM} {k:Nat} (h:F.dir k=false):AR F A k=(F.at k).links:=by unfold AR;rw [if_neg (AH h)]
theorem Mz {F:FsM} {k:Nat} {i:Int} (h:SmF F):SmF (BE F k i):=⟨by show (List.set _ _ _).length≤_;rw [List.length_set];exact h.1,h.2.1,h.2.2⟩
section
variable {F:FsM} {A:AdM} {n:Nat}
theorem AdOk.mono (h:AdOk F A n):AdOk F A (n+1):=h.step (fun k hd hr=>.inl ⟨hd,hr,rfl⟩) (Nat.le_succ _) (Nat.le_succ _)
theorem AdOk.unO (h:AdOk F A n) (O:List OpM):AdOk { F with O:=O } A (n+1):=h.step (fun k hd hr=>.inl ⟨hd,hr,rfl⟩) (Nat.le_succ _) (Nat.le_succ _)
theorem AdOk.fdc (h:AdOk F A n) (c fd:Int) (m:Nat):AdOk (fdF F c fd m) A.inC (n+1):=h.step (fun k hd hr=>.inl ⟨hd,hr,rfl⟩) (Nat.le_succ _) (Nat.le_refl _)
theorem AdOk.data (h:AdOk F A n) {k:Nat} (hk:k<F.N.length) (d:List UInt8):AdOk (BX F k d) A (n+1):=h.step (fun j hd hr=>.inl ⟨by rw [Hl hk] at hd;exact hd,hr,rfl⟩) (Nat.le_succ _) (Nat.le_succ _)
theorem AdOk.take (h:AdOk F A n) (d:Nat) (s:ByteArray):AdOk (Aq F d s) A (n+1):=
 h.step (fun j hd hr=>.inl ⟨hd,hr.imp (fun e=>e) (fun ⟨x,hx,e⟩=>⟨x,(List.mem_filter.1 hx).1,e⟩),rfl⟩) (Nat.le_succ _) (Nat.le_succ _)
theorem AdOk.unlink (h:AdOk F A n) (d:Nat) (s:ByteArray) {k:Nat} (hk:k<F.N.length):AdOk (BE (Aq F d s) k (-1)) A (n+1):=
 h.step (fun j hd hr=>.inl ⟨by rw [DE (F:=Aq F d s) hk] at hd;exact hd,hr.imp (fun e=>e) (fun ⟨x,hx,e⟩=>⟨x,(List.mem_filter.1 hx).1,e⟩),rfl⟩) (Nat.le_succ _) (Nat.le_succ _)
theorem AdOk.link (h:AdOk F A n) (d:Nat) (s:ByteArray) {k:Nat} (hk:k<F.N.length) (hf:F.dir k=false):AdOk (BE (Bu F d s k) k 1) A.inc (n+1):=
 h.step (fun j hd hr=>by
  rw [DE (F:=Bu F d s k) hk] at hd
  refine .inl ⟨hd,hr.imp (fun e=>e) (fun ⟨x,hx,e⟩=>?_),rfl⟩
  rcases List.mem_append.1 hx with q | q
  ·exact ⟨x,q,e⟩
  ·rw [List.mem_singleton.1 q] at e
   have e':k=j:=e
   subst e'
   rw [show (Bu F d s k).dir k=F.dir k from rfl,hf] at hd;cases hd) (Nat.le_refl _) (Nat.le_succ _)
theorem AdOk.node (h:AdOk F A n) (d:Nat) (s:ByteArray) (b:Bool) (g m:Nat):AdOk (Bu (AL F b) d s F.N.length) (A.new F.N.length g m).inc (n+1):=
 h.step (fun j hd hr=>by
  have hd':(AL F b).dir j=true:=hd
  rw [Dr] at hd'
  by_cases e1:j=F.N.length
  ·exact .inr (if_pos e1)
  ·rw [if_neg e1] at hd'
   refine .inl ⟨hd',hr.imp (fun e=>e) (fun ⟨x,hx,e⟩=>?_),if_neg e1⟩
   rcases List.mem_append.1 hx with q | q
   ·exact ⟨x,q,e⟩
   ·rw [List.mem_singleton.1 q] at e
    have e':F.N.length=j:=e
    exact absurd e'.symm e1) (Nat.le_refl _) (Nat.le_succ _)
theorem AdOk.nodeFd (h:AdOk F A n) (d:Nat) (s:ByteArray) (b:Bool) (g m:Nat) (c fd:Int):AdOk (fdF (Bu (AL F b) d s F.N.length) c fd F.N.length) (A.new F.N.length g m).inc.inC (n+1) where
 ld:=(h.node d s b g m).ld
 hB:=(h.node d s b g m).hB
 hC:=by have:=h.hC;show A.C+1≤n+1;omega
end
theorem JL {d:List UInt8} {off n:Int} (h:0≤off) (h2:0≤n):(d.drop (min off (d.length:Int)).toNat).take (min n ((d.drop (min off (d.length:Int)).toNat).length:Int)).toNat=(d.drop off.toNat).take n.toNat:=by
 have e1:d.drop (min off (d.length:Int)).toNat=d.drop off.toNat:=by
  rcases Int.le_total off (d.length:Int) with q | q
  ·rw [Int.min_eq_left q]
  ·rw [Int.min_eq_right q,List.drop_eq_nil_of_le ω,List.drop_eq_nil_of_le ω]
 rw [e1]
 rcases Int.le_total n ((d.drop off.toNat).length:Int) with q | q
 ·rw [Int.min_eq_left q]
 ·rw [Int.min_eq_right q,List.take_of_length_le ω,List.take_of_length_le ω]
theorem JM {d b:List UInt8} {off:Int} (h:0≤off):(Ba d (max (off+(b.length:Int)) (d.length:Int)).toNat).take off.toNat++b++(Ba d (max (off+(b.length:Int)) (d.length:Int)).toNat).drop (off+(b.length:Int)).toNat=CK d off.toNat b:=by
 generalize hM:(max (off+(b.length:Int)) (d.length:Int)).toNat=M
 have hM1:off.toNat+b.length≤M:=ω
 have hM2:d.length≤M:=ω
 have hM3:M=off.toNat+b.length∨M=d.length:=ω
 have he:(off+(b.length:Int)).toNat=off.toNat+b.length:=ω
 rw [he]
 unfold CK
 congr 1
 ·congr 1
  unfold Ba
  rw [List.take_of_length_le hM2,List.take_append,List.take_replicate]
  congr 2
  omega
 ·unfold Ba
  rw [List.take_of_length_le hM2,List.drop_append,List.drop_replicate]
  rcases hM3 with q | q
  ·rw [show M-d.length-(off.toNat+b.length-d.length)=0 by omega];simp
  ·rw [show M-d.length-(off.toNat+b.length-d.length)=0 by omega];simp
theorem ON {w:World} {cf ob n:Nat} {F:FsM} {A:AdM} {R:List Ch} {c:Int} {x:CallM} (hS0:Sep w ((cP cf ob F A)++R)) (hfo:FsOk F) (hA:AdOk F A n) (hn:n≤900) (hs:SmS F) (h1:x.p1.length≤1000) (h2:x.p2.length≤1000) (h3:x.data.length≤1000) (hwx:wfD (c,x.fd)) (hcl:1≤c∧c≤8) :
  CallsR Tryz.prog 48 #[π cf,ν c,.agg (cL x).toArray] w (fun v w'=>∃ A' sa sc,v=.tuple #[Du (r0 (BM F c x.fd).2) sa sc,ν (BM F c x.fd).2.e]∧Sep w' (Ak 0 9 1 sa (BM F c x.fd).2.names.length sc ((BM F c x.fd).2.names.flatMap sE)::(cP cf ob ((BM F c x.fd).1) A')++R)∧AdOk (BM F c x.fd).1 A' (n+1)):=by
 have hS:=Sep.tail_many (xs:=cP cf ob F A) hS0;clear hS0
 have hz:SmF F:=hs.sm;have hok:=hfo.toFsC
 have hz0:=hz;obtain ⟨hz1,hz2,hz3⟩:F.N.length≤1000∧F.E.length≤1000∧F.O.length≤1000:=hz
 refine AB Tryz.func48 rfl (N:=31) Tryz.ntmps48 (by show 3≤31;decide) [(0,π cf),(1,ν c),(2,.agg (cL x).toArray)] rfl fun _ h1=>sqr fun _ hK3=>so (wn rfl) fun _ hK1=>Cv h1 rfl rfl rfl rfl rfl (z:=(cL x)) rfl hS fun _ g4 w7 h5 s8 _ _=>hK1 _ _ ?_
 refine so (wn rfl) fun _ hK2=>BB h5 rfl rfl rfl rfl (z:=zL) (fun _=>rfl) s8 fun _ g1 w2 h4 s1 _ _=>hK2 _ _ ?_
 refine mv h4 rfl fun _ h6=>wpList_nil<|hK3 _ _<|sq fun _ hK4=>sqr fun _ hK5=>mvs 2 h6 rfl fun _ h7=>fav h7 rfl (BZ _ _) fun _ h8=>ldv h8 s1 1 υ3 rfl rfl rfl rfl fun _ h9=>?_
 rcases bC ((Az F.O c x.fd).isSome) with hc1 | hc1
 ·skip
  obtain ⟨m1,hm1⟩:=Option.isSome_iff_exists.1 hc1;have hml36:=FsC.look_fd hok hm1
  have hdl37:(F.at m1).data.length≤256:=(FsC.k hok m1 hml36.1).1
  refine cl h9 rfl BP (Gc (cf:=cf) (A:=A) (F:=F) (s1.pk [2,3,4,0,1,5] rfl) hok hz0 hwx hm1) fun _ v1 w3 r1 h10=>?_
  obtain ⟨rfl,s2⟩:=r1
  refine mvs 5 h10 rfl fun _ h11=>h11.sk [9,7,6,5,0,1,2] rfl fun h12=>?_
  clear h1
  refine wpList_nil<|hK5 _ _<|sqr fun _ hK6=>mv h12 rfl fun _ h13=>bv h13 rfl (cNe _ _ _ _ rfl) fun _ h14=>h14.sn [19,9,7,6,5,0,1,2] rfl fun h15=>hK6 _ _<|wcF h15 rfl rfl<|h15.sk [9,7,6,5,0,1,2] rfl fun h16=>wp_skip<|hK4 _ _<|sq fun _ hK7=>?_
  have s3:=s2.drew
  refine wp_region_held_drew (S:=fun w'=>Sep w' [Ah cf 65 [π (A.ad 0),.map (some ob)],Av F A,Ah g1 37 zL,Ah g4 30 (cL x),Ch.many R]) κ (s3.pk [0,1,3,4,5] rfl) (fun hq1=>?_)
  refine tv1 hq1 h16 0 rfl rfl (fun w1 _=>(Ap h16 rfl rfl) w1) fun _ h17=>?_
  refine tv1 hq1 h17 1 rfl rfl (fun w1 _=>(Cu h17 rfl rfl) w1) fun _ h18=>?_
  refine tv1 hq1 h18 2 rfl rfl (fun w1 _=>(rfa h18 rfl rfl (fun w=>BQ cf 0 w)) w1) fun _ h19=>?_
  refine tv1 hq1 h19 3 rfl rfl (fun w1 hSw=>(rld h19 rfl rfl (ldB υ63 rfl (hSw.get 0 rfl:Blk _ _ _ _) rfl))) fun _ h20=>?_
  refine tv1 hq1 h20 4 rfl rfl (fun w1 _=>(Ap h20 rfl rfl) w1) fun _ h21=>?_
  refine tv1 hq1 h21 5 rfl rfl (fun w1 _=>(rfa h21 rfl rfl (fun w=>BZ g4 0 w)) w1) fun _ h22=>?_
  refine tv1 hq1 h22 6 rfl rfl (fun w1 hSw=>(rld h22 rfl rfl (ldB υ3 rfl (hSw.get 3 rfl:Blk _ _ _ _) rfl))) fun _ h23=>?_
  refine tv1 hq1 h23 7 rfl rfl (v:=.agg #[ν c,ν x.fd]) (fun w1 _=>(CP h23 (xs:=[(0,.tmp 26),(1,.tmp 28)]) rfl (vs:=[(0,ν c),(1,ν x.fd)]) rfl (fun w=>κ)) w1) fun _ h24=>?_
  refine to_ 8 rfl (wn rfl) κ fun _ hK8=>Rt (F:=F) (A:=A) (F':=({ F with O:=Da F.O c x.fd })) h24 rfl rfl rfl rfl s3 2 rfl rfl rfl hwx (fun c' fd'=>In _ _ _ _ _) (cs':=[Ah cf 65 [π (A.ad 0),.map (some ob)],Av F A,AM KO ob A.C (opG ({ F with O:=Da F.O c x.fd }) A),Ah g1 37 zL,Ah g4 30 (cL x),Ch.many R]) rfl fun _ w4 h25 s4=>?_
  refine hK8 _ _ (s4.pk [0,1,3,4,5] rfl) fun hq2=>h25.sk [9,7,6,5,0,1,2] rfl fun h26=>?_
  refine wpAnyH_done κ ?_ _
  refine hK7 _ _ ?_
  refine sqr fun _ hK9=>bu h26 (v:=.agg zL.toArray) rfl (fun w=>κ) fun _ h27=>stA h27 s4 3 rfl rfl rfl κ rfl rfl rfl rfl fun _ w5 h28 s5 _=>h28.sk [30,9,6,5,0,1,2] rfl fun h29=>mv h29 rfl fun _ h30=>h30.sn [7,9,6,5,0,1,2] rfl fun h31=>hK9 _ _<|wp_ret ?_
  try simp only [Exit.then,Exit.inBlock]
  refine rCt h31 s5 3 υ37 rfl rfl rfl rfl rfl ?_
  have hq3:BM F c x.fd=({ F with O:=Da F.O c x.fd },Au 0):=bx
  rw [hq3]
  exact ⟨A,none,0,rfl,(Sep.tail_un (xs:=[_,_,_]) (s5.pk [0,1,2,5] rfl)).ownNil 0 9 1,hA.unO _⟩
 ·skip
  have hm2:=AI hc1
  refine cl h9 rfl BP (GV (cf:=cf) (A:=A) (F:=F) (s1.pk [2,3,4,0,1,5] rfl) hok hz0 hwx hm2) fun _ v2 w6 r2 h32=>?_
  obtain ⟨rfl,s6⟩:=r2
  refine mvs 5 h32 rfl fun _ h33=>h33.sk [9,7,6,5,0,1,2] rfl fun h34=>?_
  clear h1
  refine wpList_nil<|hK5 _ _<|sqr fun _ hK10=>mv h34 rfl fun _ h35=>bv h35 rfl (cNe _ _ _ _ rfl) fun _ h36=>h36.sn [19,9,7,6,5,0,1,2] rfl fun h37=>hK10 _ _<|wcT h37 rfl rfl<|h37.sk [9,7,6,5,0,1,2] rfl fun h38=>sqr fun _ hK11=>bu h38 (v:=.agg zL.toArray) rfl (fun w=>κ) fun _ h39=>?_
  refine mv h39 rfl fun _ h40=>stA h40 s6 3 rfl rfl rfl κ rfl rfl rfl rfl fun _ w8 h41 s7 _=>h41.sk [21,20,9,6,5,0,1,2] rfl fun h42=>mv h42 rfl fun _ h43=>h43.sn [7,9,6,5,0,1,2] rfl fun h44=>hK11 _ _<|wp_ret ?_
  try simp only [Exit.then,Exit.inBlock]
  refine rCt h44 s7 3 υ37 rfl rfl rfl rfl rfl ?_
  have hq4:BM F c x.fd=(F,Au 16):=bx
  rw [hq4]
  exact ⟨A,none,0,rfl,(Sep.tail_un (xs:=[_,_,_]) (s7.pk [0,1,2,5] rfl)).ownNil 0 9 1,hA.mono⟩
theorem Qo {w:World} {cf ob n:Nat} {F:FsM} {A:AdM} {R:List Ch} {c:Int} {x:CallM} (hS0:Sep w ((cP cf ob F A)++R)) (hfo:FsOk F) (hA:AdOk F A n) (hn:n≤900) (hs:SmS F) (h1:x.p1.length≤1000) (h2:x.p2.length≤1000) (h3:x.data.length≤1000) (hwx:wfD (c,x.fd)) (hcl:1≤c∧c≤8) :
  CallsR Tryz.prog 49 #[π cf,ν c,.agg (cL x).toArray] w (fun v w'=>∃ A' sa sc,v=.tuple #[Du (r0 (Ca F c x.fd x.off x.n).2) sa sc,ν (Ca F c x.fd x.off x.n).2.e]∧Sep w' (Ak 0 9 1 sa (Ca F c x.fd x.off x.n).2.names.length sc ((Ca F c x.fd x.off x.n).2.names.flatMap sE)::(cP cf ob ((Ca F c x.fd x.off x.n).1) A')++R)∧AdOk (Ca F c x.fd x.off x.n).1 A' (n+1)):=by
 have hS:=Sep.tail_many (xs:=cP cf ob F A) hS0;clear hS0
 have hz:SmF F:=hs.sm;have hok:=hfo.toFsC
 have hz0:=hz;obtain ⟨hz1,hz2,hz3⟩:F.N.length≤1000∧F.E.length≤1000∧F.O.length≤1000:=hz
 refine AB Tryz.func49 rfl (N:=58) Tryz.ntmps49 (by show 3≤58;decide) [(0,π cf),(1,ν c),(2,.agg (cL x).toArray)] rfl fun _ h1=>sqr fun _ hK3=>so (wn rfl) fun _ hK1=>Cv h1 rfl rfl rfl rfl rfl (z:=(cL x)) rfl hS fun _ g4 w7 h5 s8 _ _=>hK1 _ _ ?_
 refine so (wn rfl) fun _ hK2=>BB h5 rfl rfl rfl rfl (z:=zL) (fun _=>rfl) s8 fun _ g1 w2 h4 s1 _ _=>hK2 _ _ ?_
 refine mv h4 rfl fun _ h6=>wpList_nil<|hK3 _ _<|sqr fun _ hK4=>mvs 2 h6 rfl fun _ h7=>fav h7 rfl (BZ _ _) fun _ h8=>ldv h8 s1 1 υ3 rfl rfl rfl rfl fun _ h9=>?_
 rcases bC ((Az F.O c x.fd).isSome) with hc1 | hc1
 ·skip
  obtain ⟨m1,hm1⟩:=Option.isSome_iff_exists.1 hc1;have hml35:=FsC.look_fd hok hm1
  have hdl36:(F.at m1).data.length≤256:=(FsC.k hok m1 hml35.1).1
  refine cl h9 rfl BP (Gc (cf:=cf) (A:=A) (F:=F) (s1.pk [2,3,4,0,1,5] rfl) hok hz0 hwx hm1) fun _ v1 w3 r1 h10=>?_
  obtain ⟨rfl,s2⟩:=r1
  refine mvs 5 h10 rfl fun _ h11=>h11.sk [9,8,7,6,5,0,1,2] rfl fun h12=>?_
  clear h1
  refine wpList_nil<|hK4 _ _<|sq fun _ hK5=>sqr fun _ hK6=>mv h12 rfl fun _ h13=>bv h13 rfl (cNe _ _ _ _ rfl) fun _ h14=>h14.sn [20,9,8,7,6,5,0,1,2] rfl fun h15=>hK6 _ _<|wcF h15 rfl rfl<|h15.sk [9,8,7,6,5,0,1,2] rfl fun h16=>wp_skip<|hK5 _ _<|sq fun _ hK7=>sq fun _ hK8=>wp_region_lit ?_
  refine fav h16 rfl (Bj _ _) fun _ h17=>ldv h17 s2 4 υ3 rfl rfl rfl rfl fun _ h18=>bv h18 (z:=.bool (decide (x.off<0))) rfl (cLt _ _ _ _ rfl) fun _ h19=>mv h19 rfl fun _ h20=>sg h20 (wF h20 rfl rfl rfl) rfl rfl rfl (fun hC1=>by have hq:=(dF (Bb hC1));exact (rfa h20 rfl rfl (fun w=>Bz g4 0 w)) _) fun _ h21=>sg h21 (wF h21 rfl rfl rfl) rfl rfl rfl (fun hC2=>by have hq:=(dF (Bb hC2));exact (rld h21 rfl (opg rfl hC2) (ldB υ3 rfl (s2.get 4 rfl:Blk _ _ _ _) rfl))) fun _ h22=>sg h22 (wF h22 rfl rfl rfl) rfl rfl rfl (fun hC3=>by have hq:=(dF (Bb hC3));exact (BG h22 rfl (opg rfl hC3) rfl (cLt _ _ _ _ rfl)) _) fun _ h23=>sv1 h23 rfl (Dt h23 rfl (E:=(decide (x.off<0))) (F:=(decide (x.n<0))) rfl rfl rfl (fun e=>if_pos (by rw [e];try rfl))) fun _ h24=>mv h24 rfl fun _ h25=>sg h25 (wF h25 rfl rfl rfl) rfl rfl rfl (fun hC4=>by have hq:=(And.intro (dF (orF (Bb hC4)).1) (dF (orF (Bb hC4)).2));exact (rfa h25 rfl rfl (fun w=>Bz g4 0 w)) _) fun _ h26=>?_
  refine sg h26 (wF h26 rfl rfl rfl) rfl rfl rfl (fun hC5=>by have hq:=(And.intro (dF (orF (Bb hC5)).1) (dF (orF (Bb hC5)).2));exact (rld h26 rfl (opg rfl hC5) (ldB υ3 rfl (s2.get 4 rfl:Blk _ _ _ _) rfl))) fun _ h27=>sg h27 (wF h27 rfl rfl rfl) rfl rfl rfl (fun hC6=>by have hq:=(And.intro (dF (orF (Bb hC6)).1) (dF (orF (Bb hC6)).2));exact (BG h27 rfl (opg rfl hC6) rfl (cGt _ _ _ _ rfl)) _) fun _ h28=>sv1 h28 rfl (Dt h28 rfl (E:=((decide (x.off<0))||(decide (x.n<0)))) (F:=(decide (x.n>64))) rfl rfl rfl (fun e=>if_pos (by rw [e];try rfl))) fun _ h29=>h29.sn [35,9,8,7,6,5,0,1,2] rfl fun h30=>hK8 _ _ ?_
  rcases bC (((decide (x.off<0))||(decide (x.n<0)))||(decide (x.n>64))) with hc2 | hc2
  ·skip
   have hp1:((x.off<0)∨(x.n<0))∨(x.n>64):=((orT hc2).imp (fun q=>((orT q).imp (fun q=>(dT q)) (fun q=>(dT q)))) (fun q=>(dT q)))
   refine wcT h30 rfl hc2<|h30.sk [9,8,7,6,5,0,1,2] rfl fun h31=>sqr fun _ hK9=>bu h31 (v:=.agg zL.toArray) rfl (fun w=>κ) fun _ h32=>stA h32 s2 3 rfl rfl rfl κ rfl rfl rfl rfl fun _ w4 h33 s3 _=>h33.sk [36,9,8,6,5,0,1,2] rfl fun h34=>mv h34 rfl fun _ h35=>h35.sn [7,9,8,6,5,0,1,2] rfl fun h36=>hK9 _ _<|wp_ret ?_
   try simp only [Exit.then,Exit.inBlock]
   refine rCt h36 s3 3 υ37 rfl rfl rfl rfl rfl ?_
   have hq1:Ca F c x.fd x.off x.n=(F,Au 15):=bx
   rw [hq1]
   exact ⟨A,none,0,rfl,(Sep.tail_un (xs:=[_,_,_]) (s3.pk [0,1,2,5] rfl)).ownNil 0 9 1,hA.mono⟩
  ·skip
   have hp2:((¬ (x.off<0))∧(¬ (x.n<0)))∧(¬ (x.n>64)):=(And.intro (And.intro (dF (orF (orF hc2).1).1) (dF (orF (orF hc2).1).2)) (dF (orF hc2).2))
   refine wcF h30 rfl hc2<|h30.sk [9,8,7,6,5,0,1,2] rfl fun h37=>wp_skip<|hK7 _ _<|sq fun _ hK10=>?_
   have s4:=s2.drew
   refine wp_region_held_drew (S:=fun w'=>Sep w' [Ah cf 65 [π (A.ad 0),.map (some ob)],Av F A,AM KO ob A.C (opG F A),Ah g1 37 zL,Ah g4 30 (cL x),Ch.many R]) κ s4 (fun hq2=>?_)
   refine tv1 hq2 h37 0 rfl rfl (fun w1 _=>(Ap h37 rfl rfl) w1) fun _ h38=>?_
   refine tv1 hq2 h38 1 rfl rfl (fun w1 _=>(Cu h38 rfl rfl) w1) fun _ h39=>?_
   refine tv1 hq2 h39 2 rfl rfl (fun w1 _=>(rfa h39 rfl rfl (fun w=>Bl (A.ad m1) 0 w)) w1) fun _ h40=>?_
   refine tv1 hq2 h40 4 rfl rfl (fun w1 _=>(rfa h40 rfl rfl (fun w=>Bj g4 0 w)) w1) fun _ h41=>?_
   refine tv1 hq2 h41 5 rfl rfl (fun w1 hSw=>(rld h41 rfl rfl (ldB υ3 rfl (hSw.get 4 rfl:Blk _ _ _ _) rfl))) fun _ h42=>?_
   refine tv1 hq2 h42 6 rfl rfl (fun w1 _=>(Ap h42 rfl rfl) w1) fun _ h43=>?_
   refine tv1 hq2 h43 7 rfl rfl (fun w1 _=>(Cu h43 rfl rfl) w1) fun _ h44=>?_
   refine tv1 hq2 h44 8 rfl rfl (fun w1 _=>(rfa h44 rfl rfl (fun w=>Bl (A.ad m1) 0 w)) w1) fun _ h45=>?_
   refine wpAnyH_ready (rs:=[3,9]) κ (by simp) (toc rfl (wn rfl) (fun K1 hK11=>?_) (toc rfl (wn rfl) (fun K1 hK11=>?_) AllReadyH.nil))
   ·skip
    refine Br h45 rfl rfl rfl (v:=σ ((F.at m1).data)) (w':=w3.drew) ((rld h45 rfl rfl (NdP.c2 (F:=FsM.nE F) (A:=AdM.nC A) (k:=m1) (s4.get 1 rfl:NdP _ _ _) (show m1<F.N.length from ω) υ9 rfl))) fun _ h46=>hK11 _ _ s4 fun hq3=>?_
    refine to_ 9 rfl (wn rfl) κ fun _ hK12=>Br h46 rfl rfl rfl (v:=σ ((F.at m1).data)) (w':=w3.drew) ((rld h46 rfl rfl (NdP.c2 (F:=FsM.nE F) (A:=AdM.nC A) (k:=m1) (s4.get 1 rfl:NdP _ _ _) (show m1<F.N.length from ω) υ9 rfl))) fun _ h47=>hK12 _ _ s4 fun hq4=>?_
    refine to_ 10 rfl (wn rfl) κ fun _ hK13=>Br h47 rfl rfl rfl (v:=ν ((((F.at m1).data).length:Nat):Int)) (w':=w3.drew) ((CH h47 rfl rfl υ9) _) fun _ h48=>hK13 _ _ s4 fun hq5=>?_
    refine to_ 11 rfl (wn rfl) κ fun _ hK14=>Br h48 rfl rfl rfl (v:=ν (min x.off ((((F.at m1).data).length:Nat):Int))) (w':=w3.drew) ((JA h48 rfl rfl rfl ω) _) fun _ h49=>hK14 _ _ s4 fun hq6=>?_
    refine tv1 hq6 h49 12 rfl rfl (fun w1 _=>(EA h49 rfl rfl (vl:=(some (ν (min x.off ((((F.at m1).data).length:Nat):Int))))) (vh:=none) rfl rfl (fun w=>(fun w=>((slT 9 υ9 ((F.at m1).data) (a:=(min x.off ((((F.at m1).data).length:Nat):Int)).toNat) (b:=((F.at m1).data).length) (.inr ⟨_,rfl,ω⟩) (.inl ⟨rfl,rfl⟩) ω ω) w).trans (by rw [List.take_length])) w)) w1) fun _ h50=>?_
    refine tv1 hq6 h50 13 rfl rfl (fun w1 _=>(BJ h50 rfl rfl) w1) fun _ h51=>?_
    refine h51.sk [10,9,8,7,6,5,0,1,2] rfl fun h52=>?_
    refine wpAnyH_done κ ?_ _
    refine hK10 _ _ ?_
    refine sqr fun _ hK15=>mv h52 rfl fun _ h53=>fav h53 rfl (Bz _ _) fun _ h54=>ldv h54 s4 4 υ3 rfl rfl rfl rfl fun _ h55=>mv h55 rfl fun _ h56=>sv1 h56 rfl (CH h56 rfl rfl υ9) fun _ h57=>sv1 h57 rfl (JA h57 rfl rfl rfl ω) fun _ h58=>sv1 h58 rfl (EA h58 rfl rfl (vl:=none) (vh:=(some (ν (min x.n (((((F.at m1).data).drop ((min x.off ((((F.at m1).data).length:Nat):Int)).toNat)).length:Nat):Int))))) rfl rfl (fun w=>(fun w=>((slT 9 υ9 (((F.at m1).data).drop ((min x.off ((((F.at m1).data).length:Nat):Int)).toNat)) (a:=0) (b:=(min x.n (((((F.at m1).data).drop ((min x.off ((((F.at m1).data).length:Nat):Int)).toNat)).length:Nat):Int)).toNat) (.inl ⟨rfl,rfl⟩) (.inr ⟨_,rfl,ω⟩) ω ω) w).trans (by rw [List.drop_zero])) w)) fun _ h59=>bu h59 (v:=.agg #[ν 0,ν 0,σ ((((F.at m1).data).drop ((min x.off ((((F.at m1).data).length:Nat):Int)).toNat)).take ((min x.n (((((F.at m1).data).drop ((min x.off ((((F.at m1).data).length:Nat):Int)).toNat)).length:Nat):Int)).toNat)),.slice none 0 0,ν 0,ν 0,ν 0]) rfl (fun w=>κ) fun _ h60=>stA h60 s4 3 rfl rfl rfl κ rfl rfl rfl rfl fun _ w5 h61 s5 _=>?_
    refine h61.sk [57,56,55,54,53,52,51,50,10,9,8,6,5,0,1,2] rfl fun h62=>mv h62 rfl fun _ h63=>h63.sn [7,10,9,8,6,5,0,1,2] rfl fun h64=>hK15 _ _<|wp_ret ?_
    try simp only [Exit.then,Exit.inBlock]
    refine rCt h64 s5 3 υ37 rfl rfl rfl rfl rfl ?_
    have hq7:Ca F c x.fd x.off x.n=(F,FL (((F.at m1).data.drop x.off.toNat).take x.n.toNat)):=bx
    rw [hq7]
    exact ⟨A,none,0,(congrArg (fun z=>Value.tuple #[Du (r0 (FL z)) none 0,ν 0]) (JL (d:=(F.at m1).data) ω ω)),(Sep.tail_un (xs:=[_,_,_]) (s5.pk [0,1,2,5] rfl)).ownNil 0 9 1,hA.mono⟩
   ·skip
    refine Br h45 rfl rfl rfl (v:=σ ((F.at m1).data)) (w':=w3.drew) ((rld h45 rfl rfl (NdP.c2 (F:=FsM.nE F) (A:=AdM.nC A) (k:=m1) (s4.get 1 rfl:NdP _ _ _) (show m1<F.N.length from ω) υ9 rfl))) fun _ h65=>hK11 _ _ s4 fun hq8=>?_
    refine wpAnyH_ready (rs:=[3,10]) κ (by simp) (toc rfl (wn rfl) (fun K2 hK16=>?_) (toc rfl (wn rfl) (fun K2 hK16=>?_) AllReadyH.nil))
    ·skip
     refine Br h65 rfl rfl rfl (v:=σ ((F.at m1).data)) (w':=w3.drew) ((rld h65 rfl rfl (NdP.c2 (F:=FsM.nE F) (A:=AdM.nC A) (k:=m1) (s4.get 1 rfl:NdP _ _ _) (show m1<F.N.length from ω) υ9 rfl))) fun _ h66=>hK16 _ _ s4 fun hq9=>?_
     refine to_ 10 rfl (wn rfl) κ fun _ hK17=>Br h66 rfl rfl rfl (v:=ν ((((F.at m1).data).length:Nat):Int)) (w':=w3.drew) ((CH h66 rfl rfl υ9) _) fun _ h67=>hK17 _ _ s4 fun hq10=>?_
     refine to_ 11 rfl (wn rfl) κ fun _ hK18=>Br h67 rfl rfl rfl (v:=ν (min x.off ((((F.at m1).data).length:Nat):Int))) (w':=w3.drew) ((JA h67 rfl rfl rfl ω) _) fun _ h68=>hK18 _ _ s4 fun hq11=>?_
     refine tv1 hq11 h68 12 rfl rfl (fun w1 _=>(EA h68 rfl rfl (vl:=(some (ν (min x.off ((((F.at m1).data).length:Nat):Int))))) (vh:=none) rfl rfl (fun w=>(fun w=>((slT 9 υ9 ((F.at m1).data) (a:=(min x.off ((((F.at m1).data).length:Nat):Int)).toNat) (b:=((F.at m1).data).length) (.inr ⟨_,rfl,ω⟩) (.inl ⟨rfl,rfl⟩) ω ω) w).trans (by rw [List.take_length])) w)) w1) fun _ h69=>?_
     refine tv1 hq11 h69 13 rfl rfl (fun w1 _=>(BJ h69 rfl rfl) w1) fun _ h70=>?_
     refine h70.sk [10,9,8,7,6,5,0,1,2] rfl fun h71=>?_
     refine wpAnyH_done κ ?_ _
     refine hK10 _ _ ?_
     refine sqr fun _ hK19=>mv h71 rfl fun _ h72=>fav h72 rfl (Bz _ _) fun _ h73=>ldv h73 s4 4 υ3 rfl rfl rfl rfl fun _ h74=>mv h74 rfl fun _ h75=>sv1 h75 rfl (CH h75 rfl rfl υ9) fun _ h76=>sv1 h76 rfl (JA h76 rfl rfl rfl ω) fun _ h77=>sv1 h77 rfl (EA h77 rfl rfl (vl:=none) (vh:=(some (ν (min x.n (((((F.at m1).data).drop ((min x.off ((((F.at m1).data).length:Nat):Int)).toNat)).length:Nat):Int))))) rfl rfl (fun w=>(fun w=>((slT 9 υ9 (((F.at m1).data).drop ((min x.off ((((F.at m1).data).length:Nat):Int)).toNat)) (a:=0) (b:=(min x.n (((((F.at m1).data).drop ((min x.off ((((F.at m1).data).length:Nat):Int)).toNat)).length:Nat):Int)).toNat) (.inl ⟨rfl,rfl⟩) (.inr ⟨_,rfl,ω⟩) ω ω) w).trans (by rw [List.drop_zero])) w)) fun _ h78=>bu h78 (v:=.agg #[ν 0,ν 0,σ ((((F.at m1).data).drop ((min x.off ((((F.at m1).data).length:Nat):Int)).toNat)).take ((min x.n (((((F.at m1).data).drop ((min x.off ((((F.at m1).data).length:Nat):Int)).toNat)).length:Nat):Int)).toNat)),.slice none 0 0,ν 0,ν 0,ν 0]) rfl (fun w=>κ) fun _ h79=>stA h79 s4 3 rfl rfl rfl κ rfl rfl rfl rfl fun _ w6 h80 s6 _=>?_
     refine h80.sk [57,56,55,54,53,52,51,50,10,9,8,6,5,0,1,2] rfl fun h81=>mv h81 rfl fun _ h82=>h82.sn [7,10,9,8,6,5,0,1,2] rfl fun h83=>hK19 _ _<|wp_ret ?_
     try simp only [Exit.then,Exit.inBlock]
     refine rCt h83 s6 3 υ37 rfl rfl rfl rfl rfl ?_
     have hq12:Ca F c x.fd x.off x.n=(F,FL (((F.at m1).data.drop x.off.toNat).take x.n.toNat)):=bx
     rw [hq12]
     exact ⟨A,none,0,(congrArg (fun z=>Value.tuple #[Du (r0 (FL z)) none 0,ν 0]) (JL (d:=(F.at m1).data) ω ω)),(Sep.tail_un (xs:=[_,_,_]) (s6.pk [0,1,2,5] rfl)).ownNil 0 9 1,hA.mono⟩
    ·skip
     refine Br h65 rfl rfl rfl (v:=ν ((((F.at m1).data).length:Nat):Int)) (w':=w3.drew) ((CH h65 rfl rfl υ9) _) fun _ h84=>hK16 _ _ s4 fun hq13=>?_
     refine wpAnyH_ready (rs:=[3,11]) κ (by simp) (toc rfl (wn rfl) (fun K3 hK20=>?_) (toc rfl (wn rfl) (fun K3 hK20=>?_) AllReadyH.nil))
     ·skip
      refine Br h84 rfl rfl rfl (v:=σ ((F.at m1).data)) (w':=w3.drew) ((rld h84 rfl rfl (NdP.c2 (F:=FsM.nE F) (A:=AdM.nC A) (k:=m1) (s4.get 1 rfl:NdP _ _ _) (show m1<F.N.length from ω) υ9 rfl))) fun _ h85=>hK20 _ _ s4 fun hq14=>?_
      refine to_ 11 rfl (wn rfl) κ fun _ hK21=>Br h85 rfl rfl rfl (v:=ν (min x.off ((((F.at m1).data).length:Nat):Int))) (w':=w3.drew) ((JA h85 rfl rfl rfl ω) _) fun _ h86=>hK21 _ _ s4 fun hq15=>?_
      refine tv1 hq15 h86 12 rfl rfl (fun w1 _=>(EA h86 rfl rfl (vl:=(some (ν (min x.off ((((F.at m1).data).length:Nat):Int))))) (vh:=none) rfl rfl (fun w=>(fun w=>((slT 9 υ9 ((F.at m1).data) (a:=(min x.off ((((F.at m1).data).length:Nat):Int)).toNat) (b:=((F.at m1).data).length) (.inr ⟨_,rfl,ω⟩) (.inl ⟨rfl,rfl⟩) ω ω) w).trans (by rw [List.take_length])) w)) w1) fun _ h87=>?_
      refine tv1 hq15 h87 13 rfl rfl (fun w1 _=>(BJ h87 rfl rfl) w1) fun _ h88=>?_
      refine h88.sk [10,9,8,7,6,5,0,1,2] rfl fun h89=>?_
      refine wpAnyH_done κ ?_ _
      refine hK10 _ _ ?_
      refine sqr fun _ hK22=>mv h89 rfl fun _ h90=>fav h90 rfl (Bz _ _) fun _ h91=>ldv h91 s4 4 υ3 rfl rfl rfl rfl fun _ h92=>mv h92 rfl fun _ h93=>sv1 h93 rfl (CH h93 rfl rfl υ9) fun _ h94=>sv1 h94 rfl (JA h94 rfl rfl rfl ω) fun _ h95=>sv1 h95 rfl (EA h95 rfl rfl (vl:=none) (vh:=(some (ν (min x.n (((((F.at m1).data).drop ((min x.off ((((F.at m1).data).length:Nat):Int)).toNat)).length:Nat):Int))))) rfl rfl (fun w=>(fun w=>((slT 9 υ9 (((F.at m1).data).drop ((min x.off ((((F.at m1).data).length:Nat):Int)).toNat)) (a:=0) (b:=(min x.n (((((F.at m1).data).drop ((min x.off ((((F.at m1).data).length:Nat):Int)).toNat)).length:Nat):Int)).toNat) (.inl ⟨rfl,rfl⟩) (.inr ⟨_,rfl,ω⟩) ω ω) w).trans (by rw [List.drop_zero])) w)) fun _ h96=>bu h96 (v:=.agg #[ν 0,ν 0,σ ((((F.at m1).data).drop ((min x.off ((((F.at m1).data).length:Nat):Int)).toNat)).take ((min x.n (((((F.at m1).data).drop ((min x.off ((((F.at m1).data).length:Nat):Int)).toNat)).length:Nat):Int)).toNat)),.slice none 0 0,ν 0,ν 0,ν 0]) rfl (fun w=>κ) fun _ h97=>stA h97 s4 3 rfl rfl rfl κ rfl rfl rfl rfl fun _ w8 h98 s7 _=>?_
      refine h98.sk [57,56,55,54,53,52,51,50,10,9,8,6,5,0,1,2] rfl fun h99=>mv h99 rfl fun _ h100=>h100.sn [7,10,9,8,6,5,0,1,2] rfl fun h101=>hK22 _ _<|wp_ret ?_
      try simp only [Exit.then,Exit.inBlock]
      refine rCt h101 s7 3 υ37 rfl rfl rfl rfl rfl ?_
      have hq16:Ca F c x.fd x.off x.n=(F,FL (((F.at m1).data.drop x.off.toNat).take x.n.toNat)):=bx
      rw [hq16]
      exact ⟨A,none,0,(congrArg (fun z=>Value.tuple #[Du (r0 (FL z)) none 0,ν 0]) (JL (d:=(F.at m1).data) ω ω)),(Sep.tail_un (xs:=[_,_,_]) (s7.pk [0,1,2,5] rfl)).ownNil 0 9 1,hA.mono⟩
     ·skip
      refine Br h84 rfl rfl rfl (v:=ν (min x.off ((((F.at m1).data).length:Nat):Int))) (w':=w3.drew) ((JA h84 rfl rfl rfl ω) _) fun _ h102=>hK20 _ _ s4 fun hq17=>?_
      refine to_ 3 rfl (wn rfl) κ fun _ hK23=>Br h102 rfl rfl rfl (v:=σ ((F.at m1).data)) (w':=w3.drew) ((rld h102 rfl rfl (NdP.c2 (F:=FsM.nE F) (A:=AdM.nC A) (k:=m1) (s4.get 1 rfl:NdP _ _ _) (show m1<F.N.length from ω) υ9 rfl))) fun _ h103=>hK23 _ _ s4 fun hq18=>?_
      refine tv1 hq18 h103 12 rfl rfl (fun w1 _=>(EA h103 rfl rfl (vl:=(some (ν (min x.off ((((F.at m1).data).length:Nat):Int))))) (vh:=none) rfl rfl (fun w=>(fun w=>((slT 9 υ9 ((F.at m1).data) (a:=(min x.off ((((F.at m1).data).length:Nat):Int)).toNat) (b:=((F.at m1).data).length) (.inr ⟨_,rfl,ω⟩) (.inl ⟨rfl,rfl⟩) ω ω) w).trans (by rw [List.take_length])) w)) w1) fun _ h104=>?_
      refine tv1 hq18 h104 13 rfl rfl (fun w1 _=>(BJ h104 rfl rfl) w1) fun _ h105=>?_
      refine h105.sk [10,9,8,7,6,5,0,1,2] rfl fun h106=>?_
      refine wpAnyH_done κ ?_ _
      refine hK10 _ _ ?_
      refine sqr fun _ hK24=>mv h106 rfl fun _ h107=>fav h107 rfl (Bz _ _) fun _ h108=>ldv h108 s4 4 υ3 rfl rfl rfl rfl fun _ h109=>mv h109 rfl fun _ h110=>sv1 h110 rfl (CH h110 rfl rfl υ9) fun _ h111=>sv1 h111 rfl (JA h111 rfl rfl rfl ω) fun _ h112=>sv1 h112 rfl (EA h112 rfl rfl (vl:=none) (vh:=(some (ν (min x.n (((((F.at m1).data).drop ((min x.off ((((F.at m1).data).length:Nat):Int)).toNat)).length:Nat):Int))))) rfl rfl (fun w=>(fun w=>((slT 9 υ9 (((F.at m1).data).drop ((min x.off ((((F.at m1).data).length:Nat):Int)).toNat)) (a:=0) (b:=(min x.n (((((F.at m1).data).drop ((min x.off ((((F.at m1).data).length:Nat):Int)).toNat)).length:Nat):Int)).toNat) (.inl ⟨rfl,rfl⟩) (.inr ⟨_,rfl,ω⟩) ω ω) w).trans (by rw [List.drop_zero])) w)) fun _ h113=>bu h113 (v:=.agg #[ν 0,ν 0,σ ((((F.at m1).data).drop ((min x.off ((((F.at m1).data).length:Nat):Int)).toNat)).take ((min x.n (((((F.at m1).data).drop ((min x.off ((((F.at m1).data).length:Nat):Int)).toNat)).length:Nat):Int)).toNat)),.slice none 0 0,ν 0,ν 0,ν 0]) rfl (fun w=>κ) fun _ h114=>stA h114 s4 3 rfl rfl rfl κ rfl rfl rfl rfl fun _ w9 h115 s9 _=>?_
      refine h115.sk [57,56,55,54,53,52,51,50,10,9,8,6,5,0,1,2] rfl fun h116=>mv h116 rfl fun _ h117=>h117.sn [7,10,9,8,6,5,0,1,2] rfl fun h118=>hK24 _ _<|wp_ret ?_
      try simp only [Exit.then,Exit.inBlock]
      refine rCt h118 s9 3 υ37 rfl rfl rfl rfl rfl ?_
      have hq19:Ca F c x.fd x.off x.n=(F,FL (((F.at m1).data.drop x.off.toNat).take x.n.toNat)):=bx
      rw [hq19]
      exact ⟨A,none,0,(congrArg (fun z=>Value.tuple #[Du (r0 (FL z)) none 0,ν 0]) (JL (d:=(F.at m1).data) ω ω)),(Sep.tail_un (xs:=[_,_,_]) (s9.pk [0,1,2,5] rfl)).ownNil 0 9 1,hA.mono⟩
 ·skip
  have hm2:=AI hc1
  refine cl h9 rfl BP (GV (cf:=cf) (A:=A) (F:=F) (s1.pk [2,3,4,0,1,5] rfl) hok hz0 hwx hm2) fun _ v2 w10 r2 h119=>?_
  obtain ⟨rfl,s10⟩:=r2
  refine mvs 5 h119 rfl fun _ h120=>h120.sk [9,8,7,6,5,0,1,2] rfl fun h121=>?_
  clear h1
  refine wpList_nil<|hK4 _ _<|sq fun _ hK25=>sqr fun _ hK26=>mv h121 rfl fun _ h122=>bv h122 rfl (cNe _ _ _ _ rfl) fun _ h123=>h123.sn [20,9,8,7,6,5,0,1,2] rfl fun h124=>hK26 _ _<|wcT h124 rfl rfl<|h124.sk [9,8,7,6,5,0,1,2] rfl fun h125=>sqr fun _ hK27=>bu h125 (v:=.agg zL.toArray) rfl (fun w=>κ) fun _ h126=>?_
  refine mv h126 rfl fun _ h127=>stA h127 s10 3 rfl rfl rfl κ rfl rfl rfl rfl fun _ w11 h128 s11 _=>h128.sk [22,21,9,8,6,5,0,1,2] rfl fun h129=>mv h129 rfl fun _ h130=>h130.sn [7,9,8,6,5,0,1,2] rfl fun h131=>hK27 _ _<|wp_ret ?_
  try simp only [Exit.then,Exit.inBlock]
  refine rCt h131 s11 3 υ37 rfl rfl rfl rfl rfl ?_
  have hq20:Ca F c x.fd x.off x.n=(F,Au 16):=bx
  rw [hq20]
  exact ⟨A,none,0,rfl,(Sep.tail_un (xs:=[_,_,_]) (s11.pk [0,1,2,5] rfl)).ownNil 0 9 1,hA.mono⟩
theorem OR {w:World} {cf ob n:Nat} {F:FsM} {A:AdM} {R:List Ch} {c:Int} {x:CallM} (hS0:Sep w ((cP cf ob F A)++R)) (hfo:FsOk F) (hA:AdOk F A n) (hn:n≤900) (hs:SmS F) (h1:x.p1.length≤1000) (h2:x.p2.length≤1000) (h3:x.data.length≤1000) (hwx:wfD (c,x.fd)) (hcl:1≤c∧c≤8) :
  CallsR Tryz.prog 50 #[π cf,ν c,.agg (cL x).toArray] w (fun v w'=>∃ A' sa sc,v=.tuple #[Du (r0 (Bc F c x.fd x.off x.data).2) sa sc,ν (Bc F c x.fd x.off x.data).2.e]∧Sep w' (Ak 0 9 1 sa (Bc F c x.fd x.off x.data).2.names.length sc ((Bc F c x.fd x.off x.data).2.names.flatMap sE)::(cP cf ob ((Bc F c x.fd x.off x.data).1) A')++R)∧AdOk (Bc F c x.fd x.off x.data).1 A' (n+1)):=by
 have hS:=Sep.tail_many (xs:=cP cf ob F A) hS0;clear hS0
 have hz:SmF F:=hs.sm;have hok:=hfo.toFsC
 have hz0:=hz;obtain ⟨hz1,hz2,hz3⟩:F.N.length≤1000∧F.E.length≤1000∧F.O.length≤1000:=hz
 refine AB Tryz.func50 rfl (N:=83) Tryz.ntmps50 (by show 3≤83;decide) [(0,π cf),(1,ν c),(2,.agg (cL x).toArray)] rfl fun _ h1=>sqr fun _ hK3=>so (wn rfl) fun _ hK1=>Cv h1 rfl rfl rfl rfl rfl (z:=(cL x)) rfl hS fun _ g4 w7 h5 s8 _ _=>hK1 _ _ ?_
 refine so (wn rfl) fun _ hK2=>BB h5 rfl rfl rfl rfl (z:=zL) (fun _=>rfl) s8 fun _ g1 w2 h4 s1 _ _=>hK2 _ _ ?_
 refine mv h4 rfl fun _ h6=>wpList_nil<|hK3 _ _<|sqr fun _ hK4=>mvs 2 h6 rfl fun _ h7=>fav h7 rfl (BZ _ _) fun _ h8=>ldv h8 s1 1 υ3 rfl rfl rfl rfl fun _ h9=>?_
 rcases bC ((Az F.O c x.fd).isSome) with hc1 | hc1
 ·skip
  obtain ⟨m1,hm1⟩:=Option.isSome_iff_exists.1 hc1;have hml35:=FsC.look_fd hok hm1
  have hdl36:(F.at m1).data.length≤256:=(FsC.k hok m1 hml35.1).1
  refine cl h9 rfl BP (Gc (cf:=cf) (A:=A) (F:=F) (s1.pk [2,3,4,0,1,5] rfl) hok hz0 hwx hm1) fun _ v1 w3 r1 h10=>?_
  obtain ⟨rfl,s2⟩:=r1
  refine mvs 5 h10 rfl fun _ h11=>h11.sk [9,8,7,6,5,0,1,2] rfl fun h12=>?_
  clear h1
  refine wpList_nil<|hK4 _ _<|sq fun _ hK5=>wp_block ?_
  refine sqr fun _ hK6=>mv h12 rfl fun _ h13=>bv h13 rfl (cNe _ _ _ _ rfl) fun _ h14=>mv h14 rfl fun _ h15=>h15.sn [20,9,8,7,6,5,0,1,2] rfl fun h16=>hK6 _ _<|wcF h16 rfl rfl<|h16.sk [9,8,7,6,5,0,1,2] rfl fun h17=>sqr fun _ hK7=>fav h17 rfl (Bj _ _) fun _ h18=>?_
  refine ldv h18 s2 4 υ3 rfl rfl rfl rfl fun _ h19=>bv h19 (z:=.bool (decide (x.off<0))) rfl (cLt _ _ _ _ rfl) fun _ h20=>mv h20 rfl fun _ h21=>sg h21 (wF h21 rfl rfl rfl) rfl rfl rfl (fun hC1=>by have hq:=(dF (Bb hC1));exact (rfa h21 rfl rfl (fun w=>AO g4 0 w)) _) fun _ h22=>sg h22 (wF h22 rfl rfl rfl) rfl rfl rfl (fun hC2=>by have hq:=(dF (Bb hC2));exact (rld h22 rfl (opg rfl hC2) (ldB υ9 rfl (s2.get 4 rfl:Blk _ _ _ _) rfl))) fun _ h23=>sg h23 (wF h23 rfl rfl rfl) rfl rfl rfl (fun hC3=>by have hq:=(dF (Bb hC3));exact (CH h23 rfl (opg rfl hC3) υ9) _) fun _ h24=>sg h24 (wF h24 rfl rfl rfl) rfl rfl rfl (fun hC4=>by have hq:=(dF (Bb hC4));exact (BG h24 rfl (opg rfl hC4) rfl (cGt _ _ _ _ rfl)) _) fun _ h25=>sv1 h25 rfl (Dt h25 rfl (E:=(decide (x.off<0))) (F:=(decide ((x.data.length:Int)>64))) rfl rfl rfl (fun e=>if_pos (by rw [e];try rfl))) fun _ h26=>mv h26 rfl fun _ h27=>h27.sk [25,9,8,7,6,5,0,1,2] rfl fun h28=>?_
  refine wpList_nil<|hK7 _ _ ?_
  rcases bC ((decide (x.off<0))||(decide ((x.data.length:Int)>64))) with hc2 | hc2
  ·skip
   have hp1:(x.off<0)∨((x.data.length:Int)>64):=((orT hc2).imp (fun q=>(dT q)) (fun q=>(dT q)))
   refine wcT h28 rfl hc2<|h28.sk [9,8,7,6,5,0,1,2] rfl fun h29=>sqr fun _ hK8=>bu h29 (v:=.agg zL.toArray) rfl (fun w=>κ) fun _ h30=>stA h30 s2 3 rfl rfl rfl κ rfl rfl rfl rfl fun _ w4 h31 s3 _=>h31.sk [35,9,8,6,5,0,1,2] rfl fun h32=>mv h32 rfl fun _ h33=>h33.sn [7,9,8,6,5,0,1,2] rfl fun h34=>hK8 _ _<|wp_ret ?_
   try simp only [Exit.then,Exit.inBlock]
   refine rCt h34 s3 3 υ37 rfl rfl rfl rfl rfl ?_
   have hq1:Bc F c x.fd x.off x.data=(F,Au 15):=bx
   rw [hq1]
   exact ⟨A,none,0,rfl,(Sep.tail_un (xs:=[_,_,_]) (s3.pk [0,1,2,5] rfl)).ownNil 0 9 1,hA.mono⟩
  ·skip
   have hp2:(¬ (x.off<0))∧(¬ ((x.data.length:Int)>64)):=(And.intro (dF (orF hc2).1) (dF (orF hc2).2))
   refine wcF h28 rfl hc2<|h28.sk [9,8,7,6,5,0,1,2] rfl fun h35=>sqr fun _ hK9=>fav h35 rfl (AO _ _) fun _ h36=>ldv h36 s2 4 υ9 rfl rfl rfl rfl fun _ h37=>bv h37 (z:=.bool (decide (x.data=[]))) rfl (FK _ _ _ x.data [] rfl) fun _ h38=>mv h38 rfl fun _ h39=>h39.sn [36,9,8,7,6,5,0,1,2] rfl fun h40=>hK9 _ _ ?_
   rcases bC (decide (x.data=[])) with hc3 | hc3
   ·skip
    have hp3:x.data=[]:=(dT hc3)
    refine wcT h40 rfl hc3<|h40.sk [9,8,7,6,5,0,1,2] rfl fun h41=>sqr fun _ hK10=>bu h41 (v:=.agg zL.toArray) rfl (fun w=>κ) fun _ h42=>stA h42 s2 3 rfl rfl rfl κ rfl rfl rfl rfl fun _ w5 h43 s4 _=>h43.sk [40,9,8,6,5,0,1,2] rfl fun h44=>mv h44 rfl fun _ h45=>h45.sn [7,9,8,6,5,0,1,2] rfl fun h46=>hK10 _ _<|wp_ret ?_
    try simp only [Exit.then,Exit.inBlock]
    refine rCt h46 s4 3 υ37 rfl rfl rfl rfl rfl ?_
    have hq2:Bc F c x.fd x.off x.data=(F,Au 0):=by unfold Bc;rw [hm1];try dsimp only;rw [if_neg ω,if_pos (show x.data.length=0 from (by rw [dT hc3];rfl))]
    rw [hq2]
    exact ⟨A,none,0,rfl,(Sep.tail_un (xs:=[_,_,_]) (s4.pk [0,1,2,5] rfl)).ownNil 0 9 1,hA.mono⟩
   ·skip
    have hp4:¬ (x.data=[]):=(dF hc3)
    refine wcF h40 rfl hc3<|h40.sk [9,8,7,6,5,0,1,2] rfl fun h47=>sqr fun _ hK11=>fav h47 rfl (Bj _ _) fun _ h48=>ldv h48 s2 4 υ3 rfl rfl rfl rfl fun _ h49=>fav h49 rfl (AO _ _) fun _ h50=>ldv h50 s2 4 υ9 rfl rfl rfl rfl fun _ h51=>sv1 h51 rfl (CH h51 rfl rfl υ9) fun _ h52=>bv h52 (z:=ν (256-(x.data.length:Int))) rfl (Ib _ _ _ ω ω ω) fun _ h53=>bv h53 (z:=.bool (decide (x.off>256-(x.data.length:Int)))) rfl (cGt _ _ _ _ rfl) fun _ h54=>?_
    refine mv h54 rfl fun _ h55=>h55.sn [41,9,8,7,6,5,0,1,2] rfl fun h56=>hK11 _ _ ?_
    rcases bC (decide (x.off>256-(x.data.length:Int))) with hc4 | hc4
    ·skip
     have hp5:x.off>256-(x.data.length:Int):=(dT hc4)
     refine wcT h56 rfl hc4<|h56.sk [9,8,7,6,5,0,1,2] rfl fun h57=>sqr fun _ hK12=>bu h57 (v:=.agg zL.toArray) rfl (fun w=>κ) fun _ h58=>stA h58 s2 3 rfl rfl rfl κ rfl rfl rfl rfl fun _ w6 h59 s5 _=>h59.sk [49,9,8,6,5,0,1,2] rfl fun h60=>mv h60 rfl fun _ h61=>h61.sn [7,9,8,6,5,0,1,2] rfl fun h62=>hK12 _ _<|wp_ret ?_
     try simp only [Exit.then,Exit.inBlock]
     refine rCt h62 s5 3 υ37 rfl rfl rfl rfl rfl ?_
     have hq3:Bc F c x.fd x.off x.data=(F,Au 19):=by unfold Bc;rw [hm1];try dsimp only;rw [if_neg ω,if_neg (show ¬ (x.data.length=0) from (fun q=>dF hc3 (List.eq_nil_of_length_eq_zero q))),if_pos ω]
     rw [hq3]
     exact ⟨A,none,0,rfl,(Sep.tail_un (xs:=[_,_,_]) (s5.pk [0,1,2,5] rfl)).ownNil 0 9 1,hA.mono⟩
    ·skip
     have hp6:¬ (x.off>256-(x.data.length:Int)):=(dF hc4)
     refine wcF h56 rfl hc4<|h56.sk [9,8,7,6,5,0,1,2] rfl fun h63=>wp_skip<|hK5 _ _<|sqr fun _ hK13=>fav h63 rfl (Bj _ _) fun _ h64=>ldv h64 s2 4 υ3 rfl rfl rfl rfl fun _ h65=>fav h65 rfl (AO _ _) fun _ h66=>ldv h66 s2 4 υ9 rfl rfl rfl rfl fun _ h67=>sv1 h67 rfl (CH h67 rfl rfl υ9) fun _ h68=>bv h68 (z:=ν (x.off+(x.data.length:Int))) rfl (Dx _ _ _ ω ω ω) fun _ h69=>?_
     refine mv h69 rfl fun _ h70=>h70.sn [10,9,8,7,6,5,0,1,2] rfl fun h71=>hK13 _ _<|sq fun _ hK14=>?_
     have s6:=s2.drew
     refine wp_region_held_drew (S:=fun w'=>Sep w' [Ah cf 65 [π (A.ad 0),.map (some ob)],Av F A,AM KO ob A.C (opG F A),Ah g1 37 zL,Ah g4 30 (cL x),Ch.many R]) κ s6 (fun hq4=>?_)
     refine tv1 hq4 h71 0 rfl rfl (fun w1 _=>(Ap h71 rfl rfl) w1) fun _ h72=>?_
     refine tv1 hq4 h72 1 rfl rfl (fun w1 _=>(Cu h72 rfl rfl) w1) fun _ h73=>?_
     refine tv1 hq4 h73 2 rfl rfl (fun w1 _=>(rfa h73 rfl rfl (fun w=>Bl (A.ad m1) 0 w)) w1) fun _ h74=>?_
     refine tv1 hq4 h74 4 rfl rfl (fun w1 _=>(Ap h74 rfl rfl) w1) fun _ h75=>?_
     refine tv1 hq4 h75 5 rfl rfl (fun w1 _=>(Ap h75 rfl rfl) w1) fun _ h76=>?_
     refine tv1 hq4 h76 6 rfl rfl (fun w1 _=>(Cu h76 rfl rfl) w1) fun _ h77=>?_
     refine tv1 hq4 h77 7 rfl rfl (fun w1 _=>(rfa h77 rfl rfl (fun w=>Bl (A.ad m1) 0 w)) w1) fun _ h78=>?_
     refine wpAnyH_ready (rs:=[3,8]) κ (by simp) (toc rfl (wn rfl) (fun K1 hK15=>?_) (toc rfl (wn rfl) (fun K1 hK15=>?_) AllReadyH.nil))
     ·skip
      refine Br h78 rfl rfl rfl (v:=σ ((F.at m1).data)) (w':=w3.drew) ((rld h78 rfl rfl (NdP.c2 (F:=FsM.nE F) (A:=AdM.nC A) (k:=m1) (s6.get 1 rfl:NdP _ _ _) (show m1<F.N.length from ω) υ9 rfl))) fun _ h79=>hK15 _ _ s6 fun hq5=>?_
      refine to_ 8 rfl (wn rfl) κ fun _ hK16=>Br h79 rfl rfl rfl (v:=σ ((F.at m1).data)) (w':=w3.drew) ((rld h79 rfl rfl (NdP.c2 (F:=FsM.nE F) (A:=AdM.nC A) (k:=m1) (s6.get 1 rfl:NdP _ _ _) (show m1<F.N.length from ω) υ9 rfl))) fun _ h80=>hK16 _ _ s6 fun hq6=>?_
      refine to_ 9 rfl (wn rfl) κ fun _ hK17=>Br h80 rfl rfl rfl (v:=ν ((((F.at m1).data).length:Nat):Int)) (w':=w3.drew) ((CH h80 rfl rfl υ9) _) fun _ h81=>hK17 _ _ s6 fun hq7=>?_
      refine to_ 10 rfl (wn rfl) κ fun _ hK18=>Br h81 rfl rfl rfl (v:=ν (max (x.off+(x.data.length:Int)) ((((F.at m1).data).length:Nat):Int))) (w':=w3.drew) ((Ou h81 rfl rfl rfl ω) _) fun _ h82=>hK18 _ _ s6 fun hq8=>?_
      refine to_ 11 rfl (wn rfl) κ fun _ hK19=>CS h82 rfl rfl rfl (xs:=[.tmp 59,.tmp 66]) rfl Do rfl (vs:=[σ ((F.at m1).data),ν (max (x.off+(x.data.length:Int)) ((((F.at m1).data).length:Nat):Int))]) rfl (args:=#[σ ((F.at m1).data),ν (max (x.off+(x.data.length:Int)) ((((F.at m1).data).length:Nat):Int))]) rfl ((by have z:=Gm s6 ((F.at m1).data) (n:=(max (x.off+(x.data.length:Int)) ((((F.at m1).data).length:Nat):Int)).toNat) ω ω;rw [show (((max (x.off+(x.data.length:Int)) ((((F.at m1).data).length:Nat):Int)).toNat:Nat):Int)=max (x.off+(x.data.length:Int)) ((((F.at m1).data).length:Nat):Int) by omega] at z;exact z)) fun _ v2 w8 r2 h83=>?_
      obtain ⟨rfl,s7⟩:=r2
      have hs233:=DT ((F.at m1).data) ((max (x.off+(x.data.length:Int)) ((((F.at m1).data).length:Nat):Int)).toNat)
      refine hK19 _ _ s7 fun hq9=>?_
      refine tv1 hq9 h83 12 rfl rfl (fun w1 _=>(BJ h83 rfl rfl) w1) fun _ h84=>?_
      refine h84.sk [11,10,9,8,7,6,5,0,1,2] rfl fun h85=>?_
      refine wpAnyH_done κ ?_ _
      refine hK14 _ _ ?_
      refine sq fun _ hK20=>?_
      have s9:=s7.drew
      refine wp_region_held_drew (S:=fun w'=>Sep w' [Ah cf 65 [π (A.ad 0),.map (some ob)],AM KO ob A.C (opG F A),Ah g1 37 zL,Ah g4 30 (cL x),Ch.many R]) κ (s9.pk [0,2,3,4,5] rfl) (fun hq10=>?_)
      refine tv1 hq10 h85 0 rfl rfl (fun w1 _=>(Ap h85 rfl rfl) w1) fun _ h86=>?_
      refine tv1 hq10 h86 1 rfl rfl (fun w1 _=>(Ap h86 rfl rfl) w1) fun _ h87=>?_
      refine tv1 hq10 h87 2 rfl rfl (fun w1 _=>(rfa h87 rfl rfl (fun w=>Bj g4 0 w)) w1) fun _ h88=>?_
      refine tv1 hq10 h88 3 rfl rfl (fun w1 hSw=>(rld h88 rfl rfl (ldB υ3 rfl (hSw.get 3 rfl:Blk _ _ _ _) rfl))) fun _ h89=>?_
      refine tv1 hq10 h89 4 rfl rfl (fun w1 _=>(EA h89 rfl rfl (vl:=none) (vh:=(some (ν x.off))) rfl rfl (fun w=>(fun w=>((slT 9 υ9 (Ba ((F.at m1).data) ((max (x.off+(x.data.length:Int)) ((((F.at m1).data).length:Nat):Int)).toNat)) (a:=0) (b:=(x.off).toNat) (.inl ⟨rfl,rfl⟩) (.inr ⟨_,rfl,ω⟩) ω ω) w).trans (by rw [List.drop_zero])) w)) w1) fun _ h90=>?_
      refine tv1 hq10 h90 5 rfl rfl (fun w1 _=>(rfa h90 rfl rfl (fun w=>AO g4 0 w)) w1) fun _ h91=>?_
      refine tv1 hq10 h91 6 rfl rfl (fun w1 hSw=>(rld h91 rfl rfl (ldB υ9 rfl (hSw.get 3 rfl:Blk _ _ _ _) rfl))) fun _ h92=>?_
      refine tv1 hq10 h92 7 rfl rfl (fun w1 _=>(BG h92 rfl rfl rfl (DK _ _ _ ((Ba ((F.at m1).data) ((max (x.off+(x.data.length:Int)) ((((F.at m1).data).length:Nat):Int)).toNat)).take ((x.off).toNat)) x.data (by (try simp only [List.length_append,List.length_take,List.length_drop,List.length_cons,List.length_nil]);omega))) w1) fun _ h93=>?_
      refine tv1 hq10 h93 8 rfl rfl (fun w1 _=>(Ap h93 rfl rfl) w1) fun _ h94=>?_
      refine tv1 hq10 h94 9 rfl rfl (fun w1 _=>(Ap h94 rfl rfl) w1) fun _ h95=>?_
      refine tv1 hq10 h95 10 rfl rfl (fun w1 _=>(EA h95 rfl rfl (vl:=(some (ν (x.off+(x.data.length:Int))))) (vh:=none) rfl rfl (fun w=>(fun w=>((slT 9 υ9 (Ba ((F.at m1).data) ((max (x.off+(x.data.length:Int)) ((((F.at m1).data).length:Nat):Int)).toNat)) (a:=(x.off+(x.data.length:Int)).toNat) (b:=(Ba ((F.at m1).data) ((max (x.off+(x.data.length:Int)) ((((F.at m1).data).length:Nat):Int)).toNat)).length) (.inr ⟨_,rfl,ω⟩) (.inl ⟨rfl,rfl⟩) ω ω) w).trans (by rw [List.take_length])) w)) w1) fun _ h96=>?_
      refine tv1 hq10 h96 11 rfl rfl (fun w1 _=>(BG h96 rfl rfl rfl (DK _ _ _ (((Ba ((F.at m1).data) ((max (x.off+(x.data.length:Int)) ((((F.at m1).data).length:Nat):Int)).toNat)).take ((x.off).toNat))++x.data) ((Ba ((F.at m1).data) ((max (x.off+(x.data.length:Int)) ((((F.at m1).data).length:Nat):Int)).toNat)).drop ((x.off+(x.data.length:Int)).toNat)) (by (try simp only [List.length_append,List.length_take,List.length_drop,List.length_cons,List.length_nil]);omega))) w1) fun _ h97=>?_
      refine tv1 hq10 h97 12 rfl rfl (fun w1 _=>(Cu h97 rfl rfl) w1) fun _ h98=>?_
      refine tv1 hq10 h98 13 rfl rfl (fun w1 _=>(rfa h98 rfl rfl (fun w=>Bl (A.ad m1) 0 w)) w1) fun _ h99=>?_
      have hd269:(((Ba ((F.at m1).data) ((max (x.off+(x.data.length:Int)) ((((F.at m1).data).length:Nat):Int)).toNat)).take ((x.off).toNat))++x.data)++((Ba ((F.at m1).data) ((max (x.off+(x.data.length:Int)) ((((F.at m1).data).length:Nat):Int)).toNat)).drop ((x.off+(x.data.length:Int)).toNat))=CK (F.at m1).data x.off.toNat x.data:=JM ω
      refine to_ 14 rfl (wn rfl) κ fun _ hK21=>Ef (F:=F) (A:=A) (F':=(BX F m1 (CK (F.at m1).data x.off.toNat x.data))) (A':=A) (k:=m1) (off:=2) h99 rfl rfl s9 1 rfl rfl rfl rfl rfl κ ω (by decide) ((by rw [hd269];exact Fz ω _)) (cs':=[Ah cf 65 [π (A.ad 0),.map (some ob)],Av (BX F m1 (CK (F.at m1).data x.off.toNat x.data)) A,AM KO ob A.C (opG F A),Ah g1 37 zL,Ah g4 30 (cL x),Ch.many R]) rfl fun _ w9 h100 s10=>?_
      have hN275:(BX F m1 (CK (F.at m1).data x.off.toNat x.data)).N.length=F.N.length:=List.length_set
      refine hK21 _ _ (s10.pk [0,2,3,4,5] rfl) fun hq11=>h100.sk [11,10,9,8,7,6,5,0,1,2] rfl fun h101=>?_
      refine wpAnyH_done κ ?_ _
      refine hK20 _ _ ?_
      refine sqr fun _ hK22=>bu h101 (v:=.agg zL.toArray) rfl (fun w=>κ) fun _ h102=>stA h102 s10 3 rfl rfl rfl κ rfl rfl rfl rfl fun _ w10 h103 s11 _=>h103.sk [82,11,10,9,8,6,5,0,1,2] rfl fun h104=>mv h104 rfl fun _ h105=>h105.sn [7,11,10,9,8,6,5,0,1,2] rfl fun h106=>hK22 _ _<|wp_ret ?_
      try simp only [Exit.then,Exit.inBlock]
      refine rCt h106 s11 3 υ37 rfl rfl rfl rfl rfl ?_
      have hq12:Bc F c x.fd x.off x.data=(BX F m1 (CK (F.at m1).data x.off.toNat x.data),Au 0):=by unfold Bc;rw [hm1];try dsimp only;rw [if_neg ω,if_neg (show ¬ (x.data.length=0) from (fun q=>dF hc3 (List.eq_nil_of_length_eq_zero q))),if_neg ω]
      rw [hq12]
      exact ⟨A,none,0,rfl,(Sep.tail_un (xs:=[_,_,_]) (s11.pk [0,1,2,5] rfl)).ownNil 0 9 1,hA.data ω _⟩
     ·skip
      refine Br h78 rfl rfl rfl (v:=σ ((F.at m1).data)) (w':=w3.drew) ((rld h78 rfl rfl (NdP.c2 (F:=FsM.nE F) (A:=AdM.nC A) (k:=m1) (s6.get 1 rfl:NdP _ _ _) (show m1<F.N.length from ω) υ9 rfl))) fun _ h107=>hK15 _ _ s6 fun hq13=>?_
      refine wpAnyH_ready (rs:=[3,9]) κ (by simp) (toc rfl (wn rfl) (fun K2 hK23=>?_) (toc rfl (wn rfl) (fun K2 hK23=>?_) AllReadyH.nil))
      ·skip
       refine Br h107 rfl rfl rfl (v:=σ ((F.at m1).data)) (w':=w3.drew) ((rld h107 rfl rfl (NdP.c2 (F:=FsM.nE F) (A:=AdM.nC A) (k:=m1) (s6.get 1 rfl:NdP _ _ _) (show m1<F.N.length from ω) υ9 rfl))) fun _ h108=>hK23 _ _ s6 fun hq14=>?_
       refine to_ 9 rfl (wn rfl) κ fun _ hK24=>Br h108 rfl rfl rfl (v:=ν ((((F.at m1).data).length:Nat):Int)) (w':=w3.drew) ((CH h108 rfl rfl υ9) _) fun _ h109=>hK24 _ _ s6 fun hq15=>?_
       refine to_ 10 rfl (wn rfl) κ fun _ hK25=>Br h109 rfl rfl rfl (v:=ν (max (x.off+(x.data.length:Int)) ((((F.at m1).data).length:Nat):Int))) (w':=w3.drew) ((Ou h109 rfl rfl rfl ω) _) fun _ h110=>hK25 _ _ s6 fun hq16=>?_
       refine to_ 11 rfl (wn rfl) κ fun _ hK26=>CS h110 rfl rfl rfl (xs:=[.tmp 59,.tmp 66]) rfl Do rfl (vs:=[σ ((F.at m1).data),ν (max (x.off+(x.data.length:Int)) ((((F.at m1).data).length:Nat):Int))]) rfl (args:=#[σ ((F.at m1).data),ν (max (x.off+(x.data.length:Int)) ((((F.at m1).data).length:Nat):Int))]) rfl ((by have z:=Gm s6 ((F.at m1).data) (n:=(max (x.off+(x.data.length:Int)) ((((F.at m1).data).length:Nat):Int)).toNat) ω ω;rw [show (((max (x.off+(x.data.length:Int)) ((((F.at m1).data).length:Nat):Int)).toNat:Nat):Int)=max (x.off+(x.data.length:Int)) ((((F.at m1).data).length:Nat):Int) by omega] at z;exact z)) fun _ v3 w11 r3 h111=>?_
       obtain ⟨rfl,s12⟩:=r3
       have hs314:=DT ((F.at m1).data) ((max (x.off+(x.data.length:Int)) ((((F.at m1).data).length:Nat):Int)).toNat)
       refine hK26 _ _ s12 fun hq17=>?_
       refine tv1 hq17 h111 12 rfl rfl (fun w1 _=>(BJ h111 rfl rfl) w1) fun _ h112=>?_
       refine h112.sk [11,10,9,8,7,6,5,0,1,2] rfl fun h113=>?_
       refine wpAnyH_done κ ?_ _
       refine hK14 _ _ ?_
       refine sq fun _ hK27=>?_
       have s13:=s12.drew
       refine wp_region_held_drew (S:=fun w'=>Sep w' [Ah cf 65 [π (A.ad 0),.map (some ob)],AM KO ob A.C (opG F A),Ah g1 37 zL,Ah g4 30 (cL x),Ch.many R]) κ (s13.pk [0,2,3,4,5] rfl) (fun hq18=>?_)
       refine tv1 hq18 h113 0 rfl rfl (fun w1 _=>(Ap h113 rfl rfl) w1) fun _ h114=>?_
       refine tv1 hq18 h114 1 rfl rfl (fun w1 _=>(Ap h114 rfl rfl) w1) fun _ h115=>?_
       refine tv1 hq18 h115 2 rfl rfl (fun w1 _=>(rfa h115 rfl rfl (fun w=>Bj g4 0 w)) w1) fun _ h116=>?_
       refine tv1 hq18 h116 3 rfl rfl (fun w1 hSw=>(rld h116 rfl rfl (ldB υ3 rfl (hSw.get 3 rfl:Blk _ _ _ _) rfl))) fun _ h117=>?_
       refine tv1 hq18 h117 4 rfl rfl (fun w1 _=>(EA h117 rfl rfl (vl:=none) (vh:=(some (ν x.off))) rfl rfl (fun w=>(fun w=>((slT 9 υ9 (Ba ((F.at m1).data) ((max (x.off+(x.data.length:Int)) ((((F.at m1).data).length:Nat):Int)).toNat)) (a:=0) (b:=(x.off).toNat) (.inl ⟨rfl,rfl⟩) (.inr ⟨_,rfl,ω⟩) ω ω) w).trans (by rw [List.drop_zero])) w)) w1) fun _ h118=>?_
       refine tv1 hq18 h118 5 rfl rfl (fun w1 _=>(rfa h118 rfl rfl (fun w=>AO g4 0 w)) w1) fun _ h119=>?_
       refine tv1 hq18 h119 6 rfl rfl (fun w1 hSw=>(rld h119 rfl rfl (ldB υ9 rfl (hSw.get 3 rfl:Blk _ _ _ _) rfl))) fun _ h120=>?_
       refine tv1 hq18 h120 7 rfl rfl (fun w1 _=>(BG h120 rfl rfl rfl (DK _ _ _ ((Ba ((F.at m1).data) ((max (x.off+(x.data.length:Int)) ((((F.at m1).data).length:Nat):Int)).toNat)).take ((x.off).toNat)) x.data (by (try simp only [List.length_append,List.length_take,List.length_drop,List.length_cons,List.length_nil]);omega))) w1) fun _ h121=>?_
       refine tv1 hq18 h121 8 rfl rfl (fun w1 _=>(Ap h121 rfl rfl) w1) fun _ h122=>?_
       refine tv1 hq18 h122 9 rfl rfl (fun w1 _=>(Ap h122 rfl rfl) w1) fun _ h123=>?_
       refine tv1 hq18 h123 10 rfl rfl (fun w1 _=>(EA h123 rfl rfl (vl:=(some (ν (x.off+(x.data.length:Int))))) (vh:=none) rfl rfl (fun w=>(fun w=>((slT 9 υ9 (Ba ((F.at m1).data) ((max (x.off+(x.data.length:Int)) ((((F.at m1).data).length:Nat):Int)).toNat)) (a:=(x.off+(x.data.length:Int)).toNat) (b:=(Ba ((F.at m1).data) ((max (x.off+(x.data.length:Int)) ((((F.at m1).data).length:Nat):Int)).toNat)).length) (.inr ⟨_,rfl,ω⟩) (.inl ⟨rfl,rfl⟩) ω ω) w).trans (by rw [List.take_length])) w)) w1) fun _ h124=>?_
       refine tv1 hq18 h124 11 rfl rfl (fun w1 _=>(BG h124 rfl rfl rfl (DK _ _ _ (((Ba ((F.at m1).data) ((max (x.off+(x.data.length:Int)) ((((F.at m1).data).length:Nat):Int)).toNat)).take ((x.off).toNat))++x.data) ((Ba ((F.at m1).data) ((max (x.off+(x.data.length:Int)) ((((F.at m1).data).length:Nat):Int)).toNat)).drop ((x.off+(x.data.length:Int)).toNat)) (by (try simp only [List.length_append,List.length_take,List.length_drop,List.length_cons,List.length_nil]);omega))) w1) fun _ h125=>?_
       refine tv1 hq18 h125 12 rfl rfl (fun w1 _=>(Cu h125 rfl rfl) w1) fun _ h126=>?_
       refine tv1 hq18 h126 13 rfl rfl (fun w1 _=>(rfa h126 rfl rfl (fun w=>Bl (A.ad m1) 0 w)) w1) fun _ h127=>?_
       have hd350:(((Ba ((F.at m1).data) ((max (x.off+(x.data.length:Int)) ((((F.at m1).data).length:Nat):Int)).toNat)).take ((x.off).toNat))++x.data)++((Ba ((F.at m1).data) ((max (x.off+(x.data.length:Int)) ((((F.at m1).data).length:Nat):Int)).toNat)).drop ((x.off+(x.data.length:Int)).toNat))=CK (F.at m1).data x.off.toNat x.data:=JM ω
       refine to_ 14 rfl (wn rfl) κ fun _ hK28=>Ef (F:=F) (A:=A) (F':=(BX F m1 (CK (F.at m1).data x.off.toNat x.data))) (A':=A) (k:=m1) (off:=2) h127 rfl rfl s13 1 rfl rfl rfl rfl rfl κ ω (by decide) ((by rw [hd350];exact Fz ω _)) (cs':=[Ah cf 65 [π (A.ad 0),.map (some ob)],Av (BX F m1 (CK (F.at m1).data x.off.toNat x.data)) A,AM KO ob A.C (opG F A),Ah g1 37 zL,Ah g4 30 (cL x),Ch.many R]) rfl fun _ w12 h128 s14=>?_
       have hN356:(BX F m1 (CK (F.at m1).data x.off.toNat x.data)).N.length=F.N.length:=List.length_set
       refine hK28 _ _ (s14.pk [0,2,3,4,5] rfl) fun hq19=>h128.sk [11,10,9,8,7,6,5,0,1,2] rfl fun h129=>?_
       refine wpAnyH_done κ ?_ _
       refine hK27 _ _ ?_
       refine sqr fun _ hK29=>bu h129 (v:=.agg zL.toArray) rfl (fun w=>κ) fun _ h130=>stA h130 s14 3 rfl rfl rfl κ rfl rfl rfl rfl fun _ w13 h131 s15 _=>h131.sk [82,11,10,9,8,6,5,0,1,2] rfl fun h132=>mv h132 rfl fun _ h133=>h133.sn [7,11,10,9,8,6,5,0,1,2] rfl fun h134=>hK29 _ _<|wp_ret ?_
       try simp only [Exit.then,Exit.inBlock]
       refine rCt h134 s15 3 υ37 rfl rfl rfl rfl rfl ?_
       have hq20:Bc F c x.fd x.off x.data=(BX F m1 (CK (F.at m1).data x.off.toNat x.data),Au 0):=by unfold Bc;rw [hm1];try dsimp only;rw [if_neg ω,if_neg (show ¬ (x.data.length=0) from (fun q=>dF hc3 (List.eq_nil_of_length_eq_zero q))),if_neg ω]
       rw [hq20]
       exact ⟨A,none,0,rfl,(Sep.tail_un (xs:=[_,_,_]) (s15.pk [0,1,2,5] rfl)).ownNil 0 9 1,hA.data ω _⟩
      ·skip
       refine Br h107 rfl rfl rfl (v:=ν ((((F.at m1).data).length:Nat):Int)) (w':=w3.drew) ((CH h107 rfl rfl υ9) _) fun _ h135=>hK23 _ _ s6 fun hq21=>?_
       refine wpAnyH_ready (rs:=[3,10]) κ (by simp) (toc rfl (wn rfl) (fun K3 hK30=>?_) (toc rfl (wn rfl) (fun K3 hK30=>?_) AllReadyH.nil))
       ·skip
        refine Br h135 rfl rfl rfl (v:=σ ((F.at m1).data)) (w':=w3.drew) ((rld h135 rfl rfl (NdP.c2 (F:=FsM.nE F) (A:=AdM.nC A) (k:=m1) (s6.get 1 rfl:NdP _ _ _) (show m1<F.N.length from ω) υ9 rfl))) fun _ h136=>hK30 _ _ s6 fun hq22=>?_
        refine to_ 10 rfl (wn rfl) κ fun _ hK31=>Br h136 rfl rfl rfl (v:=ν (max (x.off+(x.data.length:Int)) ((((F.at m1).data).length:Nat):Int))) (w':=w3.drew) ((Ou h136 rfl rfl rfl ω) _) fun _ h137=>hK31 _ _ s6 fun hq23=>?_
        refine to_ 11 rfl (wn rfl) κ fun _ hK32=>CS h137 rfl rfl rfl (xs:=[.tmp 59,.tmp 66]) rfl Do rfl (vs:=[σ ((F.at m1).data),ν (max (x.off+(x.data.length:Int)) ((((F.at m1).data).length:Nat):Int))]) rfl (args:=#[σ ((F.at m1).data),ν (max (x.off+(x.data.length:Int)) ((((F.at m1).data).length:Nat):Int))]) rfl ((by have z:=Gm s6 ((F.at m1).data) (n:=(max (x.off+(x.data.length:Int)) ((((F.at m1).data).length:Nat):Int)).toNat) ω ω;rw [show (((max (x.off+(x.data.length:Int)) ((((F.at m1).data).length:Nat):Int)).toNat:Nat):Int)=max (x.off+(x.data.length:Int)) ((((F.at m1).data).length:Nat):Int) by omega] at z;exact z)) fun _ v4 w14 r4 h138=>?_
        obtain ⟨rfl,s16⟩:=r4
        have hs391:=DT ((F.at m1).data) ((max (x.off+(x.data.length:Int)) ((((F.at m1).data).length:Nat):Int)).toNat)
        refine hK32 _ _ s16 fun hq24=>?_
        refine tv1 hq24 h138 12 rfl rfl (fun w1 _=>(BJ h138 rfl rfl) w1) fun _ h139=>?_
        refine h139.sk [11,10,9,8,7,6,5,0,1,2] rfl fun h140=>?_
        refine wpAnyH_done κ ?_ _
        refine hK14 _ _ ?_
        refine sq fun _ hK33=>?_
        have s17:=s16.drew
        refine wp_region_held_drew (S:=fun w'=>Sep w' [Ah cf 65 [π (A.ad 0),.map (some ob)],AM KO ob A.C (opG F A),Ah g1 37 zL,Ah g4 30 (cL x),Ch.many R]) κ (s17.pk [0,2,3,4,5] rfl) (fun hq25=>?_)
        refine tv1 hq25 h140 0 rfl rfl (fun w1 _=>(Ap h140 rfl rfl) w1) fun _ h141=>?_
        refine tv1 hq25 h141 1 rfl rfl (fun w1 _=>(Ap h141 rfl rfl) w1) fun _ h142=>?_
        refine tv1 hq25 h142 2 rfl rfl (fun w1 _=>(rfa h142 rfl rfl (fun w=>Bj g4 0 w)) w1) fun _ h143=>?_
        refine tv1 hq25 h143 3 rfl rfl (fun w1 hSw=>(rld h143 rfl rfl (ldB υ3 rfl (hSw.get 3 rfl:Blk _ _ _ _) rfl))) fun _ h144=>?_
        refine tv1 hq25 h144 4 rfl rfl (fun w1 _=>(EA h144 rfl rfl (vl:=none) (vh:=(some (ν x.off))) rfl rfl (fun w=>(fun w=>((slT 9 υ9 (Ba ((F.at m1).data) ((max (x.off+(x.data.length:Int)) ((((F.at m1).data).length:Nat):Int)).toNat)) (a:=0) (b:=(x.off).toNat) (.inl ⟨rfl,rfl⟩) (.inr ⟨_,rfl,ω⟩) ω ω) w).trans (by rw [List.drop_zero])) w)) w1) fun _ h145=>?_
        refine tv1 hq25 h145 5 rfl rfl (fun w1 _=>(rfa h145 rfl rfl (fun w=>AO g4 0 w)) w1) fun _ h146=>?_
        refine tv1 hq25 h146 6 rfl rfl (fun w1 hSw=>(rld h146 rfl rfl (ldB υ9 rfl (hSw.get 3 rfl:Blk _ _ _ _) rfl))) fun _ h147=>?_
        refine tv1 hq25 h147 7 rfl rfl (fun w1 _=>(BG h147 rfl rfl rfl (DK _ _ _ ((Ba ((F.at m1).data) ((max (x.off+(x.data.length:Int)) ((((F.at m1).data).length:Nat):Int)).toNat)).take ((x.off).toNat)) x.data (by (try simp only [List.length_append,List.length_take,List.length_drop,List.length_cons,List.length_nil]);omega))) w1) fun _ h148=>?_
        refine tv1 hq25 h148 8 rfl rfl (fun w1 _=>(Ap h148 rfl rfl) w1) fun _ h149=>?_
        refine tv1 hq25 h149 9 rfl rfl (fun w1 _=>(Ap h149 rfl rfl) w1) fun _ h150=>?_
        refine tv1 hq25 h150 10 rfl rfl (fun w1 _=>(EA h150 rfl rfl (vl:=(some (ν (x.off+(x.data.length:Int))))) (vh:=none) rfl rfl (fun w=>(fun w=>((slT 9 υ9 (Ba ((F.at m1).data) ((max (x.off+(x.data.length:Int)) ((((F.at m1).data).length:Nat):Int)).toNat)) (a:=(x.off+(x.data.length:Int)).toNat) (b:=(Ba ((F.at m1).data) ((max (x.off+(x.data.length:Int)) ((((F.at m1).data).length:Nat):Int)).toNat)).length) (.inr ⟨_,rfl,ω⟩) (.inl ⟨rfl,rfl⟩) ω ω) w).trans (by rw [List.take_length])) w)) w1) fun _ h151=>?_
        refine tv1 hq25 h151 11 rfl rfl (fun w1 _=>(BG h151 rfl rfl rfl (DK _ _ _ (((Ba ((F.at m1).data) ((max (x.off+(x.data.length:Int)) ((((F.at m1).data).length:Nat):Int)).toNat)).take ((x.off).toNat))++x.data) ((Ba ((F.at m1).data) ((max (x.off+(x.data.length:Int)) ((((F.at m1).data).length:Nat):Int)).toNat)).drop ((x.off+(x.data.length:Int)).toNat)) (by (try simp only [List.length_append,List.length_take,List.length_drop,List.length_cons,List.length_nil]);omega))) w1) fun _ h152=>?_
        refine tv1 hq25 h152 12 rfl rfl (fun w1 _=>(Cu h152 rfl rfl) w1) fun _ h153=>?_
        refine tv1 hq25 h153 13 rfl rfl (fun w1 _=>(rfa h153 rfl rfl (fun w=>Bl (A.ad m1) 0 w)) w1) fun _ h154=>?_
        have hd427:(((Ba ((F.at m1).data) ((max (x.off+(x.data.length:Int)) ((((F.at m1).data).length:Nat):Int)).toNat)).take ((x.off).toNat))++x.data)++((Ba ((F.at m1).data) ((max (x.off+(x.data.length:Int)) ((((F.at m1).data).length:Nat):Int)).toNat)).drop ((x.off+(x.data.length:Int)).toNat))=CK (F.at m1).data x.off.toNat x.data:=JM ω
        refine to_ 14 rfl (wn rfl) κ fun _ hK34=>Ef (F:=F) (A:=A) (F':=(BX F m1 (CK (F.at m1).data x.off.toNat x.data))) (A':=A) (k:=m1) (off:=2) h154 rfl rfl s17 1 rfl rfl rfl rfl rfl κ ω (by decide) ((by rw [hd427];exact Fz ω _)) (cs':=[Ah cf 65 [π (A.ad 0),.map (some ob)],Av (BX F m1 (CK (F.at m1).data x.off.toNat x.data)) A,AM KO ob A.C (opG F A),Ah g1 37 zL,Ah g4 30 (cL x),Ch.many R]) rfl fun _ w15 h155 s18=>?_
        have hN433:(BX F m1 (CK (F.at m1).data x.off.toNat x.data)).N.length=F.N.length:=List.length_set
        refine hK34 _ _ (s18.pk [0,2,3,4,5] rfl) fun hq26=>h155.sk [11,10,9,8,7,6,5,0,1,2] rfl fun h156=>?_
        refine wpAnyH_done κ ?_ _
        refine hK33 _ _ ?_
        refine sqr fun _ hK35=>bu h156 (v:=.agg zL.toArray) rfl (fun w=>κ) fun _ h157=>stA h157 s18 3 rfl rfl rfl κ rfl rfl rfl rfl fun _ w16 h158 s19 _=>h158.sk [82,11,10,9,8,6,5,0,1,2] rfl fun h159=>mv h159 rfl fun _ h160=>h160.sn [7,11,10,9,8,6,5,0,1,2] rfl fun h161=>hK35 _ _<|wp_ret ?_
        try simp only [Exit.then,Exit.inBlock]
        refine rCt h161 s19 3 υ37 rfl rfl rfl rfl rfl ?_
        have hq27:Bc F c x.fd x.off x.data=(BX F m1 (CK (F.at m1).data x.off.toNat x.data),Au 0):=by unfold Bc;rw [hm1];try dsimp only;rw [if_neg ω,if_neg (show ¬ (x.data.length=0) from (fun q=>dF hc3 (List.eq_nil_of_length_eq_zero q))),if_neg ω]
        rw [hq27]
        exact ⟨A,none,0,rfl,(Sep.tail_un (xs:=[_,_,_]) (s19.pk [0,1,2,5] rfl)).ownNil 0 9 1,hA.data ω _⟩
       ·skip
        refine Br h135 rfl rfl rfl (v:=ν (max (x.off+(x.data.length:Int)) ((((F.at m1).data).length:Nat):Int))) (w':=w3.drew) ((Ou h135 rfl rfl rfl ω) _) fun _ h162=>hK30 _ _ s6 fun hq28=>?_
        refine to_ 3 rfl (wn rfl) κ fun _ hK36=>Br h162 rfl rfl rfl (v:=σ ((F.at m1).data)) (w':=w3.drew) ((rld h162 rfl rfl (NdP.c2 (F:=FsM.nE F) (A:=AdM.nC A) (k:=m1) (s6.get 1 rfl:NdP _ _ _) (show m1<F.N.length from ω) υ9 rfl))) fun _ h163=>hK36 _ _ s6 fun hq29=>?_
        refine to_ 11 rfl (wn rfl) κ fun _ hK37=>CS h163 rfl rfl rfl (xs:=[.tmp 59,.tmp 66]) rfl Do rfl (vs:=[σ ((F.at m1).data),ν (max (x.off+(x.data.length:Int)) ((((F.at m1).data).length:Nat):Int))]) rfl (args:=#[σ ((F.at m1).data),ν (max (x.off+(x.data.length:Int)) ((((F.at m1).data).length:Nat):Int))]) rfl ((by have z:=Gm s6 ((F.at m1).data) (n:=(max (x.off+(x.data.length:Int)) ((((F.at m1).data).length:Nat):Int)).toNat) ω ω;rw [show (((max (x.off+(x.data.length:Int)) ((((F.at m1).data).length:Nat):Int)).toNat:Nat):Int)=max (x.off+(x.data.length:Int)) ((((F.at m1).data).length:Nat):Int) by omega] at z;exact z)) fun _ v5 w17 r5 h164=>?_
        obtain ⟨rfl,s20⟩:=r5
        have hs464:=DT ((F.at m1).data) ((max (x.off+(x.data.length:Int)) ((((F.at m1).data).length:Nat):Int)).toNat)
        refine hK37 _ _ s20 fun hq30=>?_
        refine tv1 hq30 h164 12 rfl rfl (fun w1 _=>(BJ h164 rfl rfl) w1) fun _ h165=>?_
        refine h165.sk [11,10,9,8,7,6,5,0,1,2] rfl fun h166=>?_
        refine wpAnyH_done κ ?_ _
        refine hK14 _ _ ?_
        refine sq fun _ hK38=>?_
        have s21:=s20.drew
        refine wp_region_held_drew (S:=fun w'=>Sep w' [Ah cf 65 [π (A.ad 0),.map (some ob)],AM KO ob A.C (opG F A),Ah g1 37 zL,Ah g4 30 (cL x),Ch.many R]) κ (s21.pk [0,2,3,4,5] rfl) (fun hq31=>?_)
        refine tv1 hq31 h166 0 rfl rfl (fun w1 _=>(Ap h166 rfl rfl) w1) fun _ h167=>?_
        refine tv1 hq31 h167 1 rfl rfl (fun w1 _=>(Ap h167 rfl rfl) w1) fun _ h168=>?_
        refine tv1 hq31 h168 2 rfl rfl (fun w1 _=>(rfa h168 rfl rfl (fun w=>Bj g4 0 w)) w1) fun _ h169=>?_
        refine tv1 hq31 h169 3 rfl rfl (fun w1 hSw=>(rld h169 rfl rfl (ldB υ3 rfl (hSw.get 3 rfl:Blk _ _ _ _) rfl))) fun _ h170=>?_
        refine tv1 hq31 h170 4 rfl rfl (fun w1 _=>(EA h170 rfl rfl (vl:=none) (vh:=(some (ν x.off))) rfl rfl (fun w=>(fun w=>((slT 9 υ9 (Ba ((F.at m1).data) ((max (x.off+(x.data.length:Int)) ((((F.at m1).data).length:Nat):Int)).toNat)) (a:=0) (b:=(x.off).toNat) (.inl ⟨rfl,rfl⟩) (.inr ⟨_,rfl,ω⟩) ω ω) w).trans (by rw [List.drop_zero])) w)) w1) fun _ h171=>?_
        refine tv1 hq31 h171 5 rfl rfl (fun w1 _=>(rfa h171 rfl rfl (fun w=>AO g4 0 w)) w1) fun _ h172=>?_
        refine tv1 hq31 h172 6 rfl rfl (fun w1 hSw=>(rld h172 rfl rfl (ldB υ9 rfl (hSw.get 3 rfl:Blk _ _ _ _) rfl))) fun _ h173=>?_
        refine tv1 hq31 h173 7 rfl rfl (fun w1 _=>(BG h173 rfl rfl rfl (DK _ _ _ ((Ba ((F.at m1).data) ((max (x.off+(x.data.length:Int)) ((((F.at m1).data).length:Nat):Int)).toNat)).take ((x.off).toNat)) x.data (by (try simp only [List.length_append,List.length_take,List.length_drop,List.length_cons,List.length_nil]);omega))) w1) fun _ h174=>?_
        refine tv1 hq31 h174 8 rfl rfl (fun w1 _=>(Ap h174 rfl rfl) w1) fun _ h175=>?_
        refine tv1 hq31 h175 9 rfl rfl (fun w1 _=>(Ap h175 rfl rfl) w1) fun _ h176=>?_
        refine tv1 hq31 h176 10 rfl rfl (fun w1 _=>(EA h176 rfl rfl (vl:=(some (ν (x.off+(x.data.length:Int))))) (vh:=none) rfl rfl (fun w=>(fun w=>((slT 9 υ9 (Ba ((F.at m1).data) ((max (x.off+(x.data.length:Int)) ((((F.at m1).data).length:Nat):Int)).toNat)) (a:=(x.off+(x.data.length:Int)).toNat) (b:=(Ba ((F.at m1).data) ((max (x.off+(x.data.length:Int)) ((((F.at m1).data).length:Nat):Int)).toNat)).length) (.inr ⟨_,rfl,ω⟩) (.inl ⟨rfl,rfl⟩) ω ω) w).trans (by rw [List.take_length])) w)) w1) fun _ h177=>?_
        refine tv1 hq31 h177 11 rfl rfl (fun w1 _=>(BG h177 rfl rfl rfl (DK _ _ _ (((Ba ((F.at m1).data) ((max (x.off+(x.data.length:Int)) ((((F.at m1).data).length:Nat):Int)).toNat)).take ((x.off).toNat))++x.data) ((Ba ((F.at m1).data) ((max (x.off+(x.data.length:Int)) ((((F.at m1).data).length:Nat):Int)).toNat)).drop ((x.off+(x.data.length:Int)).toNat)) (by (try simp only [List.length_append,List.length_take,List.length_drop,List.length_cons,List.length_nil]);omega))) w1) fun _ h178=>?_
        refine tv1 hq31 h178 12 rfl rfl (fun w1 _=>(Cu h178 rfl rfl) w1) fun _ h179=>?_
        refine tv1 hq31 h179 13 rfl rfl (fun w1 _=>(rfa h179 rfl rfl (fun w=>Bl (A.ad m1) 0 w)) w1) fun _ h180=>?_
        have hd500:(((Ba ((F.at m1).data) ((max (x.off+(x.data.length:Int)) ((((F.at m1).data).length:Nat):Int)).toNat)).take ((x.off).toNat))++x.data)++((Ba ((F.at m1).data) ((max (x.off+(x.data.length:Int)) ((((F.at m1).data).length:Nat):Int)).toNat)).drop ((x.off+(x.data.length:Int)).toNat))=CK (F.at m1).data x.off.toNat x.data:=JM ω
        refine to_ 14 rfl (wn rfl) κ fun _ hK39=>Ef (F:=F) (A:=A) (F':=(BX F m1 (CK (F.at m1).data x.off.toNat x.data))) (A':=A) (k:=m1) (off:=2) h180 rfl rfl s21 1 rfl rfl rfl rfl rfl κ ω (by decide) ((by rw [hd500];exact Fz ω _)) (cs':=[Ah cf 65 [π (A.ad 0),.map (some ob)],Av (BX F m1 (CK (F.at m1).data x.off.toNat x.data)) A,AM KO ob A.C (opG F A),Ah g1 37 zL,Ah g4 30 (cL x),Ch.many R]) rfl fun _ w18 h181 s22=>?_
        have hN506:(BX F m1 (CK (F.at m1).data x.off.toNat x.data)).N.length=F.N.length:=List.length_set
        refine hK39 _ _ (s22.pk [0,2,3,4,5] rfl) fun hq32=>h181.sk [11,10,9,8,7,6,5,0,1,2] rfl fun h182=>?_
        refine wpAnyH_done κ ?_ _
        refine hK38 _ _ ?_
        refine sqr fun _ hK40=>bu h182 (v:=.agg zL.toArray) rfl (fun w=>κ) fun _ h183=>stA h183 s22 3 rfl rfl rfl κ rfl rfl rfl rfl fun _ w19 h184 s23 _=>h184.sk [82,11,10,9,8,6,5,0,1,2] rfl fun h185=>mv h185 rfl fun _ h186=>h186.sn [7,11,10,9,8,6,5,0,1,2] rfl fun h187=>hK40 _ _<|wp_ret ?_
        try simp only [Exit.then,Exit.inBlock]
        refine rCt h187 s23 3 υ37 rfl rfl rfl rfl rfl ?_
        have hq33:Bc F c x.fd x.off x.data=(BX F m1 (CK (F.at m1).data x.off.toNat x.data),Au 0):=by unfold Bc;rw [hm1];try dsimp only;rw [if_neg ω,if_neg (show ¬ (x.data.length=0) from (fun q=>dF hc3 (List.eq_nil_of_length_eq_zero q))),if_neg ω]
        rw [hq33]
        exact ⟨A,none,0,rfl,(Sep.tail_un (xs:=[_,_,_]) (s23.pk [0,1,2,5] rfl)).ownNil 0 9 1,hA.data ω _⟩
 ·skip
  have hm2:=AI hc1
  refine cl h9 rfl BP (GV (cf:=cf) (A:=A) (F:=F) (s1.pk [2,3,4,0,1,5] rfl) hok hz0 hwx hm2) fun _ v6 w20 r6 h188=>?_
  obtain ⟨rfl,s24⟩:=r6
  refine mvs 5 h188 rfl fun _ h189=>h189.sk [9,8,7,6,5,0,1,2] rfl fun h190=>?_
  clear h1
  refine wpList_nil<|hK4 _ _<|sq fun _ hK41=>wp_block ?_
  refine sqr fun _ hK42=>mv h190 rfl fun _ h191=>bv h191 rfl (cNe _ _ _ _ rfl) fun _ h192=>mv h192 rfl fun _ h193=>h193.sn [20,9,8,7,6,5,0,1,2] rfl fun h194=>hK42 _ _<|wcT h194 rfl rfl<|h194.sk [9,8,7,6,5,0,1,2] rfl fun h195=>sqr fun _ hK43=>bu h195 (v:=.agg zL.toArray) rfl (fun w=>κ) fun _ h196=>?_
  refine mv h196 rfl fun _ h197=>stA h197 s24 3 rfl rfl rfl κ rfl rfl rfl rfl fun _ w21 h198 s25 _=>h198.sk [24,23,9,8,6,5,0,1,2] rfl fun h199=>mv h199 rfl fun _ h200=>h200.sn [7,9,8,6,5,0,1,2] rfl fun h201=>hK43 _ _<|wp_ret ?_
  try simp only [Exit.then,Exit.inBlock]
  refine rCt h201 s25 3 υ37 rfl rfl rfl rfl rfl ?_
  have hq34:Bc F c x.fd x.off x.data=(F,Au 16):=bx
  rw [hq34]
  exact ⟨A,none,0,rfl,(Sep.tail_un (xs:=[_,_,_]) (s25.pk [0,1,2,5] rfl)).ownNil 0 9 1,hA.mono⟩
theorem OQ {w:World} {cf ob n:Nat} {F:FsM} {A:AdM} {R:List Ch} {c:Int} {x:CallM} (hS0:Sep w ((cP cf ob F A)++R)) (hfo:FsOk F) (hA:AdOk F A n) (hn:n≤900) (hs:SmS F) (h1:x.p1.length≤1000) (h2:x.p2.length≤1000) (h3:x.data.length≤1000) (hwx:wfD (c,x.fd)) (hcl:1≤c∧c≤8) :
  CallsR Tryz.prog 51 #[π cf,ν c,.agg (cL x).toArray] w (fun v w'=>∃ A' sa sc,v=.tuple #[Du (r0 (BF F c x.fd x.n).2) sa sc,ν (BF F c x.fd x.n).2.e]∧Sep w' (Ak 0 9 1 sa (BF F c x.fd x.n).2.names.length sc ((BF F c x.fd x.n).2.names.flatMap sE)::(cP cf ob ((BF F c x.fd x.n).1) A')++R)∧AdOk (BF F c x.fd x.n).1 A' (n+1)):=by
 have hS:=Sep.tail_many (xs:=cP cf ob F A) hS0;clear hS0
 have hz:SmF F:=hs.sm;have hok:=hfo.toFsC
 have hz0:=hz;obtain ⟨hz1,hz2,hz3⟩:F.N.length≤1000∧F.E.length≤1000∧F.O.length≤1000:=hz
 refine AB Tryz.func51 rfl (N:=44) Tryz.ntmps51 (by show 3≤44;decide) [(0,π cf),(1,ν c),(2,.agg (cL x).toArray)] rfl fun _ h1=>sqr fun _ hK3=>so (wn rfl) fun _ hK1=>Cv h1 rfl rfl rfl rfl rfl (z:=(cL x)) rfl hS fun _ g4 w7 h5 s8 _ _=>hK1 _ _ ?_
 refine so (wn rfl) fun _ hK2=>BB h5 rfl rfl rfl rfl (z:=zL) (fun _=>rfl) s8 fun _ g1 w2 h4 s1 _ _=>hK2 _ _ ?_
 refine mv h4 rfl fun _ h6=>wpList_nil<|hK3 _ _<|sqr fun _ hK4=>mvs 2 h6 rfl fun _ h7=>fav h7 rfl (BZ _ _) fun _ h8=>ldv h8 s1 1 υ3 rfl rfl rfl rfl fun _ h9=>?_
 rcases bC ((Az F.O c x.fd).isSome) with hc1 | hc1
 ·skip
  obtain ⟨m1,hm1⟩:=Option.isSome_iff_exists.1 hc1;have hml35:=FsC.look_fd hok hm1
  have hdl36:(F.at m1).data.length≤256:=(FsC.k hok m1 hml35.1).1
  refine cl h9 rfl BP (Gc (cf:=cf) (A:=A) (F:=F) (s1.pk [2,3,4,0,1,5] rfl) hok hz0 hwx hm1) fun _ v1 w3 r1 h10=>?_
  obtain ⟨rfl,s2⟩:=r1
  refine mvs 5 h10 rfl fun _ h11=>h11.sk [9,8,7,6,5,0,1,2] rfl fun h12=>?_
  clear h1
  refine wpList_nil<|hK4 _ _<|sq fun _ hK5=>wp_block ?_
  refine sqr fun _ hK6=>mv h12 rfl fun _ h13=>bv h13 rfl (cNe _ _ _ _ rfl) fun _ h14=>mv h14 rfl fun _ h15=>h15.sn [18,9,8,7,6,5,0,1,2] rfl fun h16=>hK6 _ _<|wcF h16 rfl rfl<|h16.sk [9,8,7,6,5,0,1,2] rfl fun h17=>sqr fun _ hK7=>fav h17 rfl (Bz _ _) fun _ h18=>?_
  refine ldv h18 s2 4 υ3 rfl rfl rfl rfl fun _ h19=>bv h19 (z:=.bool (decide (x.n<0))) rfl (cLt _ _ _ _ rfl) fun _ h20=>mv h20 rfl fun _ h21=>h21.sn [23,9,8,7,6,5,0,1,2] rfl fun h22=>hK7 _ _ ?_
  rcases bC (decide (x.n<0)) with hc2 | hc2
  ·skip
   have hp1:x.n<0:=(dT hc2)
   refine wcT h22 rfl hc2<|h22.sk [9,8,7,6,5,0,1,2] rfl fun h23=>sqr fun _ hK8=>bu h23 (v:=.agg zL.toArray) rfl (fun w=>κ) fun _ h24=>stA h24 s2 3 rfl rfl rfl κ rfl rfl rfl rfl fun _ w4 h25 s3 _=>h25.sk [27,9,8,6,5,0,1,2] rfl fun h26=>mv h26 rfl fun _ h27=>h27.sn [7,9,8,6,5,0,1,2] rfl fun h28=>hK8 _ _<|wp_ret ?_
   try simp only [Exit.then,Exit.inBlock]
   refine rCt h28 s3 3 υ37 rfl rfl rfl rfl rfl ?_
   have hq1:BF F c x.fd x.n=(F,Au 15):=bx
   rw [hq1]
   exact ⟨A,none,0,rfl,(Sep.tail_un (xs:=[_,_,_]) (s3.pk [0,1,2,5] rfl)).ownNil 0 9 1,hA.mono⟩
  ·skip
   have hp2:¬ (x.n<0):=(dF hc2)
   refine wcF h22 rfl hc2<|h22.sk [9,8,7,6,5,0,1,2] rfl fun h29=>sqr fun _ hK9=>fav h29 rfl (Bz _ _) fun _ h30=>ldv h30 s2 4 υ3 rfl rfl rfl rfl fun _ h31=>bv h31 (z:=.bool (decide (x.n>256))) rfl (cGt _ _ _ _ rfl) fun _ h32=>mv h32 rfl fun _ h33=>h33.sn [28,9,8,7,6,5,0,1,2] rfl fun h34=>hK9 _ _ ?_
   rcases bC (decide (x.n>256)) with hc3 | hc3
   ·skip
    have hp3:x.n>256:=(dT hc3)
    refine wcT h34 rfl hc3<|h34.sk [9,8,7,6,5,0,1,2] rfl fun h35=>sqr fun _ hK10=>bu h35 (v:=.agg zL.toArray) rfl (fun w=>κ) fun _ h36=>stA h36 s2 3 rfl rfl rfl κ rfl rfl rfl rfl fun _ w5 h37 s4 _=>h37.sk [32,9,8,6,5,0,1,2] rfl fun h38=>mv h38 rfl fun _ h39=>h39.sn [7,9,8,6,5,0,1,2] rfl fun h40=>hK10 _ _<|wp_ret ?_
    try simp only [Exit.then,Exit.inBlock]
    refine rCt h40 s4 3 υ37 rfl rfl rfl rfl rfl ?_
    have hq2:BF F c x.fd x.n=(F,Au 19):=bx
    rw [hq2]
    exact ⟨A,none,0,rfl,(Sep.tail_un (xs:=[_,_,_]) (s4.pk [0,1,2,5] rfl)).ownNil 0 9 1,hA.mono⟩
   ·skip
    have hp4:¬ (x.n>256):=(dF hc3)
    refine wcF h34 rfl hc3<|h34.sk [9,8,7,6,5,0,1,2] rfl fun h41=>wp_skip<|hK5 _ _<|sq fun _ hK11=>?_
    have s5:=s2.drew
    refine wp_region_held_drew (S:=fun w'=>Sep w' [Ah cf 65 [π (A.ad 0),.map (some ob)],AM KO ob A.C (opG F A),Ah g1 37 zL,Ah g4 30 (cL x),Ch.many R]) κ (s5.pk [0,2,3,4,5] rfl) (fun hq3=>?_)
    refine tv1 hq3 h41 0 rfl rfl (fun w1 _=>(Ap h41 rfl rfl) w1) fun _ h42=>?_
    refine tv1 hq3 h42 1 rfl rfl (fun w1 _=>(Ap h42 rfl rfl) w1) fun _ h43=>?_
    refine tv1 hq3 h43 2 rfl rfl (fun w1 _=>(Cu h43 rfl rfl) w1) fun _ h44=>?_
    refine tv1 hq3 h44 3 rfl rfl (fun w1 _=>(rfa h44 rfl rfl (fun w=>Bl (A.ad m1) 0 w)) w1) fun _ h45=>?_
    refine tv1 hq3 h45 5 rfl rfl (fun w1 _=>(rfa h45 rfl rfl (fun w=>Bz g4 0 w)) w1) fun _ h46=>?_
    refine tv1 hq3 h46 6 rfl rfl (fun w1 hSw=>(rld h46 rfl rfl (ldB υ3 rfl (hSw.get 3 rfl:Blk _ _ _ _) rfl))) fun _ h47=>?_
    refine to_ 4 rfl (wn rfl) κ fun _ hK12=>Br h47 rfl rfl rfl (v:=σ ((F.at m1).data)) (w':=w3.drew) ((rld h47 rfl rfl (NdP.c2 (F:=FsM.nE F) (A:=AdM.nC A) (k:=m1) (s5.get 1 rfl:NdP _ _ _) (show m1<F.N.length from ω) υ9 rfl))) fun _ h48=>hK12 _ _ (s5.pk [0,2,3,4,5] rfl) fun hq4=>?_
    refine to_ 7 rfl (wn rfl) κ fun _ hK13=>CS h48 rfl rfl rfl (xs:=[.tmp 37,.tmp 39]) rfl Do rfl (vs:=[σ ((F.at m1).data),ν x.n]) rfl (args:=#[σ ((F.at m1).data),ν x.n]) rfl ((by have z:=Gm s5 ((F.at m1).data) (n:=(x.n).toNat) ω ω;rw [show (((x.n).toNat:Nat):Int)=x.n by omega] at z;exact z)) fun _ v2 w6 r2 h49=>?_
    obtain ⟨rfl,s6⟩:=r2
    have hs150:=DT ((F.at m1).data) ((x.n).toNat)
    refine hK13 _ _ (s6.pk [0,2,3,4,5] rfl) fun hq5=>?_
    refine tv1 hq5 h49 8 rfl rfl (fun w1 _=>(Cu h49 rfl rfl) w1) fun _ h50=>?_
    refine tv1 hq5 h50 9 rfl rfl (fun w1 _=>(rfa h50 rfl rfl (fun w=>Bl (A.ad m1) 0 w)) w1) fun _ h51=>?_
    refine to_ 10 rfl (wn rfl) κ fun _ hK14=>Ef (F:=F) (A:=A) (F':=(BX F m1 (Ba ((F.at m1).data) ((x.n).toNat)))) (A':=A) (k:=m1) (off:=2) h51 rfl rfl s6 1 rfl rfl rfl rfl rfl κ ω (by decide) (Fz ω _) (cs':=[Ah cf 65 [π (A.ad 0),.map (some ob)],Av (BX F m1 (Ba ((F.at m1).data) ((x.n).toNat))) A,AM KO ob A.C (opG F A),Ah g1 37 zL,Ah g4 30 (cL x),Ch.many R]) rfl fun _ w8 h52 s7=>?_
    have hN161:(BX F m1 (Ba ((F.at m1).data) ((x.n).toNat))).N.length=F.N.length:=List.length_set
    refine hK14 _ _ (s7.pk [0,2,3,4,5] rfl) fun hq6=>h52.sk [9,8,7,6,5,0,1,2] rfl fun h53=>?_
    refine wpAnyH_done κ ?_ _
    refine hK11 _ _ ?_
    refine sqr fun _ hK15=>bu h53 (v:=.agg zL.toArray) rfl (fun w=>κ) fun _ h54=>stA h54 s7 3 rfl rfl rfl κ rfl rfl rfl rfl fun _ w9 h55 s9 _=>h55.sk [43,9,8,6,5,0,1,2] rfl fun h56=>mv h56 rfl fun _ h57=>h57.sn [7,9,8,6,5,0,1,2] rfl fun h58=>hK15 _ _<|wp_ret ?_
    try simp only [Exit.then,Exit.inBlock]
    refine rCt h58 s9 3 υ37 rfl rfl rfl rfl rfl ?_
    have hq7:BF F c x.fd x.n=(BX F m1 (Ba (F.at m1).data x.n.toNat),Au 0):=bx
    rw [hq7]
    exact ⟨A,none,0,rfl,(Sep.tail_un (xs:=[_,_,_]) (s9.pk [0,1,2,5] rfl)).ownNil 0 9 1,hA.data ω _⟩
 ·skip
  have hm2:=AI hc1
  refine cl h9 rfl BP (GV (cf:=cf) (A:=A) (F:=F) (s1.pk [2,3,4,0,1,5] rfl) hok hz0 hwx hm2) fun _ v3 w10 r3 h59=>?_
  obtain ⟨rfl,s10⟩:=r3
  refine mvs 5 h59 rfl fun _ h60=>h60.sk [9,8,7,6,5,0,1,2] rfl fun h61=>?_
  clear h1
  refine wpList_nil<|hK4 _ _<|sq fun _ hK16=>wp_block ?_
  refine sqr fun _ hK17=>mv h61 rfl fun _ h62=>bv h62 rfl (cNe _ _ _ _ rfl) fun _ h63=>mv h63 rfl fun _ h64=>h64.sn [18,9,8,7,6,5,0,1,2] rfl fun h65=>hK17 _ _<|wcT h65 rfl rfl<|h65.sk [9,8,7,6,5,0,1,2] rfl fun h66=>sqr fun _ hK18=>bu h66 (v:=.agg zL.toArray) rfl (fun w=>κ) fun _ h67=>?_
  refine mv h67 rfl fun _ h68=>stA h68 s10 3 rfl rfl rfl κ rfl rfl rfl rfl fun _ w11 h69 s11 _=>h69.sk [22,21,9,8,6,5,0,1,2] rfl fun h70=>mv h70 rfl fun _ h71=>h71.sn [7,9,8,6,5,0,1,2] rfl fun h72=>hK18 _ _<|wp_ret ?_
  try simp only [Exit.then,Exit.inBlock]
  refine rCt h72 s11 3 υ37 rfl rfl rfl rfl rfl ?_
  have hq8:BF F c x.fd x.n=(F,Au 16):=bx
  rw [hq8]
  exact ⟨A,none,0,rfl,(Sep.tail_un (xs:=[_,_,_]) (s11.pk [0,1,2,5] rfl)).ownNil 0 9 1,hA.mono⟩
theorem Qq {w:World} {cf ob n:Nat} {F:FsM} {A:AdM} {R:List Ch} {c:Int} {x:CallM} (hS0:Sep w ((cP cf ob F A)++R)) (hfo:FsOk F) (hA:AdOk F A n) (hn:n≤900) (hs:SmS F) (h1:x.p1.length≤1000) (h2:x.p2.length≤1000) (h3:x.data.length≤1000) (hwx:wfD (c,x.fd)) (hcl:1≤c∧c≤8) :
  CallsR Tryz.prog 52 #[π cf,ν c,.agg (cL x).toArray] w (fun v w'=>∃ A' sa sc,v=.tuple #[Du (r0 (Cs F c x.fd).2) sa sc,ν (Cs F c x.fd).2.e]∧Sep w' (Ak 0 9 1 sa (Cs F c x.fd).2.names.length sc ((Cs F c x.fd).2.names.flatMap sE)::(cP cf ob ((Cs F c x.fd).1) A')++R)∧AdOk (Cs F c x.fd).1 A' (n+1)):=by
 have hS:=Sep.tail_many (xs:=cP cf ob F A) hS0;clear hS0
 have hz:SmF F:=hs.sm;have hok:=hfo.toFsC
 have hz0:=hz;obtain ⟨hz1,hz2,hz3⟩:F.N.length≤1000∧F.E.length≤1000∧F.O.length≤1000:=hz
 refine AB Tryz.func52 rfl (N:=20) Tryz.ntmps52 (by show 3≤20;decide) [(0,π cf),(1,ν c),(2,.agg (cL x).toArray)] rfl fun _ h1=>sqr fun _ hK3=>so (wn rfl) fun _ hK1=>Cv h1 rfl rfl rfl rfl rfl (z:=(cL x)) rfl hS fun _ g4 w7 h5 s8 _ _=>hK1 _ _ ?_
 refine so (wn rfl) fun _ hK2=>BB h5 rfl rfl rfl rfl (z:=zL) (fun _=>rfl) s8 fun _ g1 w1 h4 s1 _ _=>hK2 _ _ ?_
 refine mv h4 rfl fun _ h6=>wpList_nil<|hK3 _ _<|sqr fun _ hK4=>mvs 2 h6 rfl fun _ h7=>fav h7 rfl (BZ _ _) fun _ h8=>ldv h8 s1 1 υ3 rfl rfl rfl rfl fun _ h9=>?_
 rcases bC ((Az F.O c x.fd).isSome) with hc1 | hc1
 ·skip
  obtain ⟨m1,hm1⟩:=Option.isSome_iff_exists.1 hc1;have hml35:=FsC.look_fd hok hm1
  have hdl36:(F.at m1).data.length≤256:=(FsC.k hok m1 hml35.1).1
  refine cl h9 rfl BP (Gc (cf:=cf) (A:=A) (F:=F) (s1.pk [2,3,4,0,1,5] rfl) hok hz0 hwx hm1) fun _ v1 w2 r1 h10=>?_
  obtain ⟨rfl,s2⟩:=r1
  refine mvs 5 h10 rfl fun _ h11=>h11.sk [9,7,6,5,0,1,2] rfl fun h12=>?_
  clear h1
  refine wpList_nil<|hK4 _ _<|sqr fun _ hK5=>bu h12 (v:=.agg zL.toArray) rfl (fun w=>κ) fun _ h13=>mv h13 rfl fun _ h14=>stA h14 s2 3 rfl rfl rfl κ rfl rfl rfl rfl fun _ w3 h15 s3 _=>h15.sk [19,18,9,6,5,0,1,2] rfl fun h16=>mv h16 rfl fun _ h17=>h17.sn [7,9,6,5,0,1,2] rfl fun h18=>hK5 _ _<|wp_ret ?_
  try simp only [Exit.then,Exit.inBlock]
  refine rCt h18 s3 3 υ37 rfl rfl rfl rfl rfl ?_
  have hq1:Cs F c x.fd=(F,Au 0):=bx
  rw [hq1]
  exact ⟨A,none,0,rfl,(Sep.tail_un (xs:=[_,_,_]) (s3.pk [0,1,2,5] rfl)).ownNil 0 9 1,hA.mono⟩
 ·skip
  have hm2:=AI hc1
  refine cl h9 rfl BP (GV (cf:=cf) (A:=A) (F:=F) (s1.pk [2,3,4,0,1,5] rfl) hok hz0 hwx hm2) fun _ v2 w4 r2 h19=>?_
  obtain ⟨rfl,s4⟩:=r2
  refine mvs 5 h19 rfl fun _ h20=>h20.sk [9,7,6,5,0,1,2] rfl fun h21=>?_
  clear h1
  refine wpList_nil<|hK4 _ _<|sqr fun _ hK6=>bu h21 (v:=.agg zL.toArray) rfl (fun w=>κ) fun _ h22=>mv h22 rfl fun _ h23=>stA h23 s4 3 rfl rfl rfl κ rfl rfl rfl rfl fun _ w5 h24 s5 _=>h24.sk [19,18,9,6,5,0,1,2] rfl fun h25=>mv h25 rfl fun _ h26=>h26.sn [7,9,6,5,0,1,2] rfl fun h27=>hK6 _ _<|wp_ret ?_
  try simp only [Exit.then,Exit.inBlock]
  refine rCt h27 s5 3 υ37 rfl rfl rfl rfl rfl ?_
  have hq2:Cs F c x.fd=(F,Au 16):=bx
  rw [hq2]
  exact ⟨A,none,0,rfl,(Sep.tail_un (xs:=[_,_,_]) (s5.pk [0,1,2,5] rfl)).ownNil 0 9 1,hA.mono⟩
end
end Go.Proofs.YtcanemamnmmbcaaGreatDoor
