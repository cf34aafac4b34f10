/- Parts of the proof. -/
import Derived.Test.YtbfgjinpchbajaaGreatDoorQam
namespace Go.Proofs.YtbfgjinpchbajaaGreatDoor
open Go.RowKit
open _root_.Go.Proofs.Tryz
set_option linter.unusedSimpArgs false
set_option linter.unusedVariables false
set_option linter.unusedSectionVars false
set_option maxRecDepth 100000
set_option maxHeartbeats 8000000
section
def IX (M:MemM) (P:List PtM) (x:InoT):Nat→Λ
 | 0=>[]
 | k+1=>IX M P x k++Bg M P 7 (x.blk k)
section
variable {M:MemM} {P:List PtM} {x:InoT} {n:Nat}
theorem LO (hM:M.V.length=23168) {kd nm:Int} {q:PartT} (h:Bk kd nm=some q) (hk:kd≠5∧kd≠6):(Bg M P kd nm).length=64:=by
 rw [CB h,Nj (JM hM h),Pj h hk.1 hk.2];rfl
theorem Uy (hM:M.V.length=23168) (hfd:∀ k,k<n→∃ q,Bk 7 (x.blk k)=some q):∀ k,k≤n→(IX M P x k).length=64*k
 | 0,_=>rfl
 | k+1,hk=>by
  obtain ⟨q,hq⟩:=hfd k ω
  show (IX M P x k++_).length=_
  rw [List.length_append,Uy hM hfd k ω,LO hM hq (by decide)];omega
theorem QL {s:Int} (h:By s=(n:Int)) (hs:0≤s∧s≤256):s≤64*(n:Int):=by unfold By at h;split at h<;>omega
end
theorem Td {w:World} {R:List Ch} {K:VolK} {ta:Ω} {tc:Nat} {M:MemM} {P:List PtM} {nm:Int} {q:PartT} (hS:Sep w (txP K ta tc M P::R)) (hM:M.V.length=23168) (h:Bk 7 nm=some q) (h0:0≤q.a∧q.a≤23168∧0≤q.s∧q.s≤4096) :
  CallsR prog 35 #[pG K.tg,ν q.a,ν q.s] w (fun v w'=>∃ ad c,v=.tuple #[.slice (some ad) (Bg M P 7 nm).length c,ν 0]∧Sep w' (BR 0 5 1 (some ad) (Bg M P 7 nm).length c ((Bg M P 7 nm).map Ag)::txP K ta tc M P::R)):=by
 have hl:=LO hM (P:=P) h (by decide)
 rw [CB h] at hl ⊢
 refine Calls.mono (Te hS (JM hM h) (by unfold Hv;omega) (by unfold Hv;omega)) fun e w' z=>?_
 obtain ⟨v,e1,a,c,e2,s⟩:=z
 cases a with
 | none=>
  have o:Own w' 0 5 1 none _ c _:=s.get 0 rfl
  have:=o.row.2.2.2.1 rfl
  have:=o.row.2.1
  omega
 | some ad=>exact ⟨v,e1,ad,c,e2,s⟩
theorem PQ {w:World} {R:List Ch} {b:Nat} {p:Value} {ba:Ω} {bc:Nat} {xs:Λ} (hS:Sep w (Ab b 76 [p,.slice ba xs.length bc]::BR 0 5 1 ba xs.length bc (xs.map Ag)::R)) (h0:xs=[]→ba=none∧bc=0) :
  CallsR prog 37 #[π b] w (fun v w'=>v=σ xs∧Sep w' R):=by
 by_cases hx:xs=[]
 ·obtain ⟨rfl,rfl⟩:=h0 hx
  subst hx
  have hb:Blk w b 76 [p,.slice none 0 0]:=hS.get 0 rfl
  have hR:Sep w R:=Sep.swap (A:=[_,_]) (B:=[]) (R:=R) hS ⟨fun i d hi=>by simp at hi,fun i j d e _ hi=>by simp at hi⟩ (fun i c hi=>by simp at hi)
  exact Calls.mono (Go.Proofs.Any.Builder_String_nil (ρ:=Fy) { Nr with } CW w.heap.size b p w hb) fun e w' z=>⟨_,z.1,rfl,hR.mono z.2⟩
 ·exact ZW hS hx
theorem XL {w:World} {R:List Ch} {fx:Nat} {mx:Nat} {K:VolK} {ta:Ω} {tc:Nat} {M:MemM} {P:List PtM} {i:Int} {x:InoT} {n0:Nat} (hS0:Sep w ([Ab fx 83 [π K.tg,π mx],Ab mx 103 [π K.tg],txP K ta tc M P]++R)) (hM:M.V.length=23168) (hfE:Em M P i=0) (hfX:IM M P i=x) (hs:0≤x.s∧x.s≤256) (hn0:By x.s=(n0:Int)) (hfd:∀ k,k<n0→∃ q,Bk 7 (x.blk k)=some q) :
  CallsR prog 13 #[π fx,ν i] w (fun v w'=>v=.tuple #[σ ((IX M P x n0).take x.s.toNat),ν 0]∧Sep w' ([Ab fx 83 [π K.tg,π mx],Ab mx 103 [π K.tg],txP K ta tc M P]++R)):=by
 have hS:Sep w [Ab fx 83 [π K.tg,π mx],Ab mx 103 [π K.tg],txP K ta tc M P,Ch.many R]:=Sep.tail_many (xs:=[_,_,_]) hS0;clear hS0
 have hn4:n0≤4:=JT hn0 hs
 have hns:=QL hn0 hs
 have hbl:∀ k,k≤n0→(IX M P x k).length=64*k:=fun k hk=>Uy hM hfd k hk
 refine AL func13 rfl (N:=56) ntmps13 (by show 2≤56;decide) [(0,π fx),(1,ν i)] rfl fun _ h1=>sqr fun _ hK3=>mvs 2 h1 rfl fun _ h6=>wpList_nil<|hK3 _ _<|sqr fun _ hK8=>mvs 2 h6 rfl fun _ h2=>cl h2 rfl (cF func33) (Od hS hM hfE hfX) fun _ v1 w2 r1 h3=>?_
 obtain ⟨rfl,s1⟩:=r1
 refine mvs 3 h3 rfl fun _ h4=>so (wn rfl) fun _ hK1=>AV h4 rfl rfl rfl rfl (z:=[ν 0,ν 0,ν 0,ν 0,ν 0,ν 0,ν 0,ν 0,ν 0,ν 0,ν 0,ν 0,ν 0,ν 0,ν 0]) (fun _=>rfl) s1 fun _ g1 w3 h5 s2 _ _=>hK1 _ _ ?_
 refine stA h5 s2 0 rfl rfl rfl κ rfl rfl rfl rfl fun _ w4 h7 s3 _=>mv h7 rfl fun _ h8=>h8.sn [7,6,5,4,0,1] rfl fun h9=>hK8 _ _<|sq fun _ hK2=>sqr fun _ hK4=>mv h9 rfl fun _ h10=>bv h10 (z:=.bool false) rfl (cNe _ _ _ _ rfl) fun _ h11=>h11.sn [21,7,6,5,4,0,1] rfl fun h12=>hK4 _ _<|wcF h12 rfl rfl ?_
 refine h12.sk [7,6,5,4,0,1] rfl fun h13=>wp_skip<|hK2 _ _<|sqr fun _ hK5=>so (wn rfl) fun _ hK6=>AV h13 rfl rfl rfl rfl (z:=[.pointer none,.slice none 0 0]) (fun _=>rfl) s3 fun _ g2 w5 h14 s4 _ _=>hK6 _ _ ?_
 refine wpList_nil<|hK5 _ _<|sq fun _ hK7=>sqr fun _ hK9=>fav h14 rfl (fQ 2) fun _ h15=>ldv h15 s4 1 υ3 rfl rfl rfl rfl fun _ h16=>cl h16 rfl (cF func17) (Ji s4 hn0 ω) fun _ v2 w6 r2 h17=>?_
 obtain ⟨rfl,s5⟩:=r2
 refine mv h17 rfl fun _ h18=>h18.sn [26,25,8,7,6,5,4,0,1] rfl fun h19=>hK9 _ _<|wp_block ?_
 have s6:=Sep.ownNil s5 0 5 1
 refine Io (fun (k:Nat) (pp:Ω) (ba:Ω) (bc:Nat) a' w'=>Kn 56 [(26,ν (k:Int)),(25,ν (n0:Int)),(8,π g2),(7,ν 0),(6,π g1),(5,ν 0),(4,σ []),(0,π fx),(1,ν i)] a'∧Sep w' [BR 0 5 1 ba ((IX M P x k)).length bc (((IX M P x k)).map Ag),Ab g2 76 [.pointer pp,.slice ba ((IX M P x k).length) bc],Ab g1 45 (Ao x),Ab fx 83 [π K.tg,π mx],Ab mx 103 [π K.tg],txP K ta tc M P,Ch.many R]∧(k≤n0)∧(pp=none∨pp=some ⟨g2,0,none⟩)∧(k=0→ba=none∧bc=0)) (fun (k:Nat) (pp:Ω) (ba:Ω) (bc:Nat)=>n0-k) 0 none none 0 ⟨h19.subs rfl,s6,Nat.zero_le _,.inl rfl,(fun _=>⟨rfl,rfl⟩)⟩ ?_
 rintro k1 pp86 ba87 bc88 a1 w7 ⟨h20,s7,hk82,hp1,hz84⟩ K1 hK10
 refine sqr fun _ hK11=>bv h20 (z:=.bool (decide ((k1:Int)<(n0:Int)))) rfl (cLt _ _ _ _ rfl) fun _ h21=>wpList_nil<|hK11 _ _<|sq fun _ hK12=>?_
 rcases bC (decide ((k1:Int)<(n0:Int))) with hc1 | hc1
 ·skip
  have hp2:(k1:Int)<(n0:Int):=(dT hc1)
  refine wcT h21 rfl hc1<|h21.sk [26,25,8,7,6,5,4,0,1] rfl fun h22=>wp_skip<|hK12 _ _<|sq fun _ hK13=>wp_block ?_
  refine sqr fun _ hK14=>mvs 2 h22 rfl fun _ h23=>h23.sn [9,26,25,8,7,6,5,4,0,1] rfl fun h24=>hK14 _ _<|sqr fun _ hK15=>mv h24 rfl fun _ h25=>fav h25 rfl (fQ 3) fun _ h26=>sv1 h26 rfl (Ci h26 rfl rfl rfl (fun w=>MA g1 k1 ω ω w)) fun _ h27=>sw1 h27 rfl (rld h27 rfl rfl (ldB υ3 rfl (s7.get 2 rfl:Blk _ _ _ _) (EH x ω))) fun _ h28=>?_
  obtain ⟨q112,hq1⟩:=hfd k1 ω
  have hq113i:=DC hq1
  have hbk9:=hbl k1 ω
  refine cl h28 rfl (cF func34) (Bv s7 (JG (k:=q112.k) (n:=q112.n) (a:=q112.a) (s:=q112.s) hq1 _)) fun _ v3 w8 r3 h29=>?_
  obtain ⟨rfl,s8⟩:=r3
  refine mvs 3 h29 rfl fun _ h30=>so (wn rfl) fun _ hK16=>AV h30 rfl rfl rfl rfl (z:=[ν 0,ν 0,ν 0,ν 0]) (fun _=>rfl) s8 fun _ g3 w9 h31 s9 _ _=>hK16 _ _ ?_
  refine stA h31 s9 0 rfl rfl rfl κ rfl rfl rfl rfl fun _ w10 h32 s10 _=>mv h32 rfl fun _ h33=>h33.sn [10,9,26,25,8,7,6,5,4,0,1] rfl fun h34=>hK15 _ _<|sq fun _ hK17=>?_
  have s11:=s10.drew
  refine wp_region_held_drew (S:=fun w'=>Sep w' [Ab g3 78 [ν q112.k,ν q112.n,ν q112.a,ν q112.s],BR 0 5 1 ba87 ((IX M P x k1)).length bc88 (((IX M P x k1)).map Ag),Ab g2 76 [.pointer pp86,.slice ba87 ((IX M P x k1).length) bc88],Ab g1 45 (Ao x),Ab fx 83 [π K.tg,π mx],Ab mx 103 [π K.tg],txP K ta tc M P,Ch.many R]) κ s11 (fun hq2=>?_)
  refine tv1 hq2 h34 0 rfl rfl (fun w1 _=>(AF h34 rfl rfl) w1) fun _ h35=>?_
  refine tv1 hq2 h35 1 rfl rfl (fun w1 _=>(Na h35 rfl rfl) w1) fun _ h36=>?_
  refine tv1 hq2 h36 2 rfl rfl (fun w1 _=>(rfa h36 rfl rfl (fQ 0)) w1) fun _ h37=>?_
  refine tv1 hq2 h37 3 rfl rfl (fun w1 hSw=>(rld h37 rfl rfl (ldB υ30 rfl (hSw.get 4 rfl:Blk _ _ _ _) rfl))) fun _ h38=>?_
  refine tv1 hq2 h38 4 rfl rfl (fun w1 _=>(rfa h38 rfl rfl (fQ 2)) w1) fun _ h39=>?_
  refine tv1 hq2 h39 5 rfl rfl (fun w1 hSw=>(rld h39 rfl rfl (ldB υ3 rfl (hSw.get 0 rfl:Blk _ _ _ _) rfl))) fun _ h40=>?_
  refine tv1 hq2 h40 6 rfl rfl (fun w1 _=>(rfa h40 rfl rfl (fQ 3)) w1) fun _ h41=>?_
  refine tv1 hq2 h41 7 rfl rfl (fun w1 hSw=>(rld h41 rfl rfl (ldB υ3 rfl (hSw.get 0 rfl:Blk _ _ _ _) rfl))) fun _ h42=>?_
  refine to_ 8 rfl (wn rfl) κ fun _ hK18=>BI h42 rfl rfl rfl (xs:=[.tmp 41,.tmp 43,.tmp 45]) rfl (cF func35) rfl (vs:=[π K.tg,ν q112.a,ν q112.s]) rfl (args:=#[π K.tg,ν q112.a,ν q112.s]) rfl (Td (s11.pk [6,0,1,2,3,4,5,7] rfl) hM hq1 ω) fun _ v4 w11 r4 h43=>?_
  obtain ⟨ad_x164,rc_x165,rfl,s12⟩:=r4
  refine hK18 _ _ (s12.pk [2,3,4,5,6,7,1,8] rfl) fun hq3=>?_
  refine tv1 hq3 h43 9 rfl rfl (fun w1 _=>(AF h43 rfl rfl) w1) fun _ h44=>?_
  refine tv1 hq3 h44 10 rfl rfl (fun w1 _=>(TK h44 rfl rfl rfl) w1) fun _ h45=>?_
  refine tv1 hq3 h45 11 rfl rfl (fun w1 _=>(TK h45 rfl rfl rfl) w1) fun _ h46=>?_
  refine tv1 hq3 h46 12 rfl rfl (fun w1 _=>(Be h46 rfl rfl) w1) fun _ h47=>?_
  refine tv1 hq3 h47 13 rfl rfl (fun w1 _=>(Be h47 rfl rfl) w1) fun _ h48=>?_
  refine h48.sk [12,10,9,26,25,8,7,6,5,4,0,1] rfl fun h49=>?_
  refine wpAnyH_done κ ?_ _
  refine hK17 _ _ ?_
  refine wp_region_lit<|mv h49 rfl fun _ h50=>?_
  have hly9:=LO hM (P:=P) hq1 ω
  refine cl h50 rfl (cF func36) (Ac6 (s12.pk [4,3,0,1,2,5,6,7,8] rfl) hp1 ω ω ω) fun _ v5 w12 r5 h51=>?_
  obtain ⟨nb_x186,nc_x187,rfl,s13⟩:=r5
  refine h51.sn [12,10,9,26,25,8,7,6,5,4,0,1] rfl fun h52=>hK13 _ _<|wp_region_lit<|bv h52 (z:=ν ((k1+1:Nat):Int)) rfl (CP _ _ _ ω ω ω) fun _ h53=>h53.sk [51,12,10,9,25,8,7,6,5,4,0,1] rfl fun h54=>mv h54 rfl fun _ h55=>h55.sk [26,12,10,9,25,8,7,6,5,4,0,1] rfl fun h56=>wpList_nil ?_
  exact hK10 (k1+1) (some ⟨g2,0,none⟩) nb_x186 nc_x187 _ _ ⟨h56.subs rfl,(s13.pk [1,0,5,6,7,3,8] rfl),ω,.inr rfl,(fun q=>absurd q (Nat.succ_ne_zero _))⟩ ω
 ·skip
  have hp3:¬ ((k1:Int)<(n0:Int)):=(dF hc1)
  refine wcF h21 rfl hc1<|h21.sk [26,25,8,7,6,5,4,0,1] rfl fun h57=>wp_exit ?_
  refine hK7 _ _ ?_
  refine sq fun _ hK19=>?_
  have s14:=s7.drew
  refine wp_region_held_drew (S:=fun w'=>Sep w' [Ab g1 45 (Ao x),Ab fx 83 [π K.tg,π mx],Ab mx 103 [π K.tg],txP K ta tc M P,Ch.many R]) κ (s14.pk [2,3,4,5,6] rfl) (fun hq4=>?_)
  refine tv1 hq4 h57 1 rfl rfl (fun w1 _=>(rfa h57 rfl rfl (fQ 2)) w1) fun _ h58=>?_
  refine tv1 hq4 h58 2 rfl rfl (fun w1 hSw=>(rld h58 rfl rfl (ldB υ3 rfl (hSw.get 0 rfl:Blk _ _ _ _) rfl))) fun _ h59=>?_
  have hbk9:=hbl k1 ω
  refine to_ 0 rfl (wn rfl) κ fun _ hK20=>BI h59 rfl rfl rfl (xs:=[.tmp 8]) rfl (cF func37) rfl (vs:=[π g2]) rfl (args:=#[π g2]) rfl (PQ (s14.pk [1,0,2,3,4,5,6] rfl) (fun e9=>hz84 (by rw [e9] at hbk9;simp at hbk9;omega))) fun _ v6 w13 r6 h60=>?_
  obtain ⟨rfl,s15⟩:=r6
  refine hK20 _ _ s15 fun hq5=>?_
  refine tv1 hq5 h60 3 rfl rfl (fun w1 _=>(PM h60 rfl rfl (vl:=none) (vh:=(some (ν x.s))) rfl rfl (fun w=>(fun w=>((slT 9 υ9 (IX M P x k1) (a:=0) (b:=(x.s).toNat) (.inl ⟨rfl,rfl⟩) (.inr ⟨_,rfl,ω⟩) ω ω) w).trans (by rw [List.drop_zero])) w)) w1) fun _ h61=>?_
  refine h61.sk [55,52,54,53,26,25,8,7,6,5,0,1] rfl fun h62=>?_
  refine tv1 hq5 h62 4 rfl rfl (fun w1 _=>(Be h62 rfl rfl) w1) fun _ h63=>?_
  refine h63.sk [4,55,52,54,53,26,25,8,7,6,0,1] rfl fun h64=>?_
  refine tv1 hq5 h64 5 rfl rfl (fun w1 _=>(Be h64 rfl rfl) w1) fun _ h65=>?_
  refine h65.sk [5,4,26,25,8,7,6,0,1] rfl fun h66=>?_
  refine wpAnyH_done κ ?_ _
  refine hK19 _ _ ?_
  refine wp_ret ?_
  try simp only [Exit.then,Exit.inBlock]
  refine Bj (v:=.tuple #[σ ((IX M P x k1).take ((x.s).toNat)),ν 0]) (Dx h66 rfl rfl rfl) h66.defs ?_
  obtain rfl:n0=k1:=ω
  exact ⟨rfl,Sep.tail_un (xs:=[_,_,_]) (s15.pk [1,2,3,4] rfl)⟩
theorem XK {w:World} {R:List Ch} {fx:Nat} {mx:Nat} {K:VolK} {ta:Ω} {tc:Nat} {M:MemM} {P:List PtM} {i:Int} (hS0:Sep w ([Ab fx 83 [π K.tg,π mx],Ab mx 103 [π K.tg],txP K ta tc M P]++R)) (hM:M.V.length=23168) (hfE:Em M P i≠0) :
  CallsR prog 13 #[π fx,ν i] w (fun v w'=>v=.tuple #[σ [],ν (Em M P i)]∧Sep w' ([Ab fx 83 [π K.tg,π mx],Ab mx 103 [π K.tg],txP K ta tc M P]++R)):=by
 have hS:Sep w [Ab fx 83 [π K.tg,π mx],Ab mx 103 [π K.tg],txP K ta tc M P,Ch.many R]:=Sep.tail_many (xs:=[_,_,_]) hS0;clear hS0
 refine AL func13 rfl (N:=56) ntmps13 (by show 2≤56;decide) [(0,π fx),(1,ν i)] rfl fun _ h1=>sqr fun _ hK3=>mvs 2 h1 rfl fun _ h6=>wpList_nil<|hK3 _ _<|sqr fun _ hK8=>mvs 2 h6 rfl fun _ h2=>cl h2 rfl (cF func33) (Yn hS hM) fun _ v1 w1 r1 h3=>?_
 obtain ⟨rfl,s1⟩:=r1
 refine mvs 3 h3 rfl fun _ h4=>so (wn rfl) fun _ hK1=>AV h4 rfl rfl rfl rfl (z:=[ν 0,ν 0,ν 0,ν 0,ν 0,ν 0,ν 0,ν 0,ν 0,ν 0,ν 0,ν 0,ν 0,ν 0,ν 0]) (fun _=>rfl) s1 fun _ g1 w2 h5 s2 _ _=>hK1 _ _ ?_
 refine stA h5 s2 0 rfl rfl rfl κ rfl rfl rfl rfl fun _ w3 h7 s3 _=>mv h7 rfl fun _ h8=>h8.sn [7,6,5,4,0,1] rfl fun h9=>hK8 _ _<|sq fun _ hK2=>sqr fun _ hK4=>mv h9 rfl fun _ h10=>bv h10 (z:=.bool true) rfl (cNe _ _ _ _ (decide_eq_true ω)) fun _ h11=>h11.sn [21,7,6,5,4,0,1] rfl fun h12=>hK4 _ _<|wcT h12 rfl rfl ?_
 refine h12.sk [7,6,5,4,0,1] rfl fun h13=>sqr fun _ hK5=>mv h13 rfl fun _ h14=>h14.sk [22,7,6,5,0,1] rfl fun h15=>mv h15 rfl fun _ h16=>h16.sk [4,22,7,6,0,1] rfl fun h17=>mv h17 rfl fun _ h18=>h18.sn [5,4,7,6,0,1] rfl fun h19=>hK5 _ _<|wp_ret ?_
 try simp only [Exit.then,Exit.inBlock]
 refine Bj (v:=.tuple #[.string (Af []),.int .i64 (Em M P i)]) (Dx h19 rfl rfl rfl) h19.defs ?_
 exact ⟨rfl,Sep.tail_un (xs:=[_,_,_]) (s3.pk [1,2,3,4] rfl)⟩
end
section
end
section
def ykX (n:Int):Nat→InoT
  | 0=>szX opX n
  | k+1=>(ykX n k).setB k ((k:Int)+3)
def skS:Nat→BH
  | 0=>s4S
  | k+1=>BW (BW (skS k) 3 0 (AT (CU (skS k)) ((k:Int)+3))) 7 ((k:Int)+3) (List.replicate 64 0)
theorem Aed (m:Λ):DL m 0=m:=if_neg (by decide)
theorem Acj (x:InoT):(Ce x).length≤64:=by
  unfold Ce;split
  · split
    · decide
    · rename_i h _;have:=Kb x;omega
  · exact Nat.zero_le _
section
variable {M:MemM}
theorem Afl:∀ i:Fin 4,CF s4S ((i.val:Int)+2)=0:=by decide +kernel
theorem Acv (i:Nat) (hi:i<4):CG s4S ((i:Int)+2)=opX:=by
  rcases (ω:i=0∨i=1∨i=2∨i=3) with rfl | rfl | rfl | rfl<;>kernel_rfl
end
end
section
open Go.RowKit Go.WideShapes
theorem Zl (k n:Nat) (h:n<256 ^ k):BV (le k n)=n:=by
  induction k generalizing n with
  | zero=>simp [le,BV] at *;omega
  | succ k ih=>
    have h':n / 256<256 ^ k:=by
      rw [Nat.div_lt_iff_lt_mul ω];rw [Nat.pow_succ] at h;exact h
    simp only [le,BV]
    rw [ih _ h']
    have:(UInt8.ofNat n).toNat=n % 256:=by simp
    rw [this];omega
theorem YO {i:InoT} (h:JO i=IU):i=AS:=by
  cases i
  unfold JO IU at h
  simp only [List.cons.injEq,and_true] at h
  obtain ⟨h0,h1,h2,h3,h4,h5,h6,h7,h8,h9,h10,h11,h12,h13,h14⟩:=h
  subst h0 h1 h2 h3 h4 h5 h6 h7 h8 h9 h10 h11 h12 h13 h14
  rfl
theorem Wo {i:InoT} (hm:Cn i=true) (hk:i.k=0):i=AS:=by
  have:=IB (i:=i) ω ω
  rw [hm] at this
  exact YO (of_decide_eq_true this.symm)
theorem Jn {i:InoT} (hm:Cn i=true) (hk:i.k≠0):Ce i=Hy i++le 4 (CN (Hy i)):=by rw [WO hm hk,PF]
theorem Oz {i:InoT} (hm:Cn i=true):(Ce i).length=64:=by
  by_cases hk:i.k=0
  · rw [KM hm hk];simp
  · rw [Jn hm hk,List.length_append,JP,Az]
theorem Mp {i:InoT} (hm:Cn i=true) (hk:i.k≠0):Bd (Ce i)=i:=by
  have hkd:=Oq hm
  have hlow:=Zb hm
  have hX:=SX hm
  rw [Jn hm hk]
  generalize CN (Hy i)=z
  unfold Hy
  rw [hX]
  have e:∀ n:Int,0≤n→n≤255→((UInt8.ofNat n.toNat).toNat:Int)=n:=by
    intro n h0 h1
    have:(UInt8.ofNat n.toNat).toNat=n.toNat % 256:=by simp
    rw [this];omega
  have es:∀ n:Int,0≤n→n≤256→((UInt8.ofNat n.toNat).toNat:Int)+256*((UInt8.ofNat (n.toNat / 256)).toNat:Int)=n:=by
    intro n h0 h1
    have e1:(UInt8.ofNat n.toNat).toNat=n.toNat % 256:=by simp
    have e2:(UInt8.ofNat (n.toNat / 256)).toNat=n.toNat / 256 % 256:=by simp
    rw [e1,e2];omega
  clear hX
  obtain ⟨k,l,s,b0,b1,b2,b3,o0,o1,o2,o3,o4,o5,o6,o7⟩:=i
  simp only [InoT.B,InoT.O] at *
  show (⟨((UInt8.ofNat k.toNat).toNat:Int),((UInt8.ofNat l.toNat).toNat:Int),((UInt8.ofNat s.toNat).toNat:Int)+256*((UInt8.ofNat (s.toNat / 256)).toNat:Int),((UInt8.ofNat b0.toNat).toNat:Int),((UInt8.ofNat b1.toNat).toNat:Int),((UInt8.ofNat b2.toNat).toNat:Int),((UInt8.ofNat b3.toNat).toNat:Int),((UInt8.ofNat o0.toNat).toNat:Int),((UInt8.ofNat o1.toNat).toNat:Int),((UInt8.ofNat o2.toNat).toNat:Int),((UInt8.ofNat o3.toNat).toNat:Int),((UInt8.ofNat o4.toNat).toNat:Int),((UInt8.ofNat o5.toNat).toNat:Int),((UInt8.ofNat o6.toNat).toNat:Int),((UInt8.ofNat o7.toNat).toNat:Int)⟩:InoT)=_
  have H:∀ n∈[b0,b1,b2,b3]++[o0,o1,o2,o3,o4,o5,o6,o7],((UInt8.ofNat n.toNat).toNat:Int)=n:=fun n hn=>e n (hlow n hn).1 (hlow n hn).2
  rw [e k hkd.1 ω,e l hkd.2.2.1 ω,es s hkd.2.2.2.2.1 hkd.2.2.2.2.2,H b0 (by simp),H b1 (by simp),H b2 (by simp),H b3 (by simp),H o0 (by simp),H o1 (by simp),H o2 (by simp),H o3 (by simp),H o4 (by simp),H o5 (by simp),H o6 (by simp),H o7 (by simp)]
theorem ZX {Y t:Λ} (hY:Y.length=60) (ht:t.length=4):(Y++t).take 60=Y∧slI (Y++t) 60 4=t:=by
  refine ⟨by rw [← hY];exact List.take_left,?_⟩
  unfold slI
  rw [← hY,List.drop_left,← ht,List.take_length]
theorem Xg {i:InoT} (hm:Cn i=true) (hk:i.k≠0):Lp (Ce i)=true:=by
  rw [Jn hm hk]
  obtain ⟨h1,h2⟩:=ZX (JP i) (Az 4 (CN (Hy i)))
  unfold Lp
  rw [h1,h2]
  exact decide_eq_true (Zl 4 _ (Nat.lt_of_lt_of_le (EE _) (by decide)))
theorem Aaz {i:InoT} (hm:Cn i=true) (hk:i.k≠0):(bAt (Ce i) 0:Int)=i.k:=congrArg InoT.k (Mp hm hk)
theorem Acl {i:InoT} (hm:Cn i=true) (hk:i.k≠0):Ce i≠Fc:=by
  intro e
  have:=Aaz hm hk
  rw [e] at this
  exact hk this.symm
theorem WP {i:InoT} (hm:Cn i=true):rdI (Ce i)=i∧rdE (Ce i)=0:=by
  have hl:=Oz hm
  have ht:(Ce i).take 64=Ce i:=List.take_of_length_le ω
  by_cases hk:i.k=0
  · have e0:=Wo hm hk
    obtain ⟨h1,h2⟩:=Vc (xs:=Ce i) ω (by rw [ht];exact KM hm hk)
    exact ⟨by rw [h1,e0],h2⟩
  · have hf:=Mp hm hk
    obtain ⟨h1,h2⟩:=Vb (xs:=Ce i) ω (by rw [ht];exact Acl hm hk) (by rw [ht];exact Xg hm hk) (by
      rw [ht];unfold KN;rw [hf,hm,Bool.true_and];exact decide_eq_true rfl)
    rw [ht,hf] at h1
    exact ⟨h1,h2⟩
end
section
theorem Lq {m:Λ} (h:m.length=16) {b c:Int} (hb:1≤b∧b≤128):CL (AT m b) c=(CL m c||decide (c=b)):=by
  unfold AT CL
  rw [if_pos hb,Ku _ _ _ h ω]
  by_cases hc:1≤c∧c≤128
  · rw [decide_eq_true hc,Bool.true_and,Bool.true_and];congr 1;exact decide_eq_decide.2 ω
  · rw [decide_eq_false hc,decide_eq_false (ω:¬ c=b)];rfl
theorem RZ {m:Λ} (h:m.length=16) {b c:Int} (hb:1≤b∧b≤128):CL (DL m b) c=(CL m c&&!decide (c=b)):=by
  unfold DL CL
  rw [if_pos hb,Kt _ _ _ h ω]
  by_cases hc:1≤c∧c≤128
  · rw [decide_eq_true hc,Bool.true_and,Bool.true_and];congr 2;exact decide_eq_decide.2 ω
  · rw [decide_eq_false hc];rfl
theorem In {m:Λ} {b:Int} (h:CL m b=true):1≤b∧b≤128:=by
  unfold CL at h;rw [Bool.and_eq_true] at h;exact of_decide_eq_true h.1
def Ky (m:Λ):Nat:=(Du m 128).length
theorem Jd {p q:Nat→Bool} {k:Nat} (hp:p k=false) (hq:q k=true) (h:∀ j,j≠k→q j=p j):∀ n,((List.range n).filter q).length=((List.range n).filter p).length+(if k<n then 1 else 0)
  | 0=>rfl
  | n+1=>by
    rw [List.range_succ,List.filter_append,List.filter_append,List.length_append,List.length_append,Jd hp hq h n]
    by_cases e:n=k
    · subst e
      rw [if_neg (Nat.lt_irrefl n),if_pos (Nat.lt_succ_self n)]
      simp [hp,hq]
    · have e1:(List.filter q [n]).length=(List.filter p [n]).length:=by simp [h n e,List.filter_cons]
      rw [e1]
      by_cases l:k<n
      · rw [if_pos l,if_pos ω];omega
      · rw [if_neg l,if_neg ω];omega
theorem XT {m:Λ} (h:m.length=16) {b:Int} (hb:1≤b∧b≤128) (hu:CL m b=false):Ky (AT m b)=Ky m+1:=by
  have hu2:Ek m (b-1).toNat=false:=by unfold CL at hu;rw [decide_eq_true hb,Bool.true_and] at hu;exact hu
  have z:=Jd (p:=Ek m) (q:=Ek (AT m b)) (k:=(b-1).toNat) hu2 (by unfold AT;rw [if_pos hb,Ku _ _ _ h ω];simp) (fun j hj=>by unfold AT;rw [if_pos hb,Ku _ _ _ h ω,decide_eq_false hj,Bool.or_false]) 128
  rw [if_pos ω] at z;exact z
theorem XS {m:Λ} (h:m.length=16) {b:Int} (hu:CL m b=true):Ky m=Ky (DL m b)+1:=by
  have hb:=In hu
  have hu2:Ek m (b-1).toNat=true:=by unfold CL at hu;rw [decide_eq_true hb,Bool.true_and] at hu;exact hu
  have z:=Jd (q:=Ek m) (p:=Ek (DL m b)) (k:=(b-1).toNat) (by unfold DL;rw [if_pos hb,Kt _ _ _ h ω];simp) hu2 (fun j hj=>by unfold DL;rw [if_pos hb,Kt _ _ _ h ω,decide_eq_false hj,Bool.not_false,Bool.and_true]) 128
  rw [if_pos ω] at z;exact z
theorem JI (m:Λ):∀ n i:Nat,(∃ j,i≤j∧j<i+n∧CI m 1 n i=(j:Int)+1∧Ek m j=false)∨(∀ j,i≤j→j<i+n→Ek m j=true)
  | 0,i=>.inr fun j h1 h2=>ω
  | n+1,i=>by
    unfold CI
    by_cases c:Ek m i=false
    · exact .inl ⟨i,Nat.le_refl _,ω,by rw [if_pos ⟨ω,c⟩],c⟩
    · rw [if_neg (fun e=>c e.2)]
      rcases JI m n (i+1) with ⟨j,h1,h2,h3,h4⟩ | h
      · exact .inl ⟨j,ω,ω,h3,h4⟩
      · refine .inr fun j h1 h2=>?_
        by_cases e:j=i
        · subst e;simpa using c
        · exact h j ω ω
theorem Mr {m:Λ} (h:Ky m<128):1≤Ar m 1∧Ar m 1≤128∧CL m (Ar m 1)=false:=by
  rcases JI m 128 0 with ⟨j,h1,h2,h3,h4⟩ | hA
  · have e:Ar m 1=(j:Int)+1:=h3
    rw [e]
    refine ⟨ω,ω,?_⟩
    unfold CL;rw [show ((j:Int)+1-1).toNat=j by omega,h4,Bool.and_false]
  · exfalso
    have:Ky m=128:=by
      unfold Ky Du
      rw [List.filter_eq_self.2 fun j hj=>hA j (Nat.zero_le _) (by have:=List.mem_range.1 hj;omega),List.length_range]
    omega
theorem Eb (x:InoT) {j:Nat} (hj:j<4) (b:Int) (i:Nat):(x.setB j b).blk i=if i=j then b else x.blk i:=by
  rcases (ω:j=0∨j=1∨j=2∨j=3) with rfl | rfl | rfl | rfl <;>
    (match i with
     | 0=>rfl
     | 1=>rfl
     | 2=>rfl
     | 3=>rfl
     | n+4=>rfl)
theorem Aa1 (x:InoT) {i:Nat} (h:4≤i):x.blk i=0:=by
  obtain ⟨n,rfl⟩:∃ n,i=n+4:=⟨i-4,ω⟩
  rfl
def Gi (v:Int):Nat:=if v=0 then 0 else 1
theorem FR (v:Int):Gi v≤1:=by unfold Gi;split<;>omega
def nzI (x:InoT):Nat:=Gi (x.blk 0)+Gi (x.blk 1)+Gi (x.blk 2)+Gi (x.blk 3)
theorem UU (x:InoT) {j:Nat} (hj:j<4) (b:Int):nzI (x.setB j b)+Gi (x.blk j)=nzI x+Gi b:=by
  unfold nzI
  rw [Eb x hj,Eb x hj,Eb x hj,Eb x hj]
  rcases (ω:j=0∨j=1∨j=2∨j=3) with rfl | rfl | rfl | rfl<;>simp<;>omega
theorem Agy {x:InoT} {n k:Nat} (hn:n≤4) (hk:k<n) (h0:x.blk k=0) (h:∀ j,n≤j→x.blk j=0):nzI x<n:=by
  have z:Gi 0=0:=rfl
  unfold nzI
  have a0:=FR (x.blk 0);have a1:=FR (x.blk 1);have a2:=FR (x.blk 2);have a3:=FR (x.blk 3)
  have g:∀ j,(n≤j∨j=k)→Gi (x.blk j)=0:=fun j hj=>by
    rcases hj with hj | hj
    · rw [h j hj];rfl
    · rw [hj,h0];rfl
  have g0:(n≤0∨0=k)→Gi (x.blk 0)=0:=g 0
  have g1:(n≤1∨1=k)→Gi (x.blk 1)=0:=g 1
  have g2:(n≤2∨2=k)→Gi (x.blk 2)=0:=g 2
  have g3:(n≤3∨3=k)→Gi (x.blk 3)=0:=g 3
  rcases (ω:k=0∨k=1∨k=2∨k=3) with rfl | rfl | rfl | rfl <;>
    (rcases (ω:n=1∨n=2∨n=3∨n=4) with rfl | rfl | rfl | rfl<;>first | omega | (simp at g0 g1 g2 g3;omega))
theorem Agx {x:InoT} {n:Nat} (hn:n≤4) (h:∀ j,x.blk j≠0↔j<n):nzI x=n:=by
  have g:∀ j,Gi (x.blk j)=if j<n then 1 else 0:=fun j=>by
    unfold Gi
    by_cases e:j<n
    · rw [if_neg ((h j).2 e),if_pos e]
    · rw [if_pos (Classical.not_not.1 fun q=>e ((h j).1 q)),if_neg e]
  unfold nzI
  rw [g,g,g,g]
  rcases (ω:n=0∨n=1∨n=2∨n=3∨n=4) with rfl | rfl | rfl | rfl | rfl<;>rfl
abbrev DZ:=Nat→InoT
def DA (X:DZ) (k:Nat) (x:InoT):DZ:=fun i=>if i=k then x else X i
theorem Dm (X:DZ) (k:Nat) (x:InoT):DA X k x k=x:=if_pos rfl
theorem Fh {X:DZ} {k i:Nat} {x:InoT} (h:i≠k):DA X k x i=X i:=if_neg h
theorem RX (X:DZ) (k:Nat) (x y:InoT):DA (DA X k x) k y=DA X k y:=by
  funext i;unfold DA;split<;>rfl
def Jq (X:DZ):Nat:=nzI (X 0)+nzI (X 1)+nzI (X 2)+nzI (X 3)
theorem LR (X:DZ) {k:Nat} (hk:k<4) (x:InoT):Jq (DA X k x)+nzI (X k)=Jq X+nzI x:=by
  unfold Jq DA
  rcases (ω:k=0∨k=1∨k=2∨k=3) with rfl | rfl | rfl | rfl<;>simp<;>omega
structure MapOk (m:Λ) (X:DZ):Prop where
  l:m.length=16
  u:∀ k j,k<4→(X k).blk j≠0→CL m ((X k).blk j)=true
  d:∀ k k' j j',k<4→k'<4→(X k).blk j≠0→(X k).blk j=(X k').blk j'→k=k'∧j=j'
  c:Ky m=2+Jq X
theorem MapOk.give {m:Λ} {X:DZ} (H:MapOk m X) {k j:Nat} (hk:k<4) (hj:j<4):MapOk (DL m ((X k).blk j)) (DA X k ((X k).setB j 0)):=by
  have b':∀ i q,(DA X k ((X k).setB j 0) i).blk q=if i=k∧q=j then 0 else (X i).blk q:=fun i q=>by
    unfold DA;split
    · next e=>subst e;rw [Eb _ hj];simp
    · next e=>rw [if_neg (fun z=>e z.1)]
  have tt:=LR X hk ((X k).setB j 0)
  have nn:=UU (X k) hj 0
  have z0:Gi 0=0:=rfl
  by_cases h0:(X k).blk j=0
  · have e:DL m ((X k).blk j)=m:=by rw [h0];exact Aed m
    rw [e]
    refine ⟨H.l,fun i q hi=>?_,fun i i' q q' hi hi'=>?_,?_⟩
    · rw [b'];split
      · exact fun z=>absurd rfl z
      · exact H.u i q hi
    · rw [b',b'];split
      · exact fun z=>absurd rfl z
      · split
        · exact fun z z2=>absurd z2 z
        · exact H.d i i' q q' hi hi'
    · have:=H.c
      have e0:Gi ((X k).blk j)=0:=by rw [h0];rfl
      omega
  · have hu:=H.u k j hk h0
    have hb:=In hu
    refine ⟨by rw [Aw];exact H.l,fun i q hi=>?_,fun i i' q q' hi hi'=>?_,?_⟩
    · rw [b'];split
      · exact fun z=>absurd rfl z
      · next e=>
        intro z
        rw [RZ H.l hb,H.u i q hi z,decide_eq_false (fun q9=>e (H.d i k q j hi hk z q9))];rfl
    · rw [b',b'];split
      · exact fun z=>absurd rfl z
      · split
        · exact fun z z2=>absurd z2 z
        · exact H.d i i' q q' hi hi'
    · have:=H.c
      have g:=XS H.l hu
      have e1:Gi ((X k).blk j)=1:=if_neg h0
      omega
theorem MapOk.take {m:Λ} {X:DZ} (H:MapOk m X) {k j:Nat} {b:Int} (hk:k<4) (hj:j<4) (h0:(X k).blk j=0) (hb:1≤b∧b≤128) (hu:CL m b=false):MapOk (AT m b) (DA X k ((X k).setB j b)):=by
  have b':∀ i q,(DA X k ((X k).setB j b) i).blk q=if i=k∧q=j then b else (X i).blk q:=fun i q=>by
    unfold DA;split
    · next e=>subst e;rw [Eb _ hj];simp
    · next e=>rw [if_neg (fun z=>e z.1)]
  have tt:=LR X hk ((X k).setB j b)
  have nn:=UU (X k) hj b
  have nb:∀ i q,i<4→(X i).blk q≠0→(X i).blk q≠b:=fun i q hi z e=>by
    have:=H.u i q hi z;rw [e,hu] at this;cases this
  refine ⟨by rw [AX];exact H.l,fun i q hi=>?_,fun i i' q q' hi hi'=>?_,?_⟩
  · rw [b',Lq H.l hb];split
    · intro _;simp
    · intro z;rw [H.u i q hi z];rfl
  · rw [b',b']
    by_cases e:i=k∧q=j
    · rw [if_pos e]
      by_cases e':i'=k∧q'=j
      · exact fun _ _=>⟨e.1.trans e'.1.symm,e.2.trans e'.2.symm⟩
      · rw [if_neg e']
        intro z z2
        exact absurd z2.symm (nb i' q' hi' (by rw [← z2];exact z))
    · rw [if_neg e]
      by_cases e':i'=k∧q'=j
      · rw [if_pos e']
        exact fun z z2=>absurd z2 (nb i q hi z)
      · rw [if_neg e'];exact H.d i i' q q' hi hi'
  · have:=H.c
    have g:=XT H.l hb hu
    have e1:Gi b=1:=if_neg ω
    have e0:Gi ((X k).blk j)=0:=by rw [h0];rfl
    omega
end
section
def NK (s:BH) (x:InoT):Nat→Λ
  | 0=>[]
  | k+1=>NK s x k++s 7 (x.blk k)
theorem IY {s s':BH} {x:InoT}:∀ {n:Nat},(∀ j,j<n→s' 7 (x.blk j)=s 7 (x.blk j))→NK s' x n=NK s x n
  | 0,_=>rfl
  | n+1,h=>by unfold NK;rw [IY fun j hj=>h j ω,h n ω]
theorem XI {M:MemM} {P:List PtM} {s:BH} {n:Nat} (V:Vol M P s n) (x:InoT):∀ k,IX M P x k=NK s x k
  | 0=>rfl
  | k+1=>by unfold IX NK;rw [XI V x k,← V.s];rfl
theorem Vol.l7 {M:MemM} {P:List PtM} {s:BH} {n:Nat} (V:Vol M P s n) {kd b:Int} {q:PartT} (h:Bk kd b=some q) (hk:kd=3∨kd=4∨kd=7):(s kd b).length=64:=by
  have z:=LO (P:=P) V.m h ω
  rw [← V.s];unfold OP;rw [if_pos hk];exact z
theorem Ah9:∀ j:Fin 128,Eu 7 ((j.val:Int)+1)=true:=by decide +kernel
theorem Iz {b:Int} (h:1≤b∧b≤128):Eu 7 b=true:=by
  have z:=Ah9 ⟨(b-1).toNat,ω⟩
  rw [show (((⟨(b-1).toNat,ω⟩:Fin 128).val:Nat):Int)+1=b by show ((b-1).toNat:Int)+1=b;omega] at z;exact z
theorem RY {s:BH} {kd nm:Int} {xs:Λ} (h:(s kd nm).length≤xs.length):BW s kd nm xs kd nm=xs:=by
  unfold BW;rw [if_pos ⟨rfl,rfl⟩,List.drop_of_length_le h,List.append_nil]
theorem FC {s:BH} {kd nm a b:Int} {xs:Λ} (h:¬ (a=kd∧b=nm)):BW s kd nm xs a b=s a b:=if_neg h
theorem QE {s:BH} {m:Λ} (h:m.length=16):CU (BW s 3 0 m)=m:=by
  have e:BW s 3 0 m 3 0=m++(s 3 0).drop m.length:=if_pos ⟨rfl,rfl⟩
  unfold CU;rw [e];unfold GE
  rw [if_neg (by rw [List.length_append];omega),← h,List.take_left]
theorem MF {s s':BH} (h:s' 3 0=s 3 0):CU s'=CU s:=by unfold CU;rw [h]
structure FilOk (v:BH) (X:DZ) (T:Nat→Λ):Prop where
  m:MapOk (CU v) X
  e:∀ k:Nat,k<4→CF v ((k:Int)+2)=0
  x:∀ k:Nat,k<4→CG v ((k:Int)+2)=X k
  k:∀ k,k<4→(X k).k=1
  y:∀ k,k<4→Cn (X k)=true
  s:∀ k,k<4→(X k).s=((T k).length:Int)∧(T k).length≤256
  t:∀ k,k<4→(NK v (X k) (By ((T k).length:Int)).toNat).take (T k).length=T k
theorem MJ {x:InoT} (hk:x.k=1):Cn x=(Dp x&&!twI x):=by
  unfold Cn;rw [if_neg ω,if_pos hk]
theorem QO {j n s:Int}:okB j n s=true↔(j<s↔n≠0)∧0≤n∧n≤128:=by
  unfold okB
  rw [Bool.and_eq_true,decide_eq_true_eq,beq_iff_eq]
  by_cases h:n=0<;>by_cases h2:j<s<;>simp [h,h2]
theorem Ab0 {x:InoT} (hk:x.k=1) (hm:Cn x=true) (j:Nat):x.blk j≠0↔(j<4∧(64:Int)*j<x.s):=by
  rw [MJ hk] at hm
  unfold Dp La at hm
  simp only [Bool.and_eq_true,QO] at hm
  obtain ⟨⟨⟨_,⟨⟨h0,h1⟩,h2⟩,h3⟩,_⟩,_⟩:=hm
  match j with
  | 0=>show x.b0≠0↔_;rw [← h0.1];omega
  | 1=>show x.b1≠0↔_;rw [← h1.1];omega
  | 2=>show x.b2≠0↔_;rw [← h2.1];omega
  | 3=>show x.b3≠0↔_;rw [← h3.1];omega
  | n+4=>show (0:Int)≠0↔_;omega
theorem Ot {n:Nat} {n0:Nat} (h:By (n:Int)=(n0:Int)) (hn:n≤256) (j:Nat):j<n0↔(j<4∧(64:Int)*j<n):=by
  unfold By at h;split at h<;>omega
theorem Ahl {a b c d:Nat} (h1:b≠0→b≠a) (h2:c≠0→c≠b∧c≠a) (h3:d≠0→d≠c∧d≠b∧d≠a):tw a b c d=false:=by
  unfold tw twC
  have t:∀ (n:Nat) (l:List Nat),(n≠0→n∉l)→((n != 0)&&decide (n∈l))=false:=fun n l h=>by
    by_cases e:n=0
    · simp [e]
    · rw [decide_eq_false (h e),Bool.and_false]
  rw [t a [] (by simp),t b [a] (by simpa using h1),t c [b,a] (by simpa using h2),t d [c,b,a] (by simpa using h3)];rfl
theorem Ab1 {x z:InoT} {n:Nat} (hk:x.k=1) (hm:Cn x=true) (hz:z.k=x.k∧z.l=x.l∧z.o0=x.o0∧z.o1=x.o1∧z.o2=x.o2∧z.o3=x.o3∧z.o4=x.o4∧z.o5=x.o5∧z.o6=x.o6∧z.o7=x.o7) (hs:z.s=(n:Int)) (hn:n≤256)
    (hb:∀ j,z.blk j≠0↔(j<4∧(64:Int)*j<n)) (hr:∀ j,0≤z.blk j∧z.blk j≤128) (hd:∀ j j',z.blk j≠0→z.blk j=z.blk j'→j=j'):Cn z=true:=by
  obtain ⟨zk,zl,z0,z1,z2,z3,z4,z5,z6,z7⟩:=hz
  rw [MJ (zk.trans hk)]
  rw [MJ hk] at hm
  unfold Dp at hm ⊢
  simp only [Bool.and_eq_true] at hm
  obtain ⟨⟨⟨g1,_⟩,g2⟩,_⟩:=hm
  have e1:Fr z.l z.s=true:=by
    unfold Fr at g1 ⊢
    have:=of_decide_eq_true g1
    exact decide_eq_true ⟨ω,ω,ω,ω⟩
  have e2:Mq z=true:=by unfold Mq at g2 ⊢;rw [z0,z1,z2,z3,z4,z5,z6,z7];exact g2
  have e3:La z=true:=by
    unfold La
    simp only [Bool.and_eq_true,QO]
    have b0:z.b0≠0↔_:=hb 0
    have b1:z.b1≠0↔_:=hb 1
    have b2:z.b2≠0↔_:=hb 2
    have b3:z.b3≠0↔_:=hb 3
    rw [hs]
    exact ⟨⟨⟨⟨by rw [b0];omega,hr 0⟩,by rw [b1];omega,hr 1⟩,by rw [b2];omega,hr 2⟩,by rw [b3];omega,hr 3⟩
  have e4:twI z=false:=by
    unfold twI
    have r0:0≤z.b0∧_:=hr 0
    have r1:0≤z.b1∧_:=hr 1
    have r2:0≤z.b2∧_:=hr 2
    have r3:0≤z.b3∧_:=hr 3
    have d10:z.b1≠0→z.b1=z.b0→1=0:=hd 1 0
    have d21:z.b2≠0→z.b2=z.b1→2=1:=hd 2 1
    have d20:z.b2≠0→z.b2=z.b0→2=0:=hd 2 0
    have d32:z.b3≠0→z.b3=z.b2→3=2:=hd 3 2
    have d31:z.b3≠0→z.b3=z.b1→3=1:=hd 3 1
    have d30:z.b3≠0→z.b3=z.b0→3=0:=hd 3 0
    exact Ahl (fun h e=>by have:=d10 ω ω;omega) (fun h=>⟨fun e=>by have:=d21 ω ω;omega,fun e=>by have:=d20 ω ω;omega⟩)
      (fun h=>⟨fun e=>by have:=d32 ω ω;omega,fun e=>by have:=d31 ω ω;omega,fun e=>by have:=d30 ω ω;omega⟩)
  rw [e1,e2,e3,e4];rfl
def Kd (z x:InoT):Prop:=z.k=x.k∧z.l=x.l∧z.o0=x.o0∧z.o1=x.o1∧z.o2=x.o2∧z.o3=x.o3∧z.o4=x.o4∧z.o5=x.o5∧z.o6=x.o6∧z.o7=x.o7
theorem KQ {z x:InoT} (h:Kd z x) (j:Nat) (b:Int):Kd (z.setB j b) x∧(z.setB j b).s=z.s:=by
  unfold InoT.setB;split<;>exact ⟨h,rfl⟩
theorem UC {m:Λ} {X:DZ} {k:Nat} {x:InoT} {n0:Nat} (hk:k<4) (H:MapOk m (DA X k x)):∀ i,n0+i≤4→MapOk (CO x n0 m i) (DA X k (Bw x n0 i))∧Kd (Bw x n0 i) x∧(Bw x n0 i).s=x.s∧∀ j,(Bw x n0 i).blk j=if n0≤j∧j<n0+i then 0 else x.blk j
  | 0,_=>⟨H,⟨rfl,rfl,rfl,rfl,rfl,rfl,rfl,rfl,rfl,rfl⟩,rfl,fun j=>by rw [if_neg ω];rfl⟩
  | i+1,h=>by
    obtain ⟨i1,i2,i3,i4⟩:=UC (n0:=n0) hk H i ω
    have z:=i1.give (j:=n0+i) hk ω
    rw [Dm,RX] at z
    refine ⟨z,(KQ i2 _ _).1,(KQ i2 _ _).2.trans i3,fun j=>?_⟩
    show ((Bw x n0 i).setB (n0+i) 0).blk j=_
    rw [Eb _ (ω:n0+i<4),i4]
    by_cases e:j=n0+i
    · rw [if_pos e,if_pos ω]
    · rw [if_neg e]
      by_cases e2:n0≤j∧j<n0+i
      · rw [if_pos e2,if_pos ω]
      · rw [if_neg e2,if_neg ω]
end
section
section
variable {M:MemM} {P:List PtM} {s:BH} {c:Nat} {X:DZ} {k n0:Nat} {y z:InoT} {sp:Int}
structure AlOk (M:MemM) (s:BH) (X:DZ) (k c i:Nat) (y x:InoT) (P:List PtM) (s':BH) (c':Nat):Prop where
  v:Vol M P s' c'
  c:c'≤c+2*i
  m:MapOk (CU s') (DA X k x)
  r:Kd x y∧x.s=y.s
  lo:∀ j,j<i→x.blk j≠0
  hi:∀ j,i≤j→x.blk j=y.blk j
  n4:∀ a,s' 4 a=s 4 a
  n7:∀ b,CL (CU s) b=true→s' 7 b=s 7 b∧CL (CU s') b=true
theorem Aar (hk:k<4) {x:InoT} {m:Λ} (H:MapOk m (DA X k x)) (hn:n0≤4) {i:Nat} (hi:i<n0) (h0:x.blk i=0) (hz:∀ j,n0≤j→x.blk j=0) (hr:((2+Jq (DA X k AS)+n0:Nat):Int)≤128-max sp 0):¬ 128-((Du m 128).length:Int)≤max sp 0∧Ky m<128:=by
  have t1:=LR X hk x
  have t2:=LR X hk AS
  have z0:nzI AS=0:=rfl
  have lt:=Agy hn hi h0 hz
  have cc:=H.c
  have e:Ky m=(Du m 128).length:=rfl
  rw [← e]
  constructor<;>omega
theorem Adc (V:Vol M P s c) (hc:c≤30) (hk:k<4) (hn:n0≤4) (H:MapOk (CU s) (DA X k y)) :
    ∀ i,i≤n0→(∀ j,j≤i→∃ s' c',AlOk M s X k c j y (alS M sp y P j).1 (alS M sp y P j).2 s' c'∧(j<i→(alS M sp y P j).1.blk j=0→bE M (alS M sp y P j).2 sp=0)) ∨
      ∃ f,f<i∧(∀ j,j<f→(alS M sp y P j).1.blk j=0→bE M (alS M sp y P j).2 sp=0)∧(alS M sp y P f).1.blk f=0∧bE M (alS M sp y P f).2 sp=18∧∃ s' c',AlOk M s X k c f y (alS M sp y P f).1 (alS M sp y P f).2 s' c'
  | 0,_=>.inl fun j hj=>by
    obtain rfl:j=0:=ω
    exact ⟨s,c,⟨V,ω,H,⟨⟨rfl,rfl,rfl,rfl,rfl,rfl,rfl,rfl,rfl,rfl⟩,rfl⟩,fun j hj=>ω,fun j _=>rfl,fun _=>rfl,fun b h=>⟨rfl,h⟩⟩,fun h=>ω⟩
  | i+1,hi=>by
    rcases Adc V hc hk hn H i ω with ih | ⟨f,hf,g⟩
    case inr=>exact .inr ⟨f,ω,g⟩
    obtain ⟨s1,c1,A,_⟩:=ih i (Nat.le_refl _)
    have ac:=A.c
    have up:(∃ s' c',AlOk M s X k c (i+1) y (alS M sp y P (i+1)).1 (alS M sp y P (i+1)).2 s' c')→((alS M sp y P i).1.blk i=0→bE M (alS M sp y P i).2 sp=0)→∀ j,j≤i+1→∃ s' c',AlOk M s X k c j y (alS M sp y P j).1 (alS M sp y P j).2 s' c'∧(j<i+1→(alS M sp y P j).1.blk j=0→bE M (alS M sp y P j).2 sp=0):=fun h1 h2 j hj=>by
      by_cases e:j=i+1
      · subst e
        obtain ⟨s',c',B⟩:=h1
        exact ⟨s',c',B,fun h=>ω⟩
      · obtain ⟨s',c',B,hB⟩:=ih j ω
        refine ⟨s',c',B,fun _ h0=>?_⟩
        by_cases e2:j=i
        · subst e2;exact h2 h0
        · exact hB ω h0
    by_cases h0:(alS M sp y P i).1.blk i=0
    · by_cases r1:128-((Du (CU s1) 128).length:Int)≤max sp 0
      · refine .inr ⟨i,ω,fun j hj h=>?_,h0,?_,s1,c1,A⟩
        · obtain ⟨_,_,_,hB⟩:=ih j ω
          exact hB hj h
        · unfold bE;rw [if_pos (by unfold De;rw [Pv A.v];exact r1)]
      · have r2:Ky (CU s1)<128:=by unfold Ky;omega
        obtain ⟨f1,f2,f3⟩:=Mr r2
        obtain ⟨q,hq⟩:=AZ (Iz ⟨f1,f2⟩)
        have bv:=Kv A.v rfl rfl r1 hq ω
        refine .inl (up ?_ fun _=>bv.2.1)
        rw [Afy (fun h=>h h0)]
        have nb:∀ b,CL (CU s1) b=true→b≠Ar (CU s1) 1:=fun b h e=>by rw [e,f3] at h;cases h
        have tk:=A.m.take hk (ω:i<4) (by rw [Dm];exact h0) ⟨f1,f2⟩ f3
        rw [Dm,RX] at tk
        have em:CU (BW (BW s1 3 0 (AT (CU s1) (Ar (CU s1) 1))) 7 (Ar (CU s1) 1) (List.replicate 64 0))=AT (CU s1) (Ar (CU s1) 1):=
          (MF (FC (fun e=>absurd e.1 (by decide)))).trans (QE (by rw [AX];exact A.m.l))
        have rs:=KQ A.r.1 i (Ar (CU s1) 1)
        refine ⟨_,c1+2,bv.2.2,ω,?_,⟨?_,?_⟩,fun j hj=>?_,fun j hj=>?_,fun a=>?_,fun b h=>?_⟩
        · rw [em,bv.1];exact tk
        · rw [bv.1];exact rs.1
        · rw [bv.1];exact rs.2.trans A.r.2
        · rw [bv.1,Eb _ (ω:i<4)]
          by_cases e:j=i
          · rw [if_pos e];omega
          · rw [if_neg e];exact A.lo j ω
        · rw [bv.1,Eb _ (ω:i<4),if_neg ω];exact A.hi j ω
        · rw [FC (fun e=>absurd e.1 (by decide)),FC (fun e=>absurd e.1 (by decide))];exact A.n4 a
        · have u:=A.n7 b h
          rw [FC (fun e=>nb b u.2 e.2),FC (fun e=>absurd e.1 (by decide)),em,Lq A.m.l ⟨f1,f2⟩,u.2]
          exact ⟨u.1,rfl⟩
    · refine .inl (up ?_ fun h=>absurd h h0)
      rw [Afz h0]
      refine ⟨s1,c1,A.v,ω,A.m,A.r,fun j hj=>?_,fun j hj=>A.hi j ω,A.n4,A.n7⟩
      by_cases e:j=i
      · rw [e];exact h0
      · exact A.lo j ω
theorem Adw (V:Vol M P s c) (hc:c≤30) (hk:k<4) (hn:n0≤4) (H:MapOk (CU s) (DA X k y)) (hz:∀ j,n0≤j→y.blk j=0) (hr:∀ j,j<n0→y.blk j=0→((2+Jq (DA X k AS)+n0:Nat):Int)≤128-max sp 0) :
    ∀ j,j≤n0→∃ s' c',AlOk M s X k c j y (alS M sp y P j).1 (alS M sp y P j).2 s' c'∧(j<n0→(alS M sp y P j).1.blk j=0→bE M (alS M sp y P j).2 sp=0):=by
  rcases Adc (sp:=sp) V hc hk hn H n0 (Nat.le_refl _) with h | ⟨f,hf,_,g2,g3,s',c',A⟩
  · exact h
  · exfalso
    have ac:=A.c
    have yf:y.blk f=0:=(A.hi f (Nat.le_refl _)).symm.trans g2
    obtain ⟨r1,r2⟩:=Aar hk A.m hn hf g2 (fun j hj=>(A.hi j ω).trans (hz j hj)) (hr f hf yf)
    obtain ⟨f1,f2,f3⟩:=Mr r2
    obtain ⟨q,hq⟩:=AZ (Iz ⟨f1,f2⟩)
    rw [(Kv A.v rfl rfl r1 hq ω).2.1] at g3
    exact absurd g3 (by decide)
theorem Oa {Y:Λ} {n j:Nat} (h:Y.length=n*64) (hj:j<n):(GM Y j).length=64:=by unfold GM;exact NG h hj
theorem Aan (V:Vol M P s c) (hc:c≤50) (hn:n0≤4) {Y:Λ} (hY:Y.length=n0*64) (hb:∀ j,j<n0→1≤z.blk j∧z.blk j≤128) (hd:∀ j j',j<n0→z.blk j=z.blk j'→j=j') :
    ∀ i,i≤n0→∃ s',Vol M (wrP M z Y P i) s' (c+i)∧(i<n0→stE M (wrP M z Y P i) 7 (z.blk i) 64=0)∧(∀ a b,(a=7→∀ j,j<i→b≠z.blk j)→s' a b=s a b)∧∀ j,j<i→s' 7 (z.blk j)=GM Y j:=by
  have st:∀ {i:Nat} {P':List PtM} {s':BH},Vol M P' s' (c+i)→i<n0→stE M P' 7 (z.blk i) 64=0∧Vol M (stP M P' 7 (z.blk i) (GM Y i)) (BW s' 7 (z.blk i) (GM Y i)) (c+i+1):=fun {i P' s'} v hi=>by
    obtain ⟨q,hq⟩:=AZ (Iz (hb i hi))
    have l:=Oa hY hi
    have u:=v.put (xs:=GM Y i) hq (.inr (.inr rfl)) ω ω
    rw [l] at u;exact u
  intro i
  induction i with
  | zero=>exact fun _=>⟨s,V,fun h=>(st (i:=0) V h).1,fun _ _ _=>rfl,fun j hj=>ω⟩
  | succ i ih=>
    intro hi
    obtain ⟨s1,v,_,g1,g2⟩:=ih ω
    have u:=(st v ω).2
    refine ⟨_,u,fun h=>(st (i:=i+1) u h).1,fun a b h=>?_,fun j hj=>?_⟩
    · rw [FC (fun e=>h e.1 i ω e.2)]
      exact g1 a b fun e j hj=>h e j ω
    · by_cases e:j=i
      · rw [e]
        obtain ⟨q,hq⟩:=AZ (Iz (hb i ω))
        exact RY (by rw [v.l7 hq (.inr (.inr rfl)),Oa hY ω];exact Nat.le_refl _)
      · rw [FC (fun q=>e (hd j i ω q.2))]
        exact g2 j ω
theorem XJ {s':BH} {Y:Λ} (hg:∀ j,j<n0→s' 7 (z.blk j)=GM Y j):∀ i,i≤n0→NK s' z i=Y.take (i*64)
  | 0,_=>by simp [NK]
  | i+1,h=>by
    unfold NK
    rw [XJ hg i ω,hg i ω]
    unfold GM
    rw [show ((((i+1:Nat):Int)*64).toNat)=(i+1)*64 by omega,show (((i:Int)*64).toNat)=i*64 by omega]
    have e:Y.take (i*64)=(Y.take ((i+1)*64)).take (i*64):=by rw [List.take_take,Nat.min_eq_left ω]
    rw [e,List.take_append_drop]
end
end
section
theorem MapOk.congr {m:Λ} {X Y:DZ} (H:MapOk m X) (h:∀ i j,(Y i).blk j=(X i).blk j):MapOk m Y:=by
  have t:Jq Y=Jq X:=by unfold Jq nzI;simp only [h]
  exact ⟨H.l,fun k j hk=>by rw [h];exact H.u k j hk,fun k k' j j' hk hk'=>by rw [h,h];exact H.d k k' j j' hk hk',by rw [t];exact H.c⟩
theorem FS {s s':BH} {i:Int} (h:s' 4 i=s 4 i):CF s' i=CF s i∧CG s' i=CG s i:=by
  unfold CF CG;rw [h];exact ⟨rfl,rfl⟩
theorem UO {k:Nat} (h:k<4):Eu 4 ((k:Int)+2)=true:=by
  have:=YC ⟨k+1,ω⟩;rw [show (k:Int)+2=((k+1+1:Nat):Int) by omega];exact this
def RW (T:Nat→Λ) (k:Nat) (S:Λ):Nat→Λ:=fun i=>if i=k then S else T i
theorem MX {a b c:InoT} (h:Kd a b) (g:Kd b c):Kd a c:=by
  unfold Kd at *;simp only [h,g,and_self]
theorem Pz (x:InoT):nzI x≤4:=by
  unfold nzI
  have a0:=FR (x.blk 0);have a1:=FR (x.blk 1);have a2:=FR (x.blk 2);have a3:=FR (x.blk 3)
  omega
section
variable {M:MemM} {s:BH} {X:DZ} {T:Nat→Λ} {k n0:Nat} {sp:Int} {S:Λ}
theorem FilOk.blk (H:FilOk s X T) {i:Nat} (hi:i<4) (j:Nat):(X i).blk j≠0↔j<(By ((T i).length:Int)).toNat:=by
  rw [Ab0 (H.k i hi) (H.y i hi),(H.s i hi).1]
  have h:=(H.s i hi).2
  exact (Ot (n0:=(By ((T i).length:Int)).toNat) (by unfold By;split<;>omega) h j).symm
theorem FilOk.tot (H:FilOk s X T):Jq X=(By ((T 0).length:Int)).toNat+(By ((T 1).length:Int)).toNat+(By ((T 2).length:Int)).toNat+(By ((T 3).length:Int)).toNat:=by
  have g:∀ i,i<4→nzI (X i)=(By ((T i).length:Int)).toNat:=fun i hi=>Agx (by have:=(H.s i hi).2;unfold By;split<;>omega) (H.blk hi)
  unfold Jq;rw [g 0 ω,g 1 ω,g 2 ω,g 3 ω]
theorem Aa6 (V:Vol M [] s 0) (x0:InoT) (hl:(CU s).length=16):KX M [] x0 n0=0∧∃ s1 c1,Vol M (JA M [] x0 n0) s1 c1∧c1≤1∧CU s1=CO x0 n0 (CU s) (4-n0)∧∀ a b,a≠3→s1 a b=s a b:=by
  have em:=Pv V
  have l16:=AI x0 n0 hl (4-n0)
  have z:=Np V (xs:=CO x0 n0 (CU s) (4-n0)) l16 ω
  unfold KX JA
  rw [em]
  by_cases h:CO x0 n0 (CU s) (4-n0)=CU s
  · rw [if_pos h,if_pos h]
    exact ⟨rfl,s,0,V,ω,h.symm,fun _ _ _=>rfl⟩
  · rw [if_neg h,if_neg h]
    exact ⟨z.1,_,1,z.2,ω,QE l16,fun a b e=>FC fun q=>e q.1⟩
theorem Acx (V:Vol M [] s 0) (H:FilOk s X T) (hk:k<4) (hS:S.length≤256) (hsp:-9223372036854775808≤sp∧sp≤9223372036854775807) (hn:By (S.length:Int)=(n0:Int)) (hr:∀ j,j<n0→(X k).blk j=0→((2+Jq (DA X k AS)+n0:Nat):Int)≤128-max sp 0) :
    ∃ y z P1 P2,SetH M [] ((k:Int)+2) sp (X k) y z n0 S P1 P2∧∃ s' c',c'≤20∧Vol M (BE M (wrP M z (rzL S (n0*64)) P2 n0) ((k:Int)+2) z) s' c'∧FilOk s' (DA X k z) (RW T k S)∧∀ i:Int,i≠(k:Int)+2→s' 4 i=s 4 i:=by
  have hn4:n0≤4:=JT hn ω
  have hsz:S.length≤n0*64:=by have:=QL hn ω;omega
  have H0:MapOk (CU s) (DA X k (szX (X k) (S.length:Int))):=H.m.congr fun i j=>by
    unfold DA;split
    · next e=>rw [e];rfl
    · rfl
  obtain ⟨C1,C2,C3,C4⟩:=UC (n0:=n0) hk H0 (4-n0) ω
  obtain ⟨hcE,s1,c1,V1,hc1,em1,es1⟩:=Aa6 (n0:=n0) V (szX (X k) (S.length:Int)) H.m.l
  have hz:∀ j,n0≤j→(Bw (szX (X k) (S.length:Int)) n0 (4-n0)).blk j=0:=fun j hj=>by
    by_cases h4:j<4
    · rw [C4,if_pos ω]
    · exact Aa1 _ ω
  have fE:Em M [] ((k:Int)+2)=0∧IM M [] ((k:Int)+2)=X k:=by
    have hE:AR M [] ((k:Int)+2)=0:=(Ft V _).trans (H.e k hk)
    have hR:Am M [] ((k:Int)+2)=X k:=(Gj V _).trans (H.x k hk)
    have h1:=H.k k hk
    unfold Em IM
    rw [hR,hE]
    constructor<;>simp [h1]
  have al:=Adw (sp:=sp) V1 ω hk hn4 (by rw [em1];exact C1) hz (fun j hj h=>hr j hj (by rw [C4,if_neg ω] at h;exact h))
  obtain ⟨s2,c2,A,_⟩:=al n0 (Nat.le_refl _)
  generalize hzz:alS M sp (Bw (szX (X k) (S.length:Int)) n0 (4-n0)) (JA M [] (szX (X k) (S.length:Int)) n0) n0=zz at A
  obtain ⟨z,P2⟩:=zz
  dsimp only at A
  have zi:∀ j,z.blk j≠0↔j<n0:=fun j=>⟨fun h=>Classical.byContradiction fun q=>h ((A.hi j ω).trans (hz j ω)),A.lo j⟩
  have zu:∀ j,z.blk j≠0→1≤z.blk j∧z.blk j≤128:=fun j h=>by
    have:=A.m.u k j hk (by rw [Dm];exact h)
    rw [Dm] at this;exact In this
  have zd:∀ j j',z.blk j≠0→z.blk j=z.blk j'→j=j':=fun j j' h e=>(A.m.d k k j j' hk hk (by rw [Dm];exact h) (by rw [Dm];exact e)).2
  have ac:=A.c
  obtain ⟨s3,V3,_,g1,g2⟩:=Aan (z:=z) A.v ω hn4 (Gb S (n0*64)) (fun j hj=>zu j ((zi j).2 hj)) (fun j j' hj e=>zd j j' ((zi j).2 hj) e) n0 (Nat.le_refl _)
  have wr:=Aan (z:=z) A.v ω hn4 (Gb S (n0*64)) (fun j hj=>zu j ((zi j).2 hj)) (fun j j' hj e=>zd j j' ((zi j).2 hj) e)
  have rz:Kd z (X k):=MX A.r.1 (MX C2 ⟨rfl,rfl,rfl,rfl,rfl,rfl,rfl,rfl,rfl,rfl⟩)
  have zs:z.s=(S.length:Int):=A.r.2.trans C3
  have hm:Cn z=true:=Ab1 (H.k k hk) (H.y k hk) rz zs hS (fun j=>(zi j).trans (Ot hn hS j)) (fun j=>by
    by_cases h:z.blk j=0
    · omega
    · have:=zu j h;omega) zd
  have hp:Ez z=0:=if_pos hm
  obtain ⟨q4,hq4⟩:=AZ (UO hk)
  have si:=GH V3 hq4 hp rfl (Acj _) ω
  refine ⟨_,z,_,P2,{
    fE:=fE.1
    fX:=fE.2
    l:=hS
    hsp:=hsp
    hn:=hn
    xb:=fun j=>by
      by_cases h:(X k).blk j=0
      · rw [h];decide
      · have:=In (H.m.u k j hk h);omega
    cX:=rfl
    cE:=hcE
    cP:=rfl
    al:=fun j hj h=>by obtain ⟨_,_,_,b⟩:=al j ω;exact b hj h
    hz:=hzz
    fd:=fun j hj=>AZ (Iz (zu j ((zi j).2 hj)))
    st:=fun j hj=>by obtain ⟨_,_,b,_⟩:=wr j ω;exact b hj
    sE:=si.1 },_,_,ω,si.2,?_⟩
  have e4:∀ i:Int,i≠(k:Int)+2→BW s3 4 ((k:Int)+2) (Ce z) 4 i=s 4 i:=fun i hi=>by
    rw [FC (fun q=>hi q.2),g1 _ _ (fun q=>absurd q (by decide)),A.n4,es1 _ _ (by decide)]
  have k4:BW s3 4 ((k:Int)+2) (Ce z) 4 ((k:Int)+2)=Ce z:=RY (by rw [V3.l7 hq4 (.inr (.inl rfl)),Oz hm];exact Nat.le_refl _)
  have e7:∀ b,BW s3 4 ((k:Int)+2) (Ce z) 7 b=s3 7 b:=fun b=>FC fun q=>absurd q.1 (by decide)
  have rd:=WP hm
  have em:CU (BW s3 4 ((k:Int)+2) (Ce z))=CU s2:=MF ((FC fun q=>absurd q.1 (by decide)).trans (g1 _ _ fun q=>absurd q (by decide)))
  refine ⟨⟨by rw [em];exact A.m,fun i hi=>?_,fun i hi=>?_,fun i hi=>?_,fun i hi=>?_,fun i hi=>?_,fun i hi=>?_⟩,e4⟩
  · by_cases e:i=k
    · subst e;unfold CF;rw [k4,if_pos (UO hi),if_pos rd.2]
    · rw [(FS (e4 ((i:Int)+2) ω)).1];exact H.e i hi
  · by_cases e:i=k
    · subst e;unfold CG;rw [k4,Dm];exact rd.1
    · rw [(FS (e4 ((i:Int)+2) ω)).2,Fh e];exact H.x i hi
  · by_cases e:i=k
    · subst e;rw [Dm,rz.1];exact H.k i hi
    · rw [Fh e];exact H.k i hi
  · by_cases e:i=k
    · subst e;rw [Dm];exact hm
    · rw [Fh e];exact H.y i hi
  · unfold RW
    by_cases e:i=k
    · subst e;rw [Dm,if_pos rfl];exact ⟨zs,hS⟩
    · rw [Fh e,if_neg e];exact H.s i hi
  · unfold RW
    by_cases e:i=k
    · subst e
      rw [Dm,if_pos rfl,hn,show ((n0:Int)).toNat=n0 by omega,IY (s:=s3) fun j _=>e7 _,XJ g2 n0 (Nat.le_refl _),List.take_of_length_le (l:=rzL S (n0*64)) (by rw [Gb];exact Nat.le_refl _),PO hsz]
      exact List.take_left' rfl
    · rw [Fh e,if_neg e]
      rw [IY (s:=s) fun j hj=>?_]
      · exact H.t i hi
      · have hb:=(H.blk hi j).2 hj
        have u1:CL (CU s1) ((X i).blk j)=true:=by
          have:=C1.u i j hi (by rw [Fh e];exact hb)
          rw [Fh e] at this;rw [em1];exact this
        rw [e7,g1 7 _ (fun _ j' hj' q=>e ((A.m.d i k j j' hi hk (by rw [Fh e];exact hb) (by rw [Fh e,Dm];exact q)).1)),(A.n7 _ u1).1,es1 _ _ (by decide)]
end
end
section
structure VolB where
 M:MemM
 v:Vol M [] s4S 0
theorem VB {w:World} {R:List Ch} (hS:Sep w R):CallsR prog 7 #[] w (fun v w'=>∃ K ta tc,∃ mv:VolB,∃ mx fx vx,v=π vx∧Sep w' (Ab vx 34 [π K.tg,π mx,π fx]::Ab fx 83 [π K.tg,π mx]::Ab mx 103 [π K.tg]::txP K ta tc mv.M []::R)):=
 Calls.mono (Aa0 (R:=R) hS) fun e w' z=>by
  obtain ⟨v,e1,K,ta,tc,M,mx,fx,vx,e2,hv,s⟩:=z
  exact ⟨v,e1,K,ta,tc,⟨M,hv⟩,mx,fx,vx,e2,s⟩
section
variable {w:World} {R:List Ch} {fx mx:Nat} {K:VolK} {ta:Ω} {tc:Nat} {M:MemM} {S:Λ}
def Ada (i e:Int):Prop:=(i<1∧e=1)∨(32<i∧e=1)∨(i=1∧e=13)∨(6≤i∧i≤32∧e=10)
theorem Abo {i:Int} (h:i<1∨32<i):Eu 4 i=false:=by
 cases q:Eu 4 i with
 | false=>rfl
 | true=>
  obtain ⟨p,hp⟩:=AZ q
  have k:=KB hp
  have z:=List.all_eq_true.1 (show (Bz.all fun x=>!decide (x.k=4)||(decide (1≤x.n)&&decide (x.n≤32)))=true from by decide +kernel) p k.1
  rw [k.2.1,k.2.2] at z
  simp at z;omega
theorem Adj {i:Int} (h:i<1∨32<i) (M:MemM):Em M [] i=1:=by
 have hE:AR M [] i=1:=by unfold AR;rw [Abo h];rfl
 unfold Em;rw [if_pos (by rw [hE];decide),hE]
theorem Acw:∀ j:Fin 27,CF s4S ((j.val:Int)+6)=0∧(CG s4S ((j.val:Int)+6)).k=0:=by decide +kernel
theorem Vf:CF s4S 1=0∧(CG s4S 1).k=2:=by decide +kernel
end
end
section
def T0F:Nat→Λ:=fun _=>[]
structure VolC where
  M:MemM
  s:BH
  X:DZ
  T:Nat→Λ
  v:Vol M [] s 0
  h:FilOk s X T
  r:∀ i:Int,(i<2∨5<i)→s 4 i=s4S 4 i
structure VolF where
  M:MemM
  P:List PtM
  s:BH
  c:Nat
  X:DZ
  T:Nat→Λ
  v:Vol M P s c
  hc:c≤20
  h:FilOk s X T
  r:∀ i:Int,(i<2∨5<i)→s 4 i=s4S 4 i
theorem Aea:FilOk s4S (fun _=>opX) T0F:=by
  have b0:∀ j,opX.blk j=0:=fun j=>match j with
    | 0=>rfl
    | 1=>rfl
    | 2=>rfl
    | 3=>rfl
    | n+4=>rfl
  exact ⟨⟨by decide +kernel,fun _ j _ h=>absurd (b0 j) h,fun _ _ j _ _ _ h=>absurd (b0 j) h,by decide +kernel⟩,fun k hk=>Afl ⟨k,hk⟩,fun k hk=>Acv k hk,fun _ _=>rfl,fun _ _=>by decide +kernel,fun _ _=>⟨rfl,Nat.zero_le 256⟩,fun _ _=>rfl⟩
def Aae (m:VolB):VolC:=⟨m.M,s4S,fun _=>opX,T0F,m.v,Aea,fun _ _=>rfl⟩
def ndT (T:Nat→Λ) (k:Nat):Nat:=(By ((T k).length:Int)).toNat
def Ahi (T:Nat→Λ):Nat→Int
  | 0=>2
  | k+1=>Ahi T k+((ndT T k:Nat):Int)
def szL (T:Nat→Λ):List Int:=[((T 0).length:Int),((T 1).length:Int),((T 2).length:Int),((T 3).length:Int)]
theorem VolC.cnt (V:VolC):((Du (As V.M []) 128).length:Int)=Ahi V.T 4:=by
  have c:=V.h.m.c
  have t:=V.h.tot
  rw [Pv V.v]
  show ((Ky (CU V.s):Nat):Int)=2+((ndT V.T 0:Nat):Int)+((ndT V.T 1:Nat):Int)+((ndT V.T 2:Nat):Int)+((ndT V.T 3:Nat):Int)
  unfold ndT;omega
theorem VolC.room (V:VolC) {k n0:Nat} (hk:k<4) (hn:n0≤4):((2+Jq (DA V.X k AS)+n0:Nat):Int)≤128-max 0 0:=by
  unfold Jq
  have a0:=Pz (DA V.X k AS 0);have a1:=Pz (DA V.X k AS 1);have a2:=Pz (DA V.X k AS 2);have a3:=Pz (DA V.X k AS 3)
  omega
section
variable {w:World} {R:List Ch} {fx mx:Nat} {K:VolK} {ta:Ω} {tc:Nat} {k:Nat} {S:Λ}
theorem QK (S:Λ):∃ n0:Nat,By (S.length:Int)=(n0:Int):=⟨(By (S.length:Int)).toNat,by unfold By;split<;>omega⟩
theorem Ahd (V:VolC) (hS:Sep w ([Ab fx 83 [π K.tg,π mx],mtC mx K,txP K ta tc V.M []]++R)) (hk:k<4) {i:Int} (hi:i=(k:Int)+2) (hl:S.length≤256) {sp:Int} (hsp:-9223372036854775808≤sp∧sp≤9223372036854775807) (hr:∀ n0:Nat,By (S.length:Int)=(n0:Int)→∀ j,j<n0→(V.X k).blk j=0→((2+Jq (DA V.X k AS)+n0:Nat):Int)≤128-max sp 0) :
    CallsR prog 16 #[π fx,ν i,σ S,ν sp] w (fun v w'=>∃ ta' tc',∃ V':VolF,v=ν 0∧Sep w' ([Ab fx 83 [π K.tg,π mx],mtC mx K,txP K ta' tc' V'.M V'.P]++R)∧V'.T=RW V.T k S):=by
  subst hi
  obtain ⟨n0,hn⟩:=QK S
  obtain ⟨y,z,P1,P2,H,s',c',hc,v',f',r'⟩:=Acx V.v V.h hk hl hsp hn (hr n0 hn)
  exact Calls.mono (Ads hS V.v.m H) fun e w' q=>by
    obtain ⟨v,e1,ta',tc',e2,s⟩:=q
    exact ⟨v,e1,ta',tc',⟨V.M,_,s',c',_,_,v',hc,f',fun i hi=>(r' i ω).trans (V.r i hi)⟩,e2,s,rfl⟩
theorem Afo (V:VolC) (hS:Sep w ([Ab fx 83 [π K.tg,π mx],mtC mx K,txP K ta tc V.M []]++R)) (hk:k<4) {i:Int} (hi:i=(k:Int)+2) (hl:S.length≤256) :
    CallsR prog 16 #[π fx,ν i,σ S,ν 0] w (fun v w'=>∃ ta' tc',∃ V':VolF,v=ν 0∧Sep w' ([Ab fx 83 [π K.tg,π mx],mtC mx K,txP K ta' tc' V'.M V'.P]++R)∧V'.T=RW V.T k S):=
  Ahd V hS hk hi hl (by decide) fun n0 hn _ _ _=>V.room hk (JT hn ω)
theorem XW (V:VolF) (hS:Sep w (txP K ta tc V.M V.P::R)):CallsR prog 12 #[pG K.tg] w (fun x w'=>∃ ta' tc',∃ V':VolC,x=ν 0∧Sep w' (txP K ta' tc' V'.M []::R)∧V'.T=V.T):=by
  have z:=V.v.com (by have:=V.hc;omega)
  exact Calls.mono (Hs hS z.1 z.2.1 rfl) fun e w' q=>by
    obtain ⟨v,e1,ta',tc',e2,s⟩:=q
    exact ⟨v,e1,ta',tc',⟨_,V.s,V.X,V.T,z.2.2,V.h,V.r⟩,e2,s,rfl⟩
theorem Pc {M:MemM} {P:List PtM} {s:BH} {c:Nat} {X:DZ} {T:Nat→Λ} (v:Vol M P s c) (h:FilOk s X T) (hS:Sep w ([Ab fx 83 [π K.tg,π mx],mtC mx K,txP K ta tc M P]++R)) (hk:k<4) {i:Int} (hi:i=(k:Int)+2) (hT:T k=S) :
    CallsR prog 13 #[π fx,ν i] w (fun v w'=>v=.tuple #[σ S,ν 0]∧Sep w' ([Ab fx 83 [π K.tg,π mx],mtC mx K,txP K ta tc M P]++R)):=by
  subst hT hi
  have hE:AR M P ((k:Int)+2)=0:=(Ft v _).trans (h.e k hk)
  have hR:Am M P ((k:Int)+2)=X k:=(Gj v _).trans (h.x k hk)
  have h1:=h.k k hk
  have fE:Em M P ((k:Int)+2)=0:=by unfold Em;rw [hR,hE];simp [h1]
  have fX:IM M P ((k:Int)+2)=X k:=by unfold IM;rw [hR,hE];simp [h1]
  have hs:=h.s k hk
  obtain ⟨n0,hn⟩:=QK (T k)
  have z:=XL (n0:=n0) hS v.m fE fX ω (by rw [hs.1];exact hn) fun j hj=>by
    have hb:=(h.blk hk j).2 (by rw [hn];omega)
    exact AZ (Iz (In (h.m.u k j hk hb)))
  have ht:=h.t k hk
  rw [hn,show ((n0:Int)).toNat=n0 by omega] at ht
  rw [XI v,hs.1,show ((((T k).length:Nat):Int)).toNat=(T k).length by omega,ht] at z
  exact z
def Ag9:InoT:=rtX 4 2 1
def Ag1:Nat→Int
  | 0=>0
  | k+1=>if Ag9.blk k≠0 then Ag1 k+1 else Ag1 k
def md4 (n:Nat):Nat:=n % 4
end
end
section
theorem Afg {r:RecM} (h:r.c<0∨r.c>1099511627776∨r.i<1∨r.i>32∨r.o<0∨r.o>256∨(r.d.length:Int)>64∨r.o+(r.d.length:Int)>256):BX r=false:=by
 cases q:BX r with
 | false=>rfl
 | true=>unfold BX at q;simp only [Bool.and_eq_true,decide_eq_true_eq] at q;omega
theorem Afh {r:RecM} (h:¬ (r.c<0∨r.c>1099511627776∨r.i<1∨r.i>32∨r.o<0∨r.o>256∨(r.d.length:Int)>64∨r.o+(r.d.length:Int)>256)):BX r=(!r.t||decide (r.d=[])):=by
 unfold BX
 rw [decide_eq_true (ω:r.o≥0),decide_eq_true (ω:r.o≤256),decide_eq_true (ω:(r.d.length:Int)≤64),decide_eq_true (ω:r.o+(r.d.length:Int)≤256),decide_eq_true (ω:r.c≥0),decide_eq_true (ω:r.c≤1099511627776),decide_eq_true (ω:r.i≥1),decide_eq_true (ω:r.i≤32)]
 simp
theorem Ac9 {X L:Λ} {k:Nat} (h:X=L++List.replicate k 0):X++[0]=L++List.replicate (k+1) 0:=by
 rw [h,List.append_assoc,List.replicate_succ']
section
variable {l d:Λ} {t:Bool} {o:Nat}
theorem Ade (h:t=false) (h2:d≠[]) (h3:o+d.length<l.length):FO l t o d=rzL l o++d++l.drop (rzL l o++d).length:=by
 unfold FO
 rw [if_neg (by rw [h];decide),if_neg h2,Nat.max_eq_right ω,LN (Nat.le_refl l.length),LN (ω:o≤l.length),List.take_length,List.length_append,List.length_take,Nat.min_eq_left ω]
theorem Af9 (h:t=false) (h2:d≠[]) (h3:¬ o+d.length<l.length):FO l t o d=rzL l o++d:=by
 unfold FO
 have e:(rzL l (o+d.length)).take o=rzL l o:=by
  unfold rzL
  rw [List.take_append,List.take_take,Nat.min_eq_left ω,List.take_replicate,List.length_take]
  congr 2
  omega
 rw [if_neg (by rw [h];decide),if_neg h2,Nat.max_eq_left ω,e,List.drop_of_length_le (by rw [Gb];exact Nat.le_refl _),List.append_nil]
end
theorem Aff {w:World} {R:List Ch} {r:RecM} (hS0:Sep w ([]++R)) (hd:r.d.length≤1000000) :
  CallsR prog 29 #[.agg #[ν r.c,ν r.i,.bool r.t,ν r.o,σ r.d]] w (fun v w'=>v=.bool (BX r)∧Sep w' ([]++R)):=by
 have hS:Sep w [Ch.many R]:=Sep.tail_many (xs:=[]) hS0;clear hS0
 refine AL func29 rfl (N:=54) ntmps29 (by show 1≤54;decide) [(0,.agg #[ν r.c,ν r.i,.bool r.t,ν r.o,σ r.d])] rfl fun _ h1=>sqr fun _ hK3=>so (wn rfl) fun _ hK1=>FM h1 rfl rfl rfl rfl rfl (z:=[ν r.c,ν r.i,.bool r.t,ν r.o,σ r.d]) rfl hS fun _ g4 w7 h5 s8 _ _=>hK1 _ _ ?_
 refine mv h5 rfl fun _ h2=>wpList_nil<|hK3 _ _<|sq fun _ hK2=>sqr fun _ hK4=>fav h2 rfl (fQ 0) fun _ h3=>ldv h3 s8 0 υ3 rfl rfl rfl rfl fun _ h4=>bv h4 (z:=.bool (decide (r.c<0))) rfl (cLt _ _ _ _ rfl) fun _ h6=>mv h6 rfl fun _ h7=>sg h7 (wF h7 rfl rfl rfl) rfl rfl rfl (v:=π g4) (fun hC1=>rfa h7 rfl rfl (fQ 0) _) fun _ h8=>sg h8 (wF h8 rfl rfl rfl) rfl rfl rfl (v:=ν r.c) (fun hC2=>(rld h8 rfl (opg rfl hC2) (ldB υ3 rfl (s8.get 0 rfl:Blk _ _ _ _) rfl))) fun _ h9=>sg h9 (wF h9 rfl rfl rfl) rfl rfl rfl (v:=.bool (decide (r.c>1099511627776))) (fun hC3=>BN h9 rfl (opg rfl hC3) rfl (cGt _ _ _ _ rfl) _) fun _ h10=>?_
 refine sv1 h10 rfl (v:=.bool ((decide (r.c<0))||(decide (r.c>1099511627776)))) (DI h10 rfl (E:=(decide (r.c<0))) (F:=(decide (r.c>1099511627776))) rfl rfl rfl (fun e=>if_pos (by rw [e];try rfl))) fun _ h11=>mv h11 rfl fun _ h12=>sg h12 (wF h12 rfl rfl rfl) rfl rfl rfl (v:=.pointer (some ⟨g4,1,none⟩)) (fun hC4=>rfa h12 rfl rfl (fQ 1) _) fun _ h13=>sg h13 (wF h13 rfl rfl rfl) rfl rfl rfl (v:=ν r.i) (fun hC5=>(rld h13 rfl (opg rfl hC5) (ldB υ3 rfl (s8.get 0 rfl:Blk _ _ _ _) rfl))) fun _ h14=>sg h14 (wF h14 rfl rfl rfl) rfl rfl rfl (v:=.bool (decide (r.i<1))) (fun hC6=>BN h14 rfl (opg rfl hC6) rfl (cLt _ _ _ _ rfl) _) fun _ h15=>sv1 h15 rfl (v:=.bool (((decide (r.c<0))||(decide (r.c>1099511627776)))||(decide (r.i<1)))) (DI h15 rfl (E:=((decide (r.c<0))||(decide (r.c>1099511627776)))) (F:=(decide (r.i<1))) rfl rfl rfl (fun e=>if_pos (by rw [e];try rfl))) fun _ h16=>mv h16 rfl fun _ h17=>sg h17 (wF h17 rfl rfl rfl) rfl rfl rfl (v:=.pointer (some ⟨g4,1,none⟩)) (fun hC7=>rfa h17 rfl rfl (fQ 1) _) fun _ h18=>sg h18 (wF h18 rfl rfl rfl) rfl rfl rfl (v:=ν r.i) (fun hC8=>(rld h18 rfl (opg rfl hC8) (ldB υ3 rfl (s8.get 0 rfl:Blk _ _ _ _) rfl))) fun _ h19=>sg h19 (wF h19 rfl rfl rfl) rfl rfl rfl (v:=.bool (decide (r.i>32))) (fun hC9=>BN h19 rfl (opg rfl hC9) rfl (cGt _ _ _ _ rfl) _) fun _ h20=>?_
 refine sv1 h20 rfl (v:=.bool ((((decide (r.c<0))||(decide (r.c>1099511627776)))||(decide (r.i<1)))||(decide (r.i>32)))) (DI h20 rfl (E:=(((decide (r.c<0))||(decide (r.c>1099511627776)))||(decide (r.i<1)))) (F:=(decide (r.i>32))) rfl rfl rfl (fun e=>if_pos (by rw [e];try rfl))) fun _ h21=>mv h21 rfl fun _ h22=>sg h22 (wF h22 rfl rfl rfl) rfl rfl rfl (v:=.pointer (some ⟨g4,3,none⟩)) (fun hC10=>rfa h22 rfl rfl (fQ 3) _) fun _ h23=>sg h23 (wF h23 rfl rfl rfl) rfl rfl rfl (v:=ν r.o) (fun hC11=>(rld h23 rfl (opg rfl hC11) (ldB υ3 rfl (s8.get 0 rfl:Blk _ _ _ _) rfl))) fun _ h24=>sg h24 (wF h24 rfl rfl rfl) rfl rfl rfl (v:=.bool (decide (r.o<0))) (fun hC12=>BN h24 rfl (opg rfl hC12) rfl (cLt _ _ _ _ rfl) _) fun _ h25=>sv1 h25 rfl (v:=.bool (((((decide (r.c<0))||(decide (r.c>1099511627776)))||(decide (r.i<1)))||(decide (r.i>32)))||(decide (r.o<0)))) (DI h25 rfl (E:=((((decide (r.c<0))||(decide (r.c>1099511627776)))||(decide (r.i<1)))||(decide (r.i>32)))) (F:=(decide (r.o<0))) rfl rfl rfl (fun e=>if_pos (by rw [e];try rfl))) fun _ h26=>mv h26 rfl fun _ h27=>sg h27 (wF h27 rfl rfl rfl) rfl rfl rfl (v:=.pointer (some ⟨g4,3,none⟩)) (fun hC13=>rfa h27 rfl rfl (fQ 3) _) fun _ h28=>sg h28 (wF h28 rfl rfl rfl) rfl rfl rfl (v:=ν r.o) (fun hC14=>(rld h28 rfl (opg rfl hC14) (ldB υ3 rfl (s8.get 0 rfl:Blk _ _ _ _) rfl))) fun _ h29=>sg h29 (wF h29 rfl rfl rfl) rfl rfl rfl (v:=.bool (decide (r.o>256))) (fun hC15=>BN h29 rfl (opg rfl hC15) rfl (cGt _ _ _ _ rfl) _) fun _ h30=>?_
 refine sv1 h30 rfl (v:=.bool ((((((decide (r.c<0))||(decide (r.c>1099511627776)))||(decide (r.i<1)))||(decide (r.i>32)))||(decide (r.o<0)))||(decide (r.o>256)))) (DI h30 rfl (E:=(((((decide (r.c<0))||(decide (r.c>1099511627776)))||(decide (r.i<1)))||(decide (r.i>32)))||(decide (r.o<0)))) (F:=(decide (r.o>256))) rfl rfl rfl (fun e=>if_pos (by rw [e];try rfl))) fun _ h31=>mv h31 rfl fun _ h32=>sg h32 (wF h32 rfl rfl rfl) rfl rfl rfl (v:=.pointer (some ⟨g4,4,none⟩)) (fun hC16=>rfa h32 rfl rfl (fQ 4) _) fun _ h33=>sg h33 (wF h33 rfl rfl rfl) rfl rfl rfl (v:=σ r.d) (fun hC17=>(rld h33 rfl (opg rfl hC17) (ldB υ9 rfl (s8.get 0 rfl:Blk _ _ _ _) rfl))) fun _ h34=>sg h34 (wF h34 rfl rfl rfl) rfl rfl rfl (v:=ν (r.d.length:Int)) (fun hC18=>Da h34 rfl (opg rfl hC18) υ9 _) fun _ h35=>sg h35 (wF h35 rfl rfl rfl) rfl rfl rfl (v:=.bool (decide ((r.d.length:Int)>64))) (fun hC19=>BN h35 rfl (opg rfl hC19) rfl (cGt _ _ _ _ rfl) _) fun _ h36=>sv1 h36 rfl (v:=.bool (((((((decide (r.c<0))||(decide (r.c>1099511627776)))||(decide (r.i<1)))||(decide (r.i>32)))||(decide (r.o<0)))||(decide (r.o>256)))||(decide ((r.d.length:Int)>64)))) (DI h36 rfl (E:=((((((decide (r.c<0))||(decide (r.c>1099511627776)))||(decide (r.i<1)))||(decide (r.i>32)))||(decide (r.o<0)))||(decide (r.o>256)))) (F:=(decide ((r.d.length:Int)>64))) rfl rfl rfl (fun e=>if_pos (by rw [e];try rfl))) fun _ h37=>mv h37 rfl fun _ h38=>sg h38 (wF h38 rfl rfl rfl) rfl rfl rfl (v:=.pointer (some ⟨g4,3,none⟩)) (fun hC20=>rfa h38 rfl rfl (fQ 3) _) fun _ h39=>sg h39 (wF h39 rfl rfl rfl) rfl rfl rfl (v:=ν r.o) (fun hC21=>(rld h39 rfl (opg rfl hC21) (ldB υ3 rfl (s8.get 0 rfl:Blk _ _ _ _) rfl))) fun _ h40=>?_
 refine sg h40 (wF h40 rfl rfl rfl) rfl rfl rfl (v:=.pointer (some ⟨g4,4,none⟩)) (fun hC22=>rfa h40 rfl rfl (fQ 4) _) fun _ h41=>sg h41 (wF h41 rfl rfl rfl) rfl rfl rfl (v:=σ r.d) (fun hC23=>(rld h41 rfl (opg rfl hC23) (ldB υ9 rfl (s8.get 0 rfl:Blk _ _ _ _) rfl))) fun _ h42=>sg h42 (wF h42 rfl rfl rfl) rfl rfl rfl (v:=ν (r.d.length:Int)) (fun hC24=>Da h42 rfl (opg rfl hC24) υ9 _) fun _ h43=>sg h43 (wF h43 rfl rfl rfl) rfl rfl rfl (v:=ν (r.o+(r.d.length:Int))) (fun hC25=>by have hq:=(And.intro (And.intro (And.intro (And.intro (And.intro (And.intro (dF (orF (orF (orF (orF (orF (orF (Tq hC25)).1).1).1).1).1).1) (dF (orF (orF (orF (orF (orF (orF (Tq hC25)).1).1).1).1).1).2)) (dF (orF (orF (orF (orF (orF (Tq hC25)).1).1).1).1).2)) (dF (orF (orF (orF (orF (Tq hC25)).1).1).1).2)) (dF (orF (orF (orF (Tq hC25)).1).1).2)) (dF (orF (orF (Tq hC25)).1).2)) (dF (orF (Tq hC25)).2));exact BN h43 rfl (opg rfl hC25) (opg rfl hC25) (CP _ _ _ ω ω ω) _) fun _ h44=>sg h44 (wF h44 rfl rfl rfl) rfl rfl rfl (v:=.bool (decide (r.o+(r.d.length:Int)>256))) (fun hC26=>BN h44 rfl (opg rfl hC26) rfl (cGt _ _ _ _ rfl) _) fun _ h45=>sv1 h45 rfl (v:=.bool ((((((((decide (r.c<0))||(decide (r.c>1099511627776)))||(decide (r.i<1)))||(decide (r.i>32)))||(decide (r.o<0)))||(decide (r.o>256)))||(decide ((r.d.length:Int)>64)))||(decide (r.o+(r.d.length:Int)>256)))) (DI h45 rfl (E:=(((((((decide (r.c<0))||(decide (r.c>1099511627776)))||(decide (r.i<1)))||(decide (r.i>32)))||(decide (r.o<0)))||(decide (r.o>256)))||(decide ((r.d.length:Int)>64)))) (F:=(decide (r.o+(r.d.length:Int)>256))) rfl rfl rfl (fun e=>if_pos (by rw [e];try rfl))) fun _ h46=>h46.sn [45,2,1,0] rfl fun h47=>hK4 _ _ ?_
 rcases bC ((((((((decide (r.c<0))||(decide (r.c>1099511627776)))||(decide (r.i<1)))||(decide (r.i>32)))||(decide (r.o<0)))||(decide (r.o>256)))||(decide ((r.d.length:Int)>64)))||(decide (r.o+(r.d.length:Int)>256))) with hc1 | hc1
 ·skip
  have hp1:(((((((r.c<0)∨(r.c>1099511627776))∨(r.i<1))∨(r.i>32))∨(r.o<0))∨(r.o>256))∨((r.d.length:Int)>64))∨(r.o+(r.d.length:Int)>256):=((orT hc1).imp (fun q=>((orT q).imp (fun q=>((orT q).imp (fun q=>((orT q).imp (fun q=>((orT q).imp (fun q=>((orT q).imp (fun q=>((orT q).imp (fun q=>(dT q)) (fun q=>(dT q)))) (fun q=>(dT q)))) (fun q=>(dT q)))) (fun q=>(dT q)))) (fun q=>(dT q)))) (fun q=>(dT q)))) (fun q=>(dT q)))
  refine wcT h47 rfl hc1<|h47.sk [2,1,0] rfl fun h48=>sqr fun _ hK5=>h48.sk [1,0] rfl fun h49=>mv h49 rfl fun _ h50=>wpList_nil<|hK5 _ _<|wp_ret ?_
  try simp only [Exit.then,Exit.inBlock]
  refine Bj (v:=.bool false) (CV h50 rfl rfl) h50.defs ?_
  exact ⟨congrArg _ (Afg ω).symm,Sep.tail_un (xs:=[]) (s8.pk [1] rfl)⟩
 ·skip
  have hp2:(((((((¬ (r.c<0))∧(¬ (r.c>1099511627776)))∧(¬ (r.i<1)))∧(¬ (r.i>32)))∧(¬ (r.o<0)))∧(¬ (r.o>256)))∧(¬ ((r.d.length:Int)>64)))∧(¬ (r.o+(r.d.length:Int)>256)):=(And.intro (And.intro (And.intro (And.intro (And.intro (And.intro (And.intro (dF (orF (orF (orF (orF (orF (orF (orF hc1).1).1).1).1).1).1).1) (dF (orF (orF (orF (orF (orF (orF (orF hc1).1).1).1).1).1).1).2)) (dF (orF (orF (orF (orF (orF (orF hc1).1).1).1).1).1).2)) (dF (orF (orF (orF (orF (orF hc1).1).1).1).1).2)) (dF (orF (orF (orF (orF hc1).1).1).1).2)) (dF (orF (orF (orF hc1).1).1).2)) (dF (orF (orF hc1).1).2)) (dF (orF hc1).2))
  refine wcF h47 rfl hc1<|h47.sk [2,1,0] rfl fun h51=>wp_skip<|hK2 _ _<|sqr fun _ hK6=>fav h51 rfl (fQ 2) fun _ h52=>ldv h52 s8 0 υ4 rfl rfl rfl rfl fun _ h53=>mvs 2 h53 rfl fun _ h54=>sg h54 (wF h54 rfl rfl rfl) rfl rfl rfl (v:=.pointer (some ⟨g4,4,none⟩)) (fun hC27=>rfa h54 rfl rfl (fQ 4) _) fun _ h55=>sg h55 (wF h55 rfl rfl rfl) rfl rfl rfl (v:=σ r.d) (fun hC28=>(rld h55 rfl (opg rfl hC28) (ldB υ9 rfl (s8.get 0 rfl:Blk _ _ _ _) rfl))) fun _ h56=>sg h56 (wF h56 rfl rfl rfl) rfl rfl rfl (v:=.bool (decide (r.d=[]))) (fun hC29=>BN h56 rfl (opg rfl hC29) rfl (LE _ _ _ r.d [] rfl) _) fun _ h57=>?_
  refine sv1 h57 rfl (v:=.bool ((!r.t)||(decide (r.d=[])))) (DI h57 rfl (E:=(!r.t)) (F:=(decide (r.d=[]))) rfl rfl rfl (fun e=>if_pos (by rw [e];try rfl))) fun _ h58=>h58.sk [53,52,51,50,49,48,47,46,1,0] rfl fun h59=>mv h59 rfl fun _ h60=>h60.sn [2,1,0] rfl fun h61=>hK6 _ _<|wp_ret ?_
  try simp only [Exit.then,Exit.inBlock]
  refine Bj (v:=.bool ((!r.t)||(decide (r.d=[])))) (CV h61 rfl rfl) h61.defs ?_
  exact ⟨congrArg _ (Afh ω).symm,Sep.tail_un (xs:=[]) (s8.pk [1] rfl)⟩
theorem Vh {w:World} {R:List Ch} {L:Λ} {n:Nat} (hS0:Sep w ([]++R)) (hL:L.length≤1000000) (hn:n≤1000000) :
  CallsR prog 30 #[σ L,ν (n:Int)] w (fun v w'=>v=σ (rzL L n)∧Sep w' ([]++R)):=by
 have hS:Sep w [Ch.many R]:=Sep.tail_many (xs:=[]) hS0;clear hS0
 refine AL func30 rfl (N:=19) ntmps30 (by show 2≤19;decide) [(0,σ L),(1,ν (n:Int))] rfl fun _ h1=>sqr fun _ hK3=>mv h1 rfl fun _ h4=>wpList_nil<|hK3 _ _<|sq fun _ hK6=>sqr fun _ hK7=>mvs 2 h4 rfl fun _ h2=>sv1 h2 rfl (v:=ν (L.length:Int)) (Da h2 rfl rfl υ9) fun _ h3=>bv h3 (z:=.bool (decide ((n:Int)<(L.length:Int)))) rfl (cLt _ _ _ _ rfl) fun _ h5=>h5.sn [8,4,0,1] rfl fun h6=>hK7 _ _ ?_
 rcases bC (decide ((n:Int)<(L.length:Int))) with hc1 | hc1
 ·skip
  have hp1:(n:Int)<(L.length:Int):=(dT hc1)
  refine wcT h6 rfl hc1<|h6.sk [4,0,1] rfl fun h7=>sqr fun _ hK1=>mvs 2 h7 rfl fun _ h8=>sv1 h8 rfl (v:=σ (L.take n)) (PM h8 rfl rfl (vl:=none) (vh:=(some (ν (n:Int)))) rfl rfl (fun w=>(fun w=>((slT 9 υ9 L (a:=0) (b:=n) (.inl ⟨rfl,rfl⟩) (.inr ⟨_,rfl,rfl⟩) ω ω) w).trans (by rw [List.drop_zero])) w)) fun _ h9=>h9.sk [11,10,9,0,1] rfl fun h10=>mv h10 rfl fun _ h11=>h11.sn [4,0,1] rfl fun h12=>hK1 _ _<|wp_ret ?_
  try simp only [Exit.then,Exit.inBlock]
  refine Bj (v:=σ (L.take n)) (CV h12 rfl rfl) h12.defs ?_
  exact ⟨by rw [LN ω],Sep.tail_un (xs:=[]) hS⟩
 ·skip
  have hp2:¬ ((n:Int)<(L.length:Int)):=(dF hc1)
  refine wcF h6 rfl hc1<|h6.sk [4,0,1] rfl fun h13=>wp_skip<|hK6 _ _<|sq fun _ hK2=>wp_block ?_
  refine Sd (fun (k:Nat) (X:Λ) a' w'=>Kn 19 [(4,σ []),(0,σ X),(1,ν (n:Int))] a'∧Sep w' [Ch.many R]∧(X=L++List.replicate k 0)∧(X.length=L.length+k)∧(L.length+k≤n)) (fun (k:Nat) (X:Λ)=>n-k) 0 L ⟨h13.subs rfl,hS,(by simp),rfl,ω⟩ ?_
  rintro k1 X43 a1 w1 ⟨h14,s1,hX39,hl40,hk41⟩ K1 hK4
  refine sq fun _ hK5=>sqr fun _ hK8=>mv h14 rfl fun _ h15=>sv1 h15 rfl (v:=ν (X43.length:Int)) (Da h15 rfl rfl υ9) fun _ h16=>mv h16 rfl fun _ h17=>bv h17 (z:=.bool (decide ((X43.length:Int)<(n:Int)))) rfl (cLt _ _ _ _ rfl) fun _ h18=>h18.sn [15,4,0,1] rfl fun h19=>hK8 _ _ ?_
  rcases bC (decide ((X43.length:Int)<(n:Int))) with hc2 | hc2
  ·skip
   have hp3:(X43.length:Int)<(n:Int):=(dT hc2)
   refine wcT h19 rfl hc2<|h19.sk [4,0,1] rfl fun h20=>wp_skip<|hK5 _ _<|wp_block ?_
   refine wp_region_lit<|mv h20 rfl fun _ h21=>bv h21 (z:=σ (X43++[0])) rfl (Iq _ _ _ X43 [0] (by (try simp only [List.length_append,List.length_take,List.length_drop,List.length_cons,List.length_nil]);omega)) fun _ h22=>h22.sk [17,16,4,1] rfl fun h23=>mv h23 rfl fun _ h24=>h24.sk [0,4,1] rfl fun h25=>wpList_nil ?_
   exact hK4 (k1+1) (X43++[0]) _ _ ⟨h25.subs rfl,s1,(Ac9 hX39),(by rw [List.length_append,hl40];show _+1=_;omega),ω⟩ ω
  ·skip
   have hp4:¬ ((X43.length:Int)<(n:Int)):=(dF hc2)
   refine wcF h19 rfl hc2<|h19.sk [4,0,1] rfl fun h26=>wp_exit ?_
   refine hK2 _ _ ?_
   refine sqr fun _ hK9=>mv h26 rfl fun _ h27=>h27.sk [18,0,1] rfl fun h28=>mv h28 rfl fun _ h29=>h29.sn [4,0,1] rfl fun h30=>hK9 _ _<|wp_ret ?_
   try simp only [Exit.then,Exit.inBlock]
   refine Bj (v:=σ X43) (CV h30 rfl rfl) h30.defs ?_
   exact ⟨by rw [PO ω,hX39,show k1=n-L.length by omega],Sep.tail_un (xs:=[]) s1⟩
theorem OD {w:World} {R:List Ch} {c i o:Int} {t:Bool} {d:Λ} {b:Bool} (hS:Sep w R) (hd:d.length≤1000000) (hm:BX ⟨c,i,t,o,d⟩=b):CallsR prog 29 #[.agg #[ν c,ν i,.bool t,ν o,σ d]] w (fun v w'=>v=.bool b∧Sep w' R):=by
 subst hm;exact Aff (r:=⟨c,i,t,o,d⟩) (R:=R) hS hd
theorem TI {w:World} {R:List Ch} {L d:Λ} {c i:Int} {t:Bool} {o:Int} (hS0:Sep w ([]++R)) (hL:L.length≤1000000) (hd:d.length≤1000000) (hm:BX ⟨c,i,t,o,d⟩=false) :
  CallsR prog 11 #[σ L,.agg #[ν c,ν i,.bool t,ν o,σ d]] w (fun v w'=>v=.tuple #[σ [],ν 1]∧Sep w' ([]++R)):=by
 have hS:Sep w [Ch.many R]:=Sep.tail_many (xs:=[]) hS0;clear hS0
 refine AL func11 rfl (N:=44) ntmps11 (by show 2≤44;decide) [(0,σ L),(1,.agg #[ν c,ν i,.bool t,ν o,σ d])] rfl fun _ h1=>sqr fun _ hK3=>so (wn rfl) fun _ hK1=>FM h1 rfl rfl rfl rfl rfl (z:=[ν c,ν i,.bool t,ν o,σ d]) rfl hS fun _ g4 w7 h5 s8 _ _=>hK1 _ _ ?_
 refine mvs 2 h5 rfl fun _ h2=>wpList_nil<|hK3 _ _<|sqr fun _ hK2=>sw1 h2 rfl (v:=.agg #[ν c,ν i,.bool t,ν o,σ d]) (rld h2 rfl rfl (ldA υ27 rfl (n:=5) κ (s8.get 0 rfl:Blk _ _ _ _) rfl rfl)) fun _ h3=>cl h3 rfl (cF func29) (OD s8 hd hm) fun _ v1 w1 r1 h4=>?_
 obtain ⟨rfl,s1⟩:=r1
 refine mv h4 rfl fun _ h6=>h6.sn [6,5,4,3,0,1] rfl fun h7=>hK2 _ _<|sq fun _ hK4=>sqr fun _ hK5=>mvs 2 h7 rfl fun _ h8=>h8.sn [11,6,5,4,3,0,1] rfl fun h9=>hK5 _ _<|wcT h9 rfl rfl<|h9.sk [6,5,4,3,0,1] rfl fun h10=>sq fun _ hK6=>wp_region_lit ?_
 refine h10.sk [6,5,3,0,1] rfl fun h11=>mv h11 rfl fun _ h12=>h12.sk [4,6,3,0,1] rfl fun h13=>mv h13 rfl fun _ h14=>wpList_nil<|hK6 _ _<|wp_ret ?_
 try simp only [Exit.then,Exit.inBlock]
 refine Bj (v:=.tuple #[σ [],ν 1]) (Dx h14 rfl rfl rfl) h14.defs ?_
 exact ⟨rfl,Sep.tail_un (xs:=[]) (s1.pk [1] rfl)⟩
theorem TJ {w:World} {R:List Ch} {L d:Λ} {c i:Int} {t:Bool} {o:Nat} (hS0:Sep w ([]++R)) (hL:L.length≤1000000) (hd:d.length≤1000000) (hm:BX ⟨c,i,t,(o:Int),d⟩=true) :
  CallsR prog 11 #[σ L,.agg #[ν c,ν i,.bool t,ν (o:Int),σ d]] w (fun v w'=>v=.tuple #[σ (FN L t o d),ν (Fa L t o d)]∧Sep w' ([]++R)):=by
 have hS:Sep w [Ch.many R]:=Sep.tail_many (xs:=[]) hS0;clear hS0
 obtain ⟨ho,ho2,hd64⟩:=UT hm
 have hrz2:=Gb L o
 have hrz3:(rzL L o++d).length=o+d.length:=by rw [List.length_append,hrz2]
 refine AL func11 rfl (N:=44) ntmps11 (by show 2≤44;decide) [(0,σ L),(1,.agg #[ν c,ν i,.bool t,ν (o:Int),σ d])] rfl fun _ h1=>sqr fun _ hK3=>so (wn rfl) fun _ hK1=>FM h1 rfl rfl rfl rfl rfl (z:=[ν c,ν i,.bool t,ν (o:Int),σ d]) rfl hS fun _ g4 w7 h5 s8 _ _=>hK1 _ _ ?_
 refine mvs 2 h5 rfl fun _ h2=>wpList_nil<|hK3 _ _<|sqr fun _ hK2=>sw1 h2 rfl (v:=.agg #[ν c,ν i,.bool t,ν (o:Int),σ d]) (rld h2 rfl rfl (ldA υ27 rfl (n:=5) κ (s8.get 0 rfl:Blk _ _ _ _) rfl rfl)) fun _ h3=>cl h3 rfl (cF func29) (OD s8 hd hm) fun _ v1 w2 r1 h4=>?_
 obtain ⟨rfl,s1⟩:=r1
 refine mv h4 rfl fun _ h6=>h6.sn [6,5,4,3,0,1] rfl fun h7=>hK2 _ _<|sq fun _ hK4=>sqr fun _ hK5=>mvs 2 h7 rfl fun _ h8=>h8.sn [11,6,5,4,3,0,1] rfl fun h9=>hK5 _ _<|wcF h9 rfl rfl<|h9.sk [6,5,4,3,0,1] rfl fun h10=>wp_skip<|hK4 _ _ ?_
 refine sqr fun _ hK6=>mvs 2 h10 rfl fun _ h11=>h11.sn [7,6,5,4,3,0,1] rfl fun h12=>hK6 _ _<|sq fun _ hK7=>sqr fun _ hK8=>fav h12 rfl (fQ 2) fun _ h13=>ldv h13 s1 0 υ4 rfl rfl rfl rfl fun _ h14=>h14.sn [14,7,6,5,4,3,0,1] rfl fun h15=>hK8 _ _ ?_
 rcases bC t with hc1 | hc1
 ·skip
  refine wcT h15 rfl hc1<|h15.sk [7,6,5,4,3,0,1] rfl fun h16=>wp_region_lit<|mv h16 rfl fun _ h17=>fav h17 rfl (fQ 3) fun _ h18=>ldv h18 s1 0 υ3 rfl rfl rfl rfl fun _ h19=>cl h19 rfl (cF func30) (Vh s1 ω ω) fun _ v2 w3 r2 h20=>?_
  obtain ⟨rfl,s2⟩:=r2
  refine h20.sk [18,17,16,15,6,5,4,3,0,1] rfl fun h21=>mv h21 rfl fun _ h22=>h22.sn [7,6,5,4,3,0,1] rfl fun h23=>hK7 _ _<|sq fun _ hK9=>sqr fun _ hK10=>mv h23 rfl fun _ h24=>sv1 h24 rfl (v:=ν (((rzL L o).length:Nat):Int)) (Da h24 rfl rfl υ9) fun _ h25=>bv h25 rfl (cGt _ _ _ _ (decide_eq_false ω)) fun _ h26=>h26.sn [42,7,6,5,4,3,0,1] rfl fun h27=>hK10 _ _ ?_
  refine wcF h27 rfl rfl<|h27.sk [7,6,5,4,3,0,1] rfl fun h28=>wp_skip<|hK9 _ _<|sqr fun _ hK11=>mv h28 rfl fun _ h29=>h29.sk [43,7,6,5,3,0,1] rfl fun h30=>mv h30 rfl fun _ h31=>h31.sk [4,43,7,6,3,0,1] rfl fun h32=>mv h32 rfl fun _ h33=>h33.sk [5,4,7,6,3,0,1] rfl fun h34=>?_
  refine wpList_nil<|hK11 _ _<|wp_ret ?_
  try simp only [Exit.then,Exit.inBlock]
  refine Bj (v:=.tuple #[σ (rzL L o),ν 0]) (Dx h34 rfl rfl rfl) h34.defs ?_
  exact ⟨IZ (XQ hc1) ω,Sep.tail_un (xs:=[]) (s2.pk [1] rfl)⟩
 ·skip
  refine wcF h15 rfl hc1<|h15.sk [7,6,5,4,3,0,1] rfl fun h35=>sqr fun _ hK12=>fav h35 rfl (fQ 4) fun _ h36=>ldv h36 s1 0 υ9 rfl rfl rfl rfl fun _ h37=>bv h37 (z:=.bool (decide (d≠[]))) rfl (OY _ _ _ d [] rfl) fun _ h38=>h38.sn [21,7,6,5,4,3,0,1] rfl fun h39=>hK12 _ _ ?_
  rcases bC (decide (d≠[])) with hc2 | hc2
  ·skip
   have hp1:d≠[]:=(dT hc2)
   refine wcT h39 rfl hc2<|h39.sk [7,6,5,4,3,0,1] rfl fun h40=>sq fun _ hK13=>?_
   have s3:=s1.drew
   refine wp_region_held_drew (S:=fun w'=>Sep w' [Ab g4 27 [ν c,ν i,.bool t,ν (o:Int),σ d],Ch.many R]) κ s3 (fun hq1=>?_)
   refine tv1 hq1 h40 0 rfl rfl (v:=σ L) (fun w1 _=>(AF h40 rfl rfl) w1) fun _ h41=>?_
   refine tv1 hq1 h41 1 rfl rfl (v:=.pointer (some ⟨g4,3,none⟩)) (fun w1 _=>(rfa h41 rfl rfl (fQ 3)) w1) fun _ h42=>?_
   refine tv1 hq1 h42 2 rfl rfl (v:=ν (o:Int)) (fun w1 hSw=>(rld h42 rfl rfl (ldB υ3 rfl (hSw.get 0 rfl:Blk _ _ _ _) rfl))) fun _ h43=>?_
   refine tv1 hq1 h43 4 rfl rfl (v:=.pointer (some ⟨g4,4,none⟩)) (fun w1 _=>(rfa h43 rfl rfl (fQ 4)) w1) fun _ h44=>?_
   refine tv1 hq1 h44 5 rfl rfl (v:=σ d) (fun w1 hSw=>(rld h44 rfl rfl (ldB υ9 rfl (hSw.get 0 rfl:Blk _ _ _ _) rfl))) fun _ h45=>?_
   refine to_ 3 rfl (wn rfl) κ fun _ hK14=>BI h45 rfl rfl rfl (xs:=[.tmp 22,.tmp 24]) rfl (cF func30) rfl (vs:=[σ L,ν (o:Int)]) rfl (args:=#[σ L,ν (o:Int)]) rfl (Vh s3 ω ω) fun _ v3 w4 r3 h46=>?_
   obtain ⟨rfl,s4⟩:=r3
   refine hK14 _ _ s4 fun hq2=>?_
   refine tv1 hq2 h46 6 rfl rfl (v:=σ ((rzL L o)++d)) (fun w1 _=>(BN h46 rfl rfl rfl (Iq _ _ _ (rzL L o) d (by (try simp only [List.length_append,List.length_take,List.length_drop,List.length_cons,List.length_nil]);omega))) w1) fun _ h47=>?_
   refine h47.sk [28,25,27,26,24,23,22,6,5,4,3,0,1] rfl fun h48=>?_
   refine tv1 hq2 h48 7 rfl rfl (v:=σ ((rzL L o)++d)) (fun w1 _=>(Be h48 rfl rfl) w1) fun _ h49=>?_
   refine h49.sk [7,6,5,4,3,0,1] rfl fun h50=>?_
   refine wpAnyH_done κ ?_ _
   refine hK13 _ _ ?_
   refine sqr fun _ hK15=>mv h50 rfl fun _ h51=>sv1 h51 rfl (v:=ν (L.length:Int)) (Da h51 rfl rfl υ9) fun _ h52=>mv h52 rfl fun _ h53=>sv1 h53 rfl (v:=ν ((((rzL L o)++d).length:Nat):Int)) (Da h53 rfl rfl υ9) fun _ h54=>bv h54 (z:=.bool (decide ((L.length:Int)>((((rzL L o)++d).length:Nat):Int)))) rfl (cGt _ _ _ _ rfl) fun _ h55=>h55.sn [33,7,6,5,4,3,0,1] rfl fun h56=>hK15 _ _ ?_
   rcases bC (decide ((L.length:Int)>((((rzL L o)++d).length:Nat):Int))) with hc3 | hc3
   ·skip
    have hp2:(L.length:Int)>((((rzL L o)++d).length:Nat):Int):=(dT hc3)
    refine wcT h56 rfl hc3<|h56.sk [7,6,5,4,3,0,1] rfl fun h57=>wp_region_lit<|mvs 3 h57 rfl fun _ h58=>sv1 h58 rfl (v:=ν ((((rzL L o)++d).length:Nat):Int)) (Da h58 rfl rfl υ9) fun _ h59=>sv1 h59 rfl (v:=σ (L.drop (((rzL L o)++d).length))) (PM h59 rfl rfl (vl:=(some (ν ((((rzL L o)++d).length:Nat):Int)))) (vh:=none) rfl rfl (fun w=>(fun w=>((slT 9 υ9 L (a:=((rzL L o)++d).length) (b:=L.length) (.inr ⟨_,rfl,rfl⟩) (.inl ⟨rfl,rfl⟩) ω ω) w).trans (by rw [List.take_length])) w)) fun _ h60=>bv h60 (z:=σ (((rzL L o)++d)++(L.drop (((rzL L o)++d).length)))) rfl (Iq _ _ _ ((rzL L o)++d) (L.drop (((rzL L o)++d).length)) (by (try simp only [List.length_append,List.length_take,List.length_drop,List.length_cons,List.length_nil]);omega)) fun _ h61=>h61.sk [39,38,37,36,35,34,6,5,4,3,0,1] rfl fun h62=>mv h62 rfl fun _ h63=>h63.sk [7,6,5,4,3,0,1] rfl fun h64=>?_
    refine wpList_nil<|hK7 _ _<|sq fun _ hK16=>sqr fun _ hK17=>mv h64 rfl fun _ h65=>sv1 h65 rfl (v:=ν (((((rzL L o)++d)++(L.drop (((rzL L o)++d).length))).length:Nat):Int)) (Da h65 rfl rfl υ9) fun _ h66=>bv h66 (z:=.bool (decide ((((((rzL L o)++d)++(L.drop (((rzL L o)++d).length))).length:Nat):Int)>256))) rfl (cGt _ _ _ _ rfl) fun _ h67=>h67.sn [42,7,6,5,4,3,0,1] rfl fun h68=>hK17 _ _ ?_
    rcases bC (decide ((((((rzL L o)++d)++(L.drop (((rzL L o)++d).length))).length:Nat):Int)>256)) with hc4 | hc4
    ·skip
     have hp3:(((((rzL L o)++d)++(L.drop (((rzL L o)++d).length))).length:Nat):Int)>256:=(dT hc4)
     refine wcT h68 rfl hc4<|h68.sk [7,6,5,4,3,0,1] rfl fun h69=>sqr fun _ hK18=>h69.sk [7,6,5,3,0,1] rfl fun h70=>mv h70 rfl fun _ h71=>h71.sk [4,7,6,3,0,1] rfl fun h72=>mv h72 rfl fun _ h73=>wpList_nil<|hK18 _ _<|wp_ret ?_
     try simp only [Exit.then,Exit.inBlock]
     refine Bj (v:=.tuple #[σ [],ν 19]) (Dx h73 rfl rfl rfl) h73.defs ?_
     exact ⟨Jz (Ade hc1 hp1 ω) (by have z:=hp3;omega),Sep.tail_un (xs:=[]) (s4.pk [1] rfl)⟩
    ·skip
     have hp4:¬ ((((((rzL L o)++d)++(L.drop (((rzL L o)++d).length))).length:Nat):Int)>256):=(dF hc4)
     refine wcF h68 rfl hc4<|h68.sk [7,6,5,4,3,0,1] rfl fun h74=>wp_skip<|hK16 _ _<|sqr fun _ hK19=>mv h74 rfl fun _ h75=>h75.sk [43,7,6,5,3,0,1] rfl fun h76=>mv h76 rfl fun _ h77=>h77.sk [4,43,7,6,3,0,1] rfl fun h78=>mv h78 rfl fun _ h79=>h79.sk [5,4,7,6,3,0,1] rfl fun h80=>?_
     refine wpList_nil<|hK19 _ _<|wp_ret ?_
     try simp only [Exit.then,Exit.inBlock]
     refine Bj (v:=.tuple #[σ (((rzL L o)++d)++(L.drop (((rzL L o)++d).length))),ν 0]) (Dx h80 rfl rfl rfl) h80.defs ?_
     exact ⟨IZ (Ade hc1 hp1 ω) (by have z:=hp4;omega),Sep.tail_un (xs:=[]) (s4.pk [1] rfl)⟩
   ·skip
    have hp5:¬ ((L.length:Int)>((((rzL L o)++d).length:Nat):Int)):=(dF hc3)
    refine wcF h56 rfl hc3<|h56.sk [7,6,5,4,3,0,1] rfl fun h81=>wp_skip<|hK7 _ _<|sq fun _ hK20=>sqr fun _ hK21=>mv h81 rfl fun _ h82=>sv1 h82 rfl (v:=ν ((((rzL L o)++d).length:Nat):Int)) (Da h82 rfl rfl υ9) fun _ h83=>bv h83 rfl (cGt _ _ _ _ (decide_eq_false ω)) fun _ h84=>h84.sn [42,7,6,5,4,3,0,1] rfl fun h85=>hK21 _ _<|wcF h85 rfl rfl ?_
    refine h85.sk [7,6,5,4,3,0,1] rfl fun h86=>wp_skip<|hK20 _ _<|sqr fun _ hK22=>mv h86 rfl fun _ h87=>h87.sk [43,7,6,5,3,0,1] rfl fun h88=>mv h88 rfl fun _ h89=>h89.sk [4,43,7,6,3,0,1] rfl fun h90=>mv h90 rfl fun _ h91=>h91.sn [5,4,7,6,3,0,1] rfl fun h92=>hK22 _ _ ?_
    refine wp_ret ?_
    try simp only [Exit.then,Exit.inBlock]
    refine Bj (v:=.tuple #[σ ((rzL L o)++d),ν 0]) (Dx h92 rfl rfl rfl) h92.defs ?_
    exact ⟨IZ (Af9 hc1 hp1 ω) ω,Sep.tail_un (xs:=[]) (s4.pk [1] rfl)⟩
  ·skip
   have hp6:¬ (d≠[]):=(dF hc2)
   refine wcF h39 rfl hc2<|h39.sk [7,6,5,4,3,0,1] rfl fun h93=>wp_skip<|hK7 _ _<|sq fun _ hK23=>sqr fun _ hK24=>mv h93 rfl fun _ h94=>sv1 h94 rfl (v:=ν (L.length:Int)) (Da h94 rfl rfl υ9) fun _ h95=>bv h95 (z:=.bool (decide ((L.length:Int)>256))) rfl (cGt _ _ _ _ rfl) fun _ h96=>h96.sn [42,7,6,5,4,3,0,1] rfl fun h97=>hK24 _ _ ?_
   rcases bC (decide ((L.length:Int)>256)) with hc5 | hc5
   ·skip
    have hp7:(L.length:Int)>256:=(dT hc5)
    refine wcT h97 rfl hc5<|h97.sk [7,6,5,4,3,0,1] rfl fun h98=>sqr fun _ hK25=>h98.sk [7,6,5,3,0,1] rfl fun h99=>mv h99 rfl fun _ h100=>h100.sk [4,7,6,3,0,1] rfl fun h101=>mv h101 rfl fun _ h102=>wpList_nil<|hK25 _ _<|wp_ret ?_
    try simp only [Exit.then,Exit.inBlock]
    refine Bj (v:=.tuple #[σ [],ν 19]) (Dx h102 rfl rfl rfl) h102.defs ?_
    exact ⟨Jz (UA hc1 hp6) (by have z:=hp7;omega),Sep.tail_un (xs:=[]) (s1.pk [1] rfl)⟩
   ·skip
    have hp8:¬ ((L.length:Int)>256):=(dF hc5)
    refine wcF h97 rfl hc5<|h97.sk [7,6,5,4,3,0,1] rfl fun h103=>wp_skip<|hK23 _ _<|sqr fun _ hK26=>mv h103 rfl fun _ h104=>h104.sk [43,7,6,5,3,0,1] rfl fun h105=>mv h105 rfl fun _ h106=>h106.sk [4,43,7,6,3,0,1] rfl fun h107=>mv h107 rfl fun _ h108=>h108.sk [5,4,7,6,3,0,1] rfl fun h109=>?_
    refine wpList_nil<|hK26 _ _<|wp_ret ?_
    try simp only [Exit.then,Exit.inBlock]
    refine Bj (v:=.tuple #[σ L,ν 0]) (Dx h109 rfl rfl rfl) h109.defs ?_
    exact ⟨IZ (UA hc1 hp6) (by have z:=hp8;omega),Sep.tail_un (xs:=[]) (s1.pk [1] rfl)⟩
end
section
theorem Aa4 {l d:Λ} {t:Bool} {o:Nat}:(FN l t o d).length≤256:=by
 unfold FN;split
 ·exact Nat.zero_le _
 ·omega
theorem Uv {w:World} {R:List Ch} {fx mx:Nat} {K:VolK} {ta:Ω} {tc:Nat} {c i:Int} {t:Bool} {d:Λ} {o:Int} {M:MemM} {P:List PtM} (hS0:Sep w ([Ab fx 83 [π K.tg,π mx],Ab mx 103 [π K.tg],txP K ta tc M P]++R)) (hM:M.V.length=23168) (hd:d.length≤1000000) (hm:BX ⟨c,i,t,o,d⟩=false) :
  CallsR prog 9 #[π fx,.agg #[ν c,ν i,.bool t,ν o,σ d],ν 0] w (fun v w'=>v=ν 1∧Sep w' ([Ab fx 83 [π K.tg,π mx],Ab mx 103 [π K.tg],txP K ta tc M P]++R)):=by
 have hS:Sep w [Ab fx 83 [π K.tg,π mx],Ab mx 103 [π K.tg],txP K ta tc M P,Ch.many R]:=Sep.tail_many (xs:=[_,_,_]) hS0;clear hS0
 refine AL func9 rfl (N:=37) ntmps9 (by show 3≤37;decide) [(0,π fx),(1,.agg #[ν c,ν i,.bool t,ν o,σ d]),(2,ν 0)] rfl fun _ h1=>sqr fun _ hK3=>so (wn rfl) fun _ hK1=>FM h1 rfl rfl rfl rfl rfl (z:=[ν c,ν i,.bool t,ν o,σ d]) rfl hS fun _ g4 w7 h5 s8 _ _=>hK1 _ _ ?_
 refine mv h5 rfl fun _ h2=>wpList_nil<|hK3 _ _<|sq fun _ hK2=>sqr fun _ hK4=>sw1 h2 rfl (v:=.agg #[ν c,ν i,.bool t,ν o,σ d]) (rld h2 rfl rfl (ldA υ27 rfl (n:=5) κ (s8.get 0 rfl:Blk _ _ _ _) rfl rfl)) fun _ h3=>cl h3 rfl (cF func27) (Ib s8 ω hm) fun _ v1 w1 r1 h4=>?_
 obtain ⟨rfl,s1⟩:=r1
 refine mv h4 rfl fun _ h6=>h6.sn [11,6,4,0,1,2] rfl fun h7=>hK4 _ _<|wcT h7 rfl rfl<|h7.sk [6,4,0,1,2] rfl fun h8=>sqr fun _ hK5=>h8.sk [4,0,1,2] rfl fun h9=>mv h9 rfl fun _ h10=>wpList_nil<|hK5 _ _<|wp_ret ?_
 try simp only [Exit.then,Exit.inBlock]
 refine Bj (v:=ν 1) (CV h10 rfl rfl) h10.defs ?_
 exact ⟨rfl,Sep.tail_un (xs:=[_,_,_]) (s1.pk [1,2,3,4] rfl)⟩
theorem Aaw {w:World} {R:List Ch} {fx mx:Nat} {K:VolK} {ta:Ω} {tc:Nat} {c i:Int} {t:Bool} {d:Λ} {o:Int} {M:MemM} {P:List PtM} (hS0:Sep w ([Ab fx 83 [π K.tg,π mx],Ab mx 103 [π K.tg],txP K ta tc M P]++R)) (hM:M.V.length=23168) (hd:d.length≤1000000) (hm:BX ⟨c,i,t,o,d⟩=true) (hfE:Em M P i≠0) :
  CallsR prog 9 #[π fx,.agg #[ν c,ν i,.bool t,ν o,σ d],ν 0] w (fun v w'=>v=ν (Em M P i)∧Sep w' ([Ab fx 83 [π K.tg,π mx],Ab mx 103 [π K.tg],txP K ta tc M P]++R)):=by
 have hS:Sep w [Ab fx 83 [π K.tg,π mx],Ab mx 103 [π K.tg],txP K ta tc M P,Ch.many R]:=Sep.tail_many (xs:=[_,_,_]) hS0;clear hS0
 refine AL func9 rfl (N:=37) ntmps9 (by show 3≤37;decide) [(0,π fx),(1,.agg #[ν c,ν i,.bool t,ν o,σ d]),(2,ν 0)] rfl fun _ h1=>sqr fun _ hK3=>so (wn rfl) fun _ hK1=>FM h1 rfl rfl rfl rfl rfl (z:=[ν c,ν i,.bool t,ν o,σ d]) rfl hS fun _ g4 w7 h5 s8 _ _=>hK1 _ _ ?_
 refine mv h5 rfl fun _ h2=>wpList_nil<|hK3 _ _<|sq fun _ hK2=>sqr fun _ hK4=>sw1 h2 rfl (v:=.agg #[ν c,ν i,.bool t,ν o,σ d]) (rld h2 rfl rfl (ldA υ27 rfl (n:=5) κ (s8.get 0 rfl:Blk _ _ _ _) rfl rfl)) fun _ h3=>cl h3 rfl (cF func27) (Ib s8 ω hm) fun _ v1 w1 r1 h4=>?_
 obtain ⟨rfl,s1⟩:=r1
 refine mv h4 rfl fun _ h6=>h6.sn [11,6,4,0,1,2] rfl fun h7=>hK4 _ _<|wcF h7 rfl rfl<|h7.sk [6,4,0,1,2] rfl fun h8=>wp_skip<|hK2 _ _<|sqr fun _ hK5=>mv h8 rfl fun _ h9=>fav h9 rfl (fQ 1) fun _ h10=>ldv h10 s1 0 υ3 rfl rfl rfl rfl fun _ h11=>?_
 refine cl h11 rfl (cF func13) (XK (s1.pk [1,2,3,0,4] rfl) hM hfE) fun _ v2 w2 r2 h12=>?_
 obtain ⟨rfl,s2⟩:=r2
 refine mvs 5 h12 rfl fun _ h13=>h13.sn [8,7,6,4,0,1,2] rfl fun h14=>hK5 _ _<|sq fun _ hK6=>sqr fun _ hK7=>mv h14 rfl fun _ h15=>bv h15 (z:=.bool true) rfl (cNe _ _ _ _ (decide_eq_true ω)) fun _ h16=>h16.sn [20,8,7,6,4,0,1,2] rfl fun h17=>hK7 _ _<|wcT h17 rfl rfl<|h17.sk [8,7,6,4,0,1,2] rfl fun h18=>?_
 refine sqr fun _ hK8=>mv h18 rfl fun _ h19=>h19.sk [21,8,7,4,0,1,2] rfl fun h20=>mv h20 rfl fun _ h21=>h21.sn [6,8,7,4,0,1,2] rfl fun h22=>hK8 _ _<|wp_ret ?_
 try simp only [Exit.then,Exit.inBlock]
 refine Bj (v:=ν (Em M P i)) (CV h22 rfl rfl) h22.defs ?_
 exact ⟨rfl,Sep.tail_un (xs:=[_,_,_]) (s2.pk [0,1,2,4] rfl)⟩
theorem Aav {w:World} {R:List Ch} {fx mx:Nat} {K:VolK} {ta:Ω} {tc:Nat} {c i:Int} {t:Bool} {d:Λ} {o k:Nat} {S:Λ} (V:VolC) (hS0:Sep w ([Ab fx 83 [π K.tg,π mx],Ab mx 103 [π K.tg],txP K ta tc V.M []]++R)) (hk:k<4) (hi:i=(k:Int)+2) (hT:V.T k=S) (hd:d.length≤1000000) (hm:BX ⟨c,i,t,(o:Int),d⟩=true) (hE:Fa S t o d>0) :
  CallsR prog 9 #[π fx,.agg #[ν c,ν i,.bool t,ν (o:Int),σ d],ν 0] w (fun v w'=>v=ν (Fa S t o d)∧Sep w' ([Ab fx 83 [π K.tg,π mx],Ab mx 103 [π K.tg],txP K ta tc V.M []]++R)):=by
 have hS:Sep w [Ab fx 83 [π K.tg,π mx],Ab mx 103 [π K.tg],txP K ta tc V.M [],Ch.many R]:=Sep.tail_many (xs:=[_,_,_]) hS0;clear hS0
 have hS9:S.length≤256:=by rw [← hT];exact (V.h.s k hk).2
 refine AL func9 rfl (N:=37) ntmps9 (by show 3≤37;decide) [(0,π fx),(1,.agg #[ν c,ν i,.bool t,ν (o:Int),σ d]),(2,ν 0)] rfl fun _ h1=>sqr fun _ hK3=>so (wn rfl) fun _ hK1=>FM h1 rfl rfl rfl rfl rfl (z:=[ν c,ν i,.bool t,ν (o:Int),σ d]) rfl hS fun _ g4 w7 h5 s8 _ _=>hK1 _ _ ?_
 refine mv h5 rfl fun _ h2=>wpList_nil<|hK3 _ _<|sq fun _ hK2=>sqr fun _ hK4=>sw1 h2 rfl (v:=.agg #[ν c,ν i,.bool t,ν (o:Int),σ d]) (rld h2 rfl rfl (ldA υ27 rfl (n:=5) κ (s8.get 0 rfl:Blk _ _ _ _) rfl rfl)) fun _ h3=>cl h3 rfl (cF func27) (Ib s8 ω hm) fun _ v1 w1 r1 h4=>?_
 obtain ⟨rfl,s1⟩:=r1
 refine mv h4 rfl fun _ h6=>h6.sn [11,6,4,0,1,2] rfl fun h7=>hK4 _ _<|wcF h7 rfl rfl<|h7.sk [6,4,0,1,2] rfl fun h8=>wp_skip<|hK2 _ _<|sqr fun _ hK5=>mv h8 rfl fun _ h9=>fav h9 rfl (fQ 1) fun _ h10=>ldv h10 s1 0 υ3 rfl rfl rfl rfl fun _ h11=>?_
 refine cl h11 rfl (cF func13) (Pc (k:=k) (S:=S) V.v V.h (s1.pk [1,2,3,0,4] rfl) hk hi hT) fun _ v2 w2 r2 h12=>?_
 obtain ⟨rfl,s2⟩:=r2
 refine mvs 5 h12 rfl fun _ h13=>h13.sn [8,7,6,4,0,1,2] rfl fun h14=>hK5 _ _<|sq fun _ hK6=>sqr fun _ hK7=>mv h14 rfl fun _ h15=>bv h15 (z:=.bool false) rfl (cNe _ _ _ _ rfl) fun _ h16=>h16.sn [20,8,7,6,4,0,1,2] rfl fun h17=>hK7 _ _<|wcF h17 rfl rfl<|h17.sk [8,7,6,4,0,1,2] rfl fun h18=>?_
 refine wp_skip<|hK6 _ _<|sqr fun _ hK8=>mv h18 rfl fun _ h19=>sw1 h19 rfl (v:=.agg #[ν c,ν i,.bool t,ν (o:Int),σ d]) (rld h19 rfl rfl (ldA υ27 rfl (n:=5) κ (s2.get 3 rfl:Blk _ _ _ _) rfl rfl)) fun _ h20=>cl h20 rfl (cF func28) (Kx s2 ω ω hm) fun _ v3 w3 r3 h21=>?_
 obtain ⟨rfl,s3⟩:=r3
 refine mvs 3 h21 rfl fun _ h22=>h22.sk [27,26,22,25,24,23,8,6,4,0,1,2] rfl fun h23=>mv h23 rfl fun _ h24=>h24.sk [7,27,26,22,25,24,23,6,4,0,1,2] rfl fun h25=>mv h25 rfl fun _ h26=>h26.sn [8,7,6,4,0,1,2] rfl fun h27=>hK8 _ _<|sq fun _ hK9=>sqr fun _ hK10=>mv h27 rfl fun _ h28=>bv h28 (z:=.bool true) rfl (cNe _ _ _ _ (decide_eq_true ω)) fun _ h29=>?_
 refine h29.sn [29,8,7,6,4,0,1,2] rfl fun h30=>hK10 _ _<|wcT h30 rfl rfl<|h30.sk [8,7,6,4,0,1,2] rfl fun h31=>sqr fun _ hK11=>mv h31 rfl fun _ h32=>h32.sk [30,8,7,4,0,1,2] rfl fun h33=>mv h33 rfl fun _ h34=>h34.sn [6,8,7,4,0,1,2] rfl fun h35=>hK11 _ _ ?_
 refine wp_ret ?_
 try simp only [Exit.then,Exit.inBlock]
 refine Bj (v:=ν (Fa S t o d)) (CV h35 rfl rfl) h35.defs ?_
 exact ⟨rfl,Sep.tail_un (xs:=[_,_,_]) (s3.pk [0,1,2,4] rfl)⟩
theorem Aax {w:World} {R:List Ch} {fx mx:Nat} {K:VolK} {ta:Ω} {tc:Nat} {c i:Int} {t:Bool} {d:Λ} {o k:Nat} {S:Λ} (V:VolC) (hS0:Sep w ([Ab fx 83 [π K.tg,π mx],Ab mx 103 [π K.tg],txP K ta tc V.M []]++R)) (hk:k<4) (hi:i=(k:Int)+2) (hT:V.T k=S) (hd:d.length≤1000000) (hm:BX ⟨c,i,t,(o:Int),d⟩=true) (hE:Fa S t o d=0) :
  CallsR prog 9 #[π fx,.agg #[ν c,ν i,.bool t,ν (o:Int),σ d],ν 0] w (fun v w'=>∃ ta' tc',∃ V':VolF,v=ν 0∧Sep w' ([Ab fx 83 [π K.tg,π mx],Ab mx 103 [π K.tg],txP K ta' tc' V'.M V'.P]++R)∧V'.T=RW V.T k (FN S t o d)):=by
 have hS:Sep w [Ab fx 83 [π K.tg,π mx],Ab mx 103 [π K.tg],txP K ta tc V.M [],Ch.many R]:=Sep.tail_many (xs:=[_,_,_]) hS0;clear hS0
 have hS9:S.length≤256:=by rw [← hT];exact (V.h.s k hk).2
 have hb9:=Aa4 (l:=S) (t:=t) (o:=o) (d:=d)
 refine AL func9 rfl (N:=37) ntmps9 (by show 3≤37;decide) [(0,π fx),(1,.agg #[ν c,ν i,.bool t,ν (o:Int),σ d]),(2,ν 0)] rfl fun _ h1=>sqr fun _ hK3=>so (wn rfl) fun _ hK1=>FM h1 rfl rfl rfl rfl rfl (z:=[ν c,ν i,.bool t,ν (o:Int),σ d]) rfl hS fun _ g4 w7 h5 s8 _ _=>hK1 _ _ ?_
 refine mv h5 rfl fun _ h2=>wpList_nil<|hK3 _ _<|sq fun _ hK2=>sqr fun _ hK4=>sw1 h2 rfl (v:=.agg #[ν c,ν i,.bool t,ν (o:Int),σ d]) (rld h2 rfl rfl (ldA υ27 rfl (n:=5) κ (s8.get 0 rfl:Blk _ _ _ _) rfl rfl)) fun _ h3=>cl h3 rfl (cF func27) (Ib s8 ω hm) fun _ v1 w1 r1 h4=>?_
 obtain ⟨rfl,s1⟩:=r1
 refine mv h4 rfl fun _ h6=>h6.sn [11,6,4,0,1,2] rfl fun h7=>hK4 _ _<|wcF h7 rfl rfl<|h7.sk [6,4,0,1,2] rfl fun h8=>wp_skip<|hK2 _ _<|sqr fun _ hK5=>mv h8 rfl fun _ h9=>fav h9 rfl (fQ 1) fun _ h10=>ldv h10 s1 0 υ3 rfl rfl rfl rfl fun _ h11=>?_
 refine cl h11 rfl (cF func13) (Pc (k:=k) (S:=S) V.v V.h (s1.pk [1,2,3,0,4] rfl) hk hi hT) fun _ v2 w2 r2 h12=>?_
 obtain ⟨rfl,s2⟩:=r2
 refine mvs 5 h12 rfl fun _ h13=>h13.sn [8,7,6,4,0,1,2] rfl fun h14=>hK5 _ _<|sq fun _ hK6=>sqr fun _ hK7=>mv h14 rfl fun _ h15=>bv h15 (z:=.bool false) rfl (cNe _ _ _ _ rfl) fun _ h16=>h16.sn [20,8,7,6,4,0,1,2] rfl fun h17=>hK7 _ _<|wcF h17 rfl rfl<|h17.sk [8,7,6,4,0,1,2] rfl fun h18=>?_
 refine wp_skip<|hK6 _ _<|sqr fun _ hK8=>mv h18 rfl fun _ h19=>sw1 h19 rfl (v:=.agg #[ν c,ν i,.bool t,ν (o:Int),σ d]) (rld h19 rfl rfl (ldA υ27 rfl (n:=5) κ (s2.get 3 rfl:Blk _ _ _ _) rfl rfl)) fun _ h20=>cl h20 rfl (cF func28) (Kx s2 ω ω hm) fun _ v3 w3 r3 h21=>?_
 obtain ⟨rfl,s3⟩:=r3
 refine mvs 3 h21 rfl fun _ h22=>h22.sk [27,26,22,25,24,23,8,6,4,0,1,2] rfl fun h23=>mv h23 rfl fun _ h24=>h24.sk [7,27,26,22,25,24,23,6,4,0,1,2] rfl fun h25=>mv h25 rfl fun _ h26=>h26.sn [8,7,6,4,0,1,2] rfl fun h27=>hK8 _ _<|sq fun _ hK9=>sqr fun _ hK10=>mv h27 rfl fun _ h28=>bv h28 (z:=.bool false) rfl (cNe _ _ _ _ (decide_eq_false ω)) fun _ h29=>?_
 refine h29.sn [29,8,7,6,4,0,1,2] rfl fun h30=>hK10 _ _<|wcF h30 rfl rfl<|h30.sk [8,7,6,4,0,1,2] rfl fun h31=>wp_skip<|hK9 _ _<|sqr fun _ hK11=>mv h31 rfl fun _ h32=>fav h32 rfl (fQ 1) fun _ h33=>ldv h33 s3 3 υ3 rfl rfl rfl rfl fun _ h34=>mvs 2 h34 rfl fun _ h35=>?_
 refine cl h35 rfl (cF func16) (Afo (k:=k) (S:=FN S t o d) V s3 hk hi ω) fun _ v4 w4 r4 h36=>?_
 obtain ⟨tax106,tcx107,vf_x108,rfl,s4,hU113⟩:=r4
 refine h36.sk [36,35,34,33,32,31,8,7,4,0,1,2] rfl fun h37=>mv h37 rfl fun _ h38=>h38.sn [6,8,7,4,0,1,2] rfl fun h39=>hK11 _ _<|wp_ret ?_
 try simp only [Exit.then,Exit.inBlock]
 refine Bj (v:=ν 0) (CV h39 rfl rfl) h39.defs ?_
 exact ⟨tax106,tcx107,vf_x108,rfl,Sep.tail_un (xs:=[_,_,_]) (s4.pk [0,1,2,4] rfl),hU113⟩
theorem Ad5 {w:World} {R:List Ch} {r:RecM} (hS0:Sep w ([]++R)) :
  CallsR prog 8 #[.agg #[ν r.c,ν r.i,.bool r.t,ν r.o,σ r.d]] w (fun v w'=>∃ d:Λ,v=.agg #[ν r.c,ν r.i,.bool r.t,ν r.o,σ d]∧Sep w' ([]++R)∧d.length≤80):=by
 have hS:Sep w [Ch.many R]:=Sep.tail_many (xs:=[]) hS0;clear hS0
 refine AL func8 rfl (N:=12) ntmps8 (by show 1≤12;decide) [(0,.agg #[ν r.c,ν r.i,.bool r.t,ν r.o,σ r.d])] rfl fun _ h1=>sqr fun _ hK3=>so (wn rfl) fun _ hK1=>FM h1 rfl rfl rfl rfl rfl (z:=[ν r.c,ν r.i,.bool r.t,ν r.o,σ r.d]) rfl hS fun _ g4 w7 h5 s8 _ _=>hK1 _ _ ?_
 refine so (wn rfl) fun _ hK2=>AV h5 rfl rfl rfl rfl (z:=[ν 0,ν 0,.bool false,ν 0,σ []]) (fun _=>rfl) s8 fun _ g1 w1 h2 s1 _ _=>hK2 _ _ ?_
 refine wpList_nil<|hK3 _ _<|sq fun _ hK4=>sqr fun _ hK5=>fav h2 rfl (fQ 4) fun _ h3=>ldv h3 s1 1 υ9 rfl rfl rfl rfl fun _ h4=>sv1 h4 rfl (v:=ν (r.d.length:Int)) (Da h4 rfl rfl υ9) fun _ h6=>bv h6 (z:=.bool (decide ((r.d.length:Int)>80))) rfl (cGt _ _ _ _ rfl) fun _ h7=>h7.sn [6,2,1,0] rfl fun h8=>hK5 _ _ ?_
 rcases bC (decide ((r.d.length:Int)>80)) with hc1 | hc1
 ·skip
  have hp1:(r.d.length:Int)>80:=(dT hc1)
  refine wcT h8 rfl hc1<|h8.sk [2,1,0] rfl fun h9=>wp_region_lit<|fav h9 rfl (fQ 4) fun _ h10=>ldv h10 s1 1 υ9 rfl rfl rfl rfl fun _ h11=>sv1 h11 rfl (v:=σ (r.d.take 80)) (PM h11 rfl rfl (vl:=none) (vh:=(some (ν 80))) rfl rfl (fun w=>(fun w=>((slT 9 υ9 r.d (a:=0) (b:=80) (.inl ⟨rfl,rfl⟩) (.inr ⟨_,rfl,rfl⟩) ω ω) w).trans (by rw [List.drop_zero])) w)) fun _ h12=>fav h12 rfl (fQ 4) fun _ h13=>st1 h13 s1 1 rfl rfl κ rfl rfl rfl rfl fun _ w2 h14 s2 _=>h14.sn [2,1,0] rfl fun h15=>hK4 _ _ ?_
  refine sqr fun _ hK6=>sw1 h15 rfl (v:=.agg #[ν r.c,ν r.i,.bool r.t,ν r.o,σ (r.d.take 80)]) (rld h15 rfl rfl (ldA υ27 rfl (n:=5) κ (s2.get 1 rfl:Blk _ _ _ _) rfl rfl)) fun _ h16=>stA h16 s2 0 rfl rfl rfl κ rfl rfl rfl rfl fun _ w3 h17 s3 _=>h17.sn [2,1,0] rfl fun h18=>hK6 _ _<|wp_ret ?_
  try simp only [Exit.then,Exit.inBlock]
  refine rC h18 s3 0 υ27 rfl rfl rfl rfl ?_
  exact ⟨_,rfl,Sep.tail_un (xs:=[]) (s3.pk [2] rfl),by (try rw [List.length_take]);omega⟩
 ·skip
  have hp2:¬ ((r.d.length:Int)>80):=(dF hc1)
  refine wcF h8 rfl hc1<|h8.sk [2,1,0] rfl fun h19=>wp_skip<|hK4 _ _<|sqr fun _ hK7=>sw1 h19 rfl (v:=.agg #[ν r.c,ν r.i,.bool r.t,ν r.o,σ r.d]) (rld h19 rfl rfl (ldA υ27 rfl (n:=5) κ (s1.get 1 rfl:Blk _ _ _ _) rfl rfl)) fun _ h20=>stA h20 s1 0 rfl rfl rfl κ rfl rfl rfl rfl fun _ w4 h21 s4 _=>h21.sn [2,1,0] rfl fun h22=>hK7 _ _<|wp_ret ?_
  try simp only [Exit.then,Exit.inBlock]
  refine rC h22 s4 0 υ27 rfl rfl rfl rfl ?_
  exact ⟨_,rfl,Sep.tail_un (xs:=[]) (s4.pk [2] rfl),by (try rw [List.length_take]);omega⟩
theorem VolC.else_ (V:VolC) {i:Int} (h:i<2∨5<i):0<Em V.M [] i:=by
 have e:=V.r i h
 have hE:AR V.M [] i=CF s4S i:=(Ft V.v _).trans (FS e).1
 have hR:Am V.M [] i=CG s4S i:=(Gj V.v _).trans (FS e).2
 have key:∀ x:Int,Ada i x→Em V.M [] i=x:=fun x hx=>by
  rcases hx with ⟨h,rfl⟩ | ⟨h,rfl⟩ | ⟨rfl,rfl⟩ | ⟨h1,h2,rfl⟩
  ·exact Adj (.inl h) V.M
  ·exact Adj (.inr h) V.M
  ·unfold Em;rw [hE,hR,Vf.1,Vf.2];rfl
  ·obtain ⟨j,rfl⟩:∃ j:Nat,i=(j:Int)+6:=⟨(i-6).toNat,ω⟩
   have z:=Acw ⟨j,ω⟩
   unfold Em;rw [hE,hR,z.1,z.2];rfl
 have k:=key (if i<1∨32<i then 1 else if i=1 then 13 else 10) (by unfold Ada;(repeat' split)<;>omega)
 rw [k];(repeat' split)<;>omega
theorem NW {w:World} {R:List Ch} {fx mx:Nat} {K:VolK} {ta:Ω} {tc:Nat} {c i o:Int} {t:Bool} {d:Λ} (V:VolC) (hS:Sep w ([Ab fx 83 [π K.tg,π mx],mtC mx K,txP K ta tc V.M []]++R)) (hd:d.length≤1000000) (h:i<2∨5<i) :
  CallsR prog 9 #[π fx,.agg #[ν c,ν i,.bool t,ν o,σ d],ν 0] w (fun v w'=>∃ e:Int,v=ν e∧Sep w' ([Ab fx 83 [π K.tg,π mx],mtC mx K,txP K ta tc V.M []]++R)∧0<e):=by
 have p:=V.else_ h
 cases hm:BX ⟨c,i,t,o,d⟩ with
 | false=>exact Calls.mono (Uv hS V.v.m hd hm) fun e w' ⟨v,e1,e2,s⟩=>⟨v,e1,_,e2,s,by decide⟩
 | true=>exact Calls.mono (Aaw hS V.v.m hd hm ω) fun e w' ⟨v,e1,e2,s⟩=>⟨v,e1,_,e2,s,p⟩
def wtL (T:Nat→Λ):List (Λ):=[T 0,T 1,T 2,T 3]
theorem Un (T:Nat→Λ) {k:Nat} (h:k<4):T k=(wtL T).getD k []:=by
 rcases (ω:k=0∨k=1∨k=2∨k=3) with rfl | rfl | rfl | rfl<;>rfl
theorem Ac7 (T:Nat→Λ) {k:Nat} (h:k<4) (S:Λ):(wtL T).set k S=wtL (RW T k S):=by
 rcases (ω:k=0∨k=1∨k=2∨k=3) with rfl | rfl | rfl | rfl<;>rfl
def slE (x:Λ):List Value:=[σ x]
theorem LP (x:Λ):(slE x).length=1:=rfl
def ZD (r:RecM):List Value:=[ν r.c,ν r.i,.bool r.t,ν r.o,σ r.d]
end
end Go.Proofs.YtbfgjinpchbajaaGreatDoor
