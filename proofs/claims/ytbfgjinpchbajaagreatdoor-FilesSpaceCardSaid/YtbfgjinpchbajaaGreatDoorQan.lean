/- Parts of the proof. -/
import Derived.Lib.UnsafeStr
import Derived.Shelf.RegionOpenPlain
import Derived.Scope
import Derived.Test.YtbfgjinpchbajaaGreatDoorQam
namespace Go.Proofs.YtbfgjinpchbajaaGreatDoor
open Go.RowKit
set_option linter.unusedSimpArgs false
set_option linter.unusedVariables false
set_option linter.unusedSectionVars false
set_option maxRecDepth 100000
set_option maxHeartbeats 8000000
section
theorem NC {w:World} {R:List Ch} {b:Nat} {p:Option Addr} {v:Value} (hS:Sep w (Ad b 76 [.pointer p,v]::R)) (hp:p=none∨p=some ⟨b,0,none⟩):CallsR Tryz.prog 66 #[π b] w (fun x w'=>x=.tuple #[]∧Sep w' (Ad b 76 [π b,v]::R)):=by
 have hb:Blk w b 76 [.pointer p,v]:=hS.get 0 rfl
 rcases hp with rfl | rfl
 ·refine Calls.mono (Go.Proofs.Any.Builder_copyCheck_fresh (ρ:=Fw) { Nj with } CX.toX72 b w (hb.cell (i:=0) (by show 0<2;omega)) (by unfold World.shape?;rw [show w.heap[b]? = _ from hb];rfl) (Blk.frozen hb 0)) fun e w' z=>?_
  obtain ⟨e1,e2⟩:=z
  subst e2
  exact ⟨_,e1,rfl,hS.head (Turns.of_row (TI (Kc w (some b)) 0 _)) (fun k _ q=>by cases q;rfl) (c':=Ad b 76 [π b,v]) (hb.set 0 _) fun k q=>.inl q⟩
 ·refine Calls.mono (Go.Proofs.Any.Builder_copyCheck_used (ρ:=Fw) { Nj with } CX.toX72 b w (hb.cell (i:=0) (by show 0<2;omega))) fun e w' z=>?_
  obtain ⟨e1,e2⟩:=z
  subst e2
  exact ⟨_,e1,rfl,hS⟩
theorem Ach {w:World} {R:List Ch} {b:Nat} {p:Option Addr} {ba:Option Addr} {bc:Nat} {ad:Addr} {yc:Nat} {xs ys:List UInt8} (hS0:Sep w ([Ad b 76 [.pointer p,.slice ba xs.length bc],BQ 0 5 1 ba (xs).length bc ((xs).map Af),BQ 0 5 1 (some ad) (ys).length yc ((ys).map Af)]++R)) (hp:p=none∨p=some ⟨b,0,none⟩) (hx:xs.length≤1000000) (hy2:ys.length≤1000000) (hy:0<ys.length) :
  CallsR Tryz.prog 36 #[π b,.slice (some ad) ys.length yc] w (fun v w'=>∃ ba' bc',v=.tuple #[ν ys.length,.nilIface]∧Sep w' ([Ad b 76 [π b,.slice ba' ((xs++ys).length) bc'],BQ 0 5 1 ba' ((xs++ys)).length bc' (((xs++ys)).map Af),BQ 0 5 1 (some ad) (ys).length yc ((ys).map Af)]++R)):=by
 have hS:Sep w [Ad b 76 [.pointer p,.slice ba xs.length bc],BQ 0 5 1 ba (xs).length bc ((xs).map Af),BQ 0 5 1 (some ad) (ys).length yc ((ys).map Af),Ch.many R]:=Sep.tail_many (xs:=[_,_,_]) hS0;clear hS0
 refine AS Tryz.func36 rfl (N:=19) Tryz.ntmps36 (by show 2≤19;decide) [(0,π b),(1,.slice (some ad) ys.length yc)] rfl fun _ h1=>sqr fun _ hK3=>mvs 2 h1 rfl fun _ h6=>wpList_nil<|hK3 _ _<|sqr fun _ hK8=>mv h6 rfl fun _ h9=>cl h9 rfl (cF Tryz.func66) (NC hS hp) fun _ v1 w1 r1 h2=>?_
 obtain ⟨rfl,s1⟩:=r1
 refine h2.sn [5,4,0,1] rfl fun h3=>hK8 _ _<|sqr fun _ hK1=>mvs 3 h3 rfl fun _ h4=>fav h4 rfl (fQ 1) fun _ h5=>ldv h5 s1 0 υ74 rfl rfl rfl rfl fun _ h7=>mv h7 rfl fun _ h8=>so (wn rfl) fun _ hK2=>Aci h8 rfl rfl rfl rfl E8 s1 1 rfl rfl rfl (s1.get 2 rfl:Own _ _ _ _ _ _ _ _).row hy (List.all_eq_true.2 (CI _)) ω ω (n':=(xs++ys).length) (List.length_append).symm fun a1 p32 c33 w2 h10 s2 _=>hK2 _ _ ?_
 have s3:Sep w2 [Ad b 76 [π b,.slice ba xs.length bc],BQ 0 5 1 p32 ((xs++ys)).length c33 (((xs++ys)).map Af),BQ 0 5 1 (some ad) (ys).length yc ((ys).map Af),Ch.many R]:=by rw [show (xs++ys).map Af=xs.map Af++ys.map Af from List.map_append];exact s2
 refine mv h10 rfl fun _ h11=>fav h11 rfl (fQ 1) fun _ h12=>st1 h12 s3 0 rfl rfl κ rfl rfl rfl rfl fun _ w3 h13 s4 _=>h13.sn [5,4,0,1] rfl fun h14=>hK1 _ _<|sqr fun _ hK4=>mv h14 rfl fun _ h15=>sv1 h15 rfl (v:=ν (ys.length:Int)) (UQ h15 rfl rfl υ74) fun _ h16=>h16.sk [18,17,5,0,1] rfl fun h17=>mv h17 rfl fun _ h18=>?_
 refine h18.sk [4,18,17,0,1] rfl fun h19=>mv h19 rfl fun _ h20=>h20.sn [5,4,0,1] rfl fun h21=>hK4 _ _<|wp_ret ?_
 try simp only [Exit.then,Exit.inBlock]
 refine BF (v:=.tuple #[ν (ys.length:Int),.nilIface]) (Fc h21 rfl rfl rfl) h21.defs ?_
 exact ⟨p32,c33,rfl,Sep.tail_un (xs:=[_,_,_]) s4⟩
end
section
theorem Ph (w:World) (g n:Nat):Turns (fun k=>k=g) w (w.drew.freeze ⟨g,0,none⟩ n):=by
  have b:=Lib.below_freeze (B:=0) (Below.drew (Below.refl 0 w)) (p:=⟨g,0,none⟩) (Nat.zero_le _) n
  refine ⟨b.os,b.tape,b.output,b.size,fun k hk hn=>?_⟩
  have hn:g≠k:=fun e=>hn e.symm
  unfold World.freeze
  split
  · rfl
  · simp only [Array.getElem?_modify];rw [if_neg hn];rfl
theorem ZD {w:World} {R:List Ch} {b:Nat} {p:Value} {ba:Option Addr} {bc:Nat} {xs:List UInt8} (hS:Sep w (Ad b 76 [p,.slice ba xs.length bc]::BQ 0 5 1 ba xs.length bc (xs.map Af)::R)) (h0:xs≠[]) :
    CallsR Tryz.prog 37 #[π b] w (fun v w'=>v=σ xs∧Sep w' R):=by
  have hb:Blk w b 76 [p,.slice ba xs.length bc]:=hS.get 0 rfl
  have ho:Own w 0 5 1 ba xs.length bc (xs.map Af):=hS.get 1 rfl
  have hl0:xs.length≠0:=fun e=>h0 (List.eq_nil_of_length_eq_zero e)
  have hr:=ho.row
  obtain ⟨g,cap,cur,hv,hB,hg,hnc,hcm,hcs,htk⟩:∃ g cap cur,Value.slice ba xs.length bc=.slice (some ⟨g,0,none⟩) xs.length cap∧0≤g∧w.heap[g]? = some (.cells cur 5 (0,0))∧xs.length≤cap∧cap≤maxLen∧cur.size=cap*1∧cur.toList.take (xs.length*1)=xs.map Af:=by
    rcases ho.2 with ⟨_,hz⟩ | ⟨g,cap,cur,q⟩
    · exact absurd hz hl0
    · exact ⟨g,cap,cur,q⟩
  injection hv with e1 _ e2
  subst e1 e2
  have hcell:∀ (j:Nat) (x:UInt8),xs[j]? = some x→w.cell? ⟨g,j,none⟩=some (.int .u8 x.toNat):=by
    intro j x hx
    obtain ⟨b',off,e,_,hc⟩:=hr.2.2.2.2 ω
    cases e
    have:=hc j (Af x) (by rw [List.getElem?_map,hx];rfl)
    rw [Nat.zero_add] at this;exact this
  have c1:w.drew.cell? ⟨b,1,none⟩=some (.slice (some ⟨g,0,none⟩) xs.length bc):=hb.cell (i:=1) (by show 1<2;omega)
  have hSD:(Builtin.unsafeSliceData_ #[74] 130 #[.slice (some ⟨g,0,none⟩) xs.length bc]).run Tryz.prog w.drew=.ok (π g) w.drew:=Lib.run_unsafeSliceData_row _ _ _ _ _ _ ω
  have hUS:(Builtin.unsafeString_ #[130,3] 9 #[π g,ν xs.length]).run Tryz.prog w.drew=.ok (.string ⟨xs.toArray⟩) (w.drew.freeze ⟨g,0,none⟩ xs.length):=
    Lib.run_unsafeString_row w.drew 130 3 9 5 υ130 κ g cur.size (by have hg':w.drew.heap[g]? = some (.cells cur 5 (0,0)):=hg;simp [World.shape?,hg']) xs h0 ω (by unfold maxLen at hcm;omega) (fun j x hx=>by
      have z:=hcell j x hx
      unfold Addr.add
      split
      · subst j;exact z
      · rw [Nat.zero_add];exact z)
  have mixed:=Nj.mixed
  have u1:=υ76
  have u2:=υ73
  have u3:=υ74
  have fin:CallsR Tryz.prog 37 #[π b] w (fun v w'=>v=σ xs∧w'=w.drew.freeze ⟨g,0,none⟩ xs.length):=by
    clear hS hr ho hcell
    go_enter Tryz.func37,Tryz.ntmps37
    go_wp2
    go_region_o
    all_goals (go_wp2;go_ret;exact ⟨_,rfl,rfl,rfl⟩)
  refine Calls.mono fin fun e w' z=>?_
  obtain ⟨v,e1,e2,rfl⟩:=z
  refine ⟨v,e1,e2,?_⟩
  have t:=Ph w g xs.length
  have u:=hS.upd 1 rfl t (fun k _ (e:k=g)=>by subst e;rfl) (c':=BQ 0 5 1 none 0 0 []) (Own.nil _ _ _ _) (fun k e=>by cases e)
  exact Sep.swap (A:=[_,_]) (B:=[]) (R:=R) u ⟨fun i d hi=>by simp at hi,fun i j d e _ hi=>by simp at hi⟩ (fun i c hi=>by simp at hi)
end
section
def Ho (M:MemM) (P:List PtM) (x:InoT):Nat→List UInt8
 | 0=>[]
 | k+1=>Ho M P x k++Bc M P 7 (x.blk k)
section
variable {M:MemM} {P:List PtM} {x:InoT} {n:Nat}
theorem LJ (hM:M.V.length=23168) {kd nm:Int} {q:PartT} (h:Bj kd nm=some q) (hk:kd≠5∧kd≠6):(Bc M P kd nm).length=64:=by
 rw [CD h,Nc (JJ hM h),Pe h hk.1 hk.2];rfl
theorem Ul (hM:M.V.length=23168) (hfd:∀ k,k<n→∃ q,Bj 7 (x.blk k)=some q):∀ k,k≤n→(Ho M P x k).length=64*k
 | 0,_=>rfl
 | k+1,hk=>by
  obtain ⟨q,hq⟩:=hfd k ω
  show (Ho M P x k++_).length=_
  rw [List.length_append,Ul hM hfd k ω,LJ hM hq (by decide)];omega
theorem QF {s:Int} (h:AR s=(n:Int)) (hs:0≤s∧s≤256):s≤64*(n:Int):=by unfold AR at h;split at h<;>omega
end
theorem SU {w:World} {R:List Ch} {K:VolK} {ta:Option Addr} {tc:Nat} {M:MemM} {P:List PtM} {nm:Int} {q:PartT} (hS:Sep w (txP K ta tc M P::R)) (hM:M.V.length=23168) (h:Bj 7 nm=some q) (h0:0≤q.a∧q.a≤23168∧0≤q.s∧q.s≤4096) :
  CallsR Tryz.prog 35 #[pG K.tg,ν q.a,ν q.s] w (fun v w'=>∃ ad c,v=.tuple #[.slice (some ad) (Bc M P 7 nm).length c,ν 0]∧Sep w' (BQ 0 5 1 (some ad) (Bc M P 7 nm).length c ((Bc M P 7 nm).map Af)::txP K ta tc M P::R)):=by
 have hl:=LJ hM (P:=P) h (by decide)
 rw [CD h] at hl ⊢
 refine Calls.mono (SV hS (JJ hM h) (by unfold Hu;omega) (by unfold Hu;omega)) fun e w' z=>?_
 obtain ⟨v,e1,a,c,e2,s⟩:=z
 cases a with
 | none=>
  have o:Own w' 0 5 1 none _ c _:=s.get 0 rfl
  have:=o.row.2.2.2.1 rfl
  have:=o.row.2.1
  omega
 | some ad=>exact ⟨v,e1,ad,c,e2,s⟩
theorem PJ {w:World} {R:List Ch} {b:Nat} {p:Value} {ba:Option Addr} {bc:Nat} {xs:List UInt8} (hS:Sep w (Ad b 76 [p,.slice ba xs.length bc]::BQ 0 5 1 ba xs.length bc (xs.map Af)::R)) (h0:xs=[]→ba=none∧bc=0) :
  CallsR Tryz.prog 37 #[π b] w (fun v w'=>v=σ xs∧Sep w' R):=by
 by_cases hx:xs=[]
 ·obtain ⟨rfl,rfl⟩:=h0 hx
  subst hx
  have hb:Blk w b 76 [p,.slice none 0 0]:=hS.get 0 rfl
  have hR:Sep w R:=Sep.swap (A:=[_,_]) (B:=[]) (R:=R) hS ⟨fun i d hi=>by simp at hi,fun i j d e _ hi=>by simp at hi⟩ (fun i c hi=>by simp at hi)
  exact Calls.mono (Go.Proofs.Any.Builder_String_nil (ρ:=Fw) { Nj with } CX w.heap.size b p w hb) fun e w' z=>⟨_,z.1,rfl,hR.mono z.2⟩
 ·exact ZD hS hx
theorem Xu {w:World} {R:List Ch} {fx:Nat} {mx:Nat} {K:VolK} {ta:Option Addr} {tc:Nat} {M:MemM} {P:List PtM} {i:Int} {x:InoT} {n0:Nat} (hS0:Sep w ([Ad fx 83 [π K.tg,π mx],Ad mx 103 [π K.tg],txP K ta tc M P]++R)) (hM:M.V.length=23168) (hfE:GG M P i=0) (hfX:GH M P i=x) (hs:0≤x.s∧x.s≤256) (hn0:AR x.s=(n0:Int)) (hfd:∀ k,k<n0→∃ q,Bj 7 (x.blk k)=some q) :
  CallsR Tryz.prog 13 #[π fx,ν i] w (fun v w'=>v=.tuple #[σ ((Ho M P x n0).take x.s.toNat),ν 0]∧Sep w' ([Ad fx 83 [π K.tg,π mx],Ad mx 103 [π K.tg],txP K ta tc M P]++R)):=by
 have hS:Sep w [Ad fx 83 [π K.tg,π mx],Ad mx 103 [π K.tg],txP K ta tc M P,Ch.many R]:=Sep.tail_many (xs:=[_,_,_]) hS0;clear hS0
 have hn4:n0≤4:=GN hn0 hs
 have hns:=QF hn0 hs
 have hbl:∀ k,k≤n0→(Ho M P x k).length=64*k:=fun k hk=>Ul hM hfd k hk
 refine AS Tryz.func13 rfl (N:=56) Tryz.ntmps13 (by show 2≤56;decide) [(0,π fx),(1,ν i)] rfl fun _ h1=>sqr fun _ hK3=>mvs 2 h1 rfl fun _ h6=>wpList_nil<|hK3 _ _<|sqr fun _ hK8=>mvs 2 h6 rfl fun _ h2=>cl h2 rfl (cF Tryz.func33) (Kx hS hM hfE hfX) fun _ v1 w2 r1 h3=>?_
 obtain ⟨rfl,s1⟩:=r1
 refine mvs 3 h3 rfl fun _ h4=>so (wn rfl) fun _ hK1=>AZ h4 rfl rfl rfl rfl (z:=[ν 0,ν 0,ν 0,ν 0,ν 0,ν 0,ν 0,ν 0,ν 0,ν 0,ν 0,ν 0,ν 0,ν 0,ν 0]) (fun _=>rfl) s1 fun _ g1 w3 h5 s2 _ _=>hK1 _ _ ?_
 refine stA h5 s2 0 rfl rfl rfl κ rfl rfl rfl rfl fun _ w4 h7 s3 _=>mv h7 rfl fun _ h8=>h8.sn [7,6,5,4,0,1] rfl fun h9=>hK8 _ _<|sq fun _ hK2=>sqr fun _ hK4=>mv h9 rfl fun _ h10=>bv h10 (z:=.bool false) rfl (cNe _ _ _ _ rfl) fun _ h11=>h11.sn [21,7,6,5,4,0,1] rfl fun h12=>hK4 _ _<|wcF h12 rfl rfl ?_
 refine h12.sk [7,6,5,4,0,1] rfl fun h13=>wp_skip<|hK2 _ _<|sqr fun _ hK5=>so (wn rfl) fun _ hK6=>AZ h13 rfl rfl rfl rfl (z:=[.pointer none,.slice none 0 0]) (fun _=>rfl) s3 fun _ g2 w5 h14 s4 _ _=>hK6 _ _ ?_
 refine wpList_nil<|hK5 _ _<|sq fun _ hK7=>sqr fun _ hK9=>fav h14 rfl (fQ 2) fun _ h15=>ldv h15 s4 1 υ3 rfl rfl rfl rfl fun _ h16=>cl h16 rfl (cF Tryz.func17) (Eu s4 hn0 ω) fun _ v2 w6 r2 h17=>?_
 obtain ⟨rfl,s5⟩:=r2
 refine mv h17 rfl fun _ h18=>h18.sn [26,25,8,7,6,5,4,0,1] rfl fun h19=>hK9 _ _<|wp_block ?_
 have s6:=Sep.ownNil s5 0 5 1
 refine Kj (fun (k:Nat) (pp:Option Addr) (ba:Option Addr) (bc:Nat) a' w'=>Kn 56 [(26,ν (k:Int)),(25,ν (n0:Int)),(8,π g2),(7,ν 0),(6,π g1),(5,ν 0),(4,σ []),(0,π fx),(1,ν i)] a'∧Sep w' [BQ 0 5 1 ba ((Ho M P x k)).length bc (((Ho M P x k)).map Af),Ad g2 76 [.pointer pp,.slice ba ((Ho M P x k).length) bc],Ad g1 45 (Ao x),Ad fx 83 [π K.tg,π mx],Ad mx 103 [π K.tg],txP K ta tc M P,Ch.many R]∧(k≤n0)∧(pp=none∨pp=some ⟨g2,0,none⟩)∧(k=0→ba=none∧bc=0)) (fun (k:Nat) (pp:Option Addr) (ba:Option Addr) (bc:Nat)=>n0-k) 0 none none 0 ⟨h19.subs rfl,s6,Nat.zero_le _,.inl rfl,(fun _=>⟨rfl,rfl⟩)⟩ ?_
 rintro k1 pp86 ba87 bc88 a1 w7 ⟨h20,s7,hk82,hp1,hz84⟩ K1 hK10
 refine sqr fun _ hK11=>bv h20 (z:=.bool (decide ((k1:Int)<(n0:Int)))) rfl (cLt _ _ _ _ rfl) fun _ h21=>wpList_nil<|hK11 _ _<|sq fun _ hK12=>?_
 rcases bC (decide ((k1:Int)<(n0:Int))) with hc1 | hc1
 ·skip
  have hp2:(k1:Int)<(n0:Int):=(dT hc1)
  refine wcT h21 rfl hc1<|h21.sk [26,25,8,7,6,5,4,0,1] rfl fun h22=>wp_skip<|hK12 _ _<|sq fun _ hK13=>wp_block ?_
  refine sqr fun _ hK14=>mvs 2 h22 rfl fun _ h23=>h23.sn [9,26,25,8,7,6,5,4,0,1] rfl fun h24=>hK14 _ _<|sqr fun _ hK15=>mv h24 rfl fun _ h25=>fav h25 rfl (fQ 3) fun _ h26=>sv1 h26 rfl (v:=.pointer (some ⟨g1,3+k1,none⟩)) (Co h26 rfl rfl rfl (fun w=>JN g1 k1 ω ω w)) fun _ h27=>sw1 h27 rfl (v:=ν (x.blk k1)) (rld h27 rfl rfl (ldB υ3 rfl (s7.get 2 rfl:Blk _ _ _ _) (Ed x ω))) fun _ h28=>?_
  obtain ⟨q112,hq1⟩:=hfd k1 ω
  have hq113i:=Dz hq1
  have hbk9:=hbl k1 ω
  refine cl h28 rfl (cF Tryz.func34) (Bl s7 (JE (k:=q112.k) (n:=q112.n) (a:=q112.a) (s:=q112.s) hq1 _)) fun _ v3 w8 r3 h29=>?_
  obtain ⟨rfl,s8⟩:=r3
  refine mvs 3 h29 rfl fun _ h30=>so (wn rfl) fun _ hK16=>AZ h30 rfl rfl rfl rfl (z:=[ν 0,ν 0,ν 0,ν 0]) (fun _=>rfl) s8 fun _ g3 w9 h31 s9 _ _=>hK16 _ _ ?_
  refine stA h31 s9 0 rfl rfl rfl κ rfl rfl rfl rfl fun _ w10 h32 s10 _=>mv h32 rfl fun _ h33=>h33.sn [10,9,26,25,8,7,6,5,4,0,1] rfl fun h34=>hK15 _ _<|sq fun _ hK17=>?_
  have s11:=s10.drew
  refine wp_region_held_drew (S:=fun w'=>Sep w' [Ad g3 78 [ν q112.k,ν q112.n,ν q112.a,ν q112.s],BQ 0 5 1 ba87 ((Ho M P x k1)).length bc88 (((Ho M P x k1)).map Af),Ad g2 76 [.pointer pp86,.slice ba87 ((Ho M P x k1).length) bc88],Ad g1 45 (Ao x),Ad fx 83 [π K.tg,π mx],Ad mx 103 [π K.tg],txP K ta tc M P,Ch.many R]) κ s11 (fun hq2=>?_)
  refine tv1 hq2 h34 0 rfl rfl (v:=π fx) (fun w1 _=>(Az h34 rfl rfl) w1) fun _ h35=>?_
  refine tv1 hq2 h35 1 rfl rfl (v:=π fx) (fun w1 _=>(MT h35 rfl rfl) w1) fun _ h36=>?_
  refine tv1 hq2 h36 2 rfl rfl (v:=π fx) (fun w1 _=>(rfa h36 rfl rfl (fQ 0)) w1) fun _ h37=>?_
  refine tv1 hq2 h37 3 rfl rfl (v:=π K.tg) (fun w1 hSw=>(rld h37 rfl rfl (ldB υ30 rfl (hSw.get 4 rfl:Blk _ _ _ _) rfl))) fun _ h38=>?_
  refine tv1 hq2 h38 4 rfl rfl (v:=.pointer (some ⟨g3,2,none⟩)) (fun w1 _=>(rfa h38 rfl rfl (fQ 2)) w1) fun _ h39=>?_
  refine tv1 hq2 h39 5 rfl rfl (v:=ν q112.a) (fun w1 hSw=>(rld h39 rfl rfl (ldB υ3 rfl (hSw.get 0 rfl:Blk _ _ _ _) rfl))) fun _ h40=>?_
  refine tv1 hq2 h40 6 rfl rfl (v:=.pointer (some ⟨g3,3,none⟩)) (fun w1 _=>(rfa h40 rfl rfl (fQ 3)) w1) fun _ h41=>?_
  refine tv1 hq2 h41 7 rfl rfl (v:=ν q112.s) (fun w1 hSw=>(rld h41 rfl rfl (ldB υ3 rfl (hSw.get 0 rfl:Blk _ _ _ _) rfl))) fun _ h42=>?_
  refine to_ 8 rfl (wn rfl) κ fun _ hK18=>BM h42 rfl rfl rfl (xs:=[.tmp 41,.tmp 43,.tmp 45]) rfl (cF Tryz.func35) rfl (vs:=[π K.tg,ν q112.a,ν q112.s]) rfl (args:=#[π K.tg,ν q112.a,ν q112.s]) rfl (SU (s11.pk [6,0,1,2,3,4,5,7] rfl) hM hq1 ω) fun _ v4 w11 r4 h43=>?_
  obtain ⟨ad_x164,rc_x165,rfl,s12⟩:=r4
  refine hK18 _ _ (s12.pk [2,3,4,5,6,7,1,8] rfl) fun hq3=>?_
  refine tv1 hq3 h43 9 rfl rfl (v:=.tuple #[.slice (some ad_x164) ((Bc M P 7 (x.blk k1)).length) rc_x165,ν 0]) (fun w1 _=>(Az h43 rfl rfl) w1) fun _ h44=>?_
  refine tv1 hq3 h44 10 rfl rfl (v:=.slice (some ad_x164) ((Bc M P 7 (x.blk k1)).length) rc_x165) (fun w1 _=>(Zl h44 rfl rfl rfl) w1) fun _ h45=>?_
  refine tv1 hq3 h45 11 rfl rfl (v:=ν 0) (fun w1 _=>(Zl h45 rfl rfl rfl) w1) fun _ h46=>?_
  refine tv1 hq3 h46 12 rfl rfl (v:=.slice (some ad_x164) ((Bc M P 7 (x.blk k1)).length) rc_x165) (fun w1 _=>(BJ h46 rfl rfl) w1) fun _ h47=>?_
  refine tv1 hq3 h47 13 rfl rfl (v:=ν 0) (fun w1 _=>(BJ h47 rfl rfl) w1) fun _ h48=>?_
  refine h48.sk [12,10,9,26,25,8,7,6,5,4,0,1] rfl fun h49=>?_
  refine wpAnyH_done κ ?_ _
  refine hK17 _ _ ?_
  refine wp_region_lit<|mv h49 rfl fun _ h50=>?_
  have hly9:=LJ hM (P:=P) hq1 ω
  refine cl h50 rfl (cF Tryz.func36) (Ach (s12.pk [4,3,0,1,2,5,6,7,8] rfl) hp1 ω ω ω) fun _ v5 w12 r5 h51=>?_
  obtain ⟨nb_x186,nc_x187,rfl,s13⟩:=r5
  refine h51.sn [12,10,9,26,25,8,7,6,5,4,0,1] rfl fun h52=>hK13 _ _<|wp_region_lit<|bv h52 (z:=ν ((k1+1:Nat):Int)) rfl (Dp _ _ _ ω ω ω) fun _ h53=>h53.sk [51,12,10,9,25,8,7,6,5,4,0,1] rfl fun h54=>mv h54 rfl fun _ h55=>h55.sk [26,12,10,9,25,8,7,6,5,4,0,1] rfl fun h56=>wpList_nil ?_
  exact hK10 (k1+1) (some ⟨g2,0,none⟩) nb_x186 nc_x187 _ _ ⟨h56.subs rfl,(s13.pk [1,0,5,6,7,3,8] rfl),ω,.inr rfl,(fun q=>absurd q (Nat.succ_ne_zero _))⟩ ω
 ·skip
  have hp3:¬ ((k1:Int)<(n0:Int)):=(dF hc1)
  refine wcF h21 rfl hc1<|h21.sk [26,25,8,7,6,5,4,0,1] rfl fun h57=>wp_exit ?_
  refine hK7 _ _ ?_
  refine sq fun _ hK19=>?_
  have s14:=s7.drew
  refine wp_region_held_drew (S:=fun w'=>Sep w' [Ad g1 45 (Ao x),Ad fx 83 [π K.tg,π mx],Ad mx 103 [π K.tg],txP K ta tc M P,Ch.many R]) κ (s14.pk [2,3,4,5,6] rfl) (fun hq4=>?_)
  refine tv1 hq4 h57 1 rfl rfl (v:=.pointer (some ⟨g1,2,none⟩)) (fun w1 _=>(rfa h57 rfl rfl (fQ 2)) w1) fun _ h58=>?_
  refine tv1 hq4 h58 2 rfl rfl (v:=ν x.s) (fun w1 hSw=>(rld h58 rfl rfl (ldB υ3 rfl (hSw.get 0 rfl:Blk _ _ _ _) rfl))) fun _ h59=>?_
  have hbk9:=hbl k1 ω
  refine to_ 0 rfl (wn rfl) κ fun _ hK20=>BM h59 rfl rfl rfl (xs:=[.tmp 8]) rfl (cF Tryz.func37) rfl (vs:=[π g2]) rfl (args:=#[π g2]) rfl (PJ (s14.pk [1,0,2,3,4,5,6] rfl) (fun e9=>hz84 (by rw [e9] at hbk9;simp at hbk9;omega))) fun _ v6 w13 r6 h60=>?_
  obtain ⟨rfl,s15⟩:=r6
  refine hK20 _ _ s15 fun hq5=>?_
  refine tv1 hq5 h60 3 rfl rfl (v:=σ ((Ho M P x k1).take ((x.s).toNat))) (fun w1 _=>(Rm h60 rfl rfl (vl:=none) (vh:=(some (ν x.s))) rfl rfl (fun w=>(fun w=>((slT 9 υ9 (Ho M P x k1) (a:=0) (b:=(x.s).toNat) (.inl ⟨rfl,rfl⟩) (.inr ⟨_,rfl,ω⟩) ω ω) w).trans (by rw [List.drop_zero])) w)) w1) fun _ h61=>?_
  refine h61.sk [55,52,54,53,26,25,8,7,6,5,0,1] rfl fun h62=>?_
  refine tv1 hq5 h62 4 rfl rfl (v:=σ ((Ho M P x k1).take ((x.s).toNat))) (fun w1 _=>(BJ h62 rfl rfl) w1) fun _ h63=>?_
  refine h63.sk [4,55,52,54,53,26,25,8,7,6,0,1] rfl fun h64=>?_
  refine tv1 hq5 h64 5 rfl rfl (v:=ν 0) (fun w1 _=>(BJ h64 rfl rfl) w1) fun _ h65=>?_
  refine h65.sk [5,4,26,25,8,7,6,0,1] rfl fun h66=>?_
  refine wpAnyH_done κ ?_ _
  refine hK19 _ _ ?_
  refine wp_ret ?_
  try simp only [Exit.then,Exit.inBlock]
  refine BF (v:=.tuple #[σ ((Ho M P x k1).take ((x.s).toNat)),ν 0]) (Fc h66 rfl rfl rfl) h66.defs ?_
  obtain rfl:n0=k1:=ω
  exact ⟨rfl,Sep.tail_un (xs:=[_,_,_]) (s15.pk [1,2,3,4] rfl)⟩
end
section
end
section
def ykX (n:Int):Nat→InoT
  | 0=>szX opX n
  | k+1=>(ykX n k).setB k ((k:Int)+3)
def skS:Nat→BE
  | 0=>s4S
  | k+1=>BW (BW (skS k) 3 0 (AV (CH (skS k)) ((k:Int)+3))) 7 ((k:Int)+3) (List.replicate 64 0)
theorem Adm (m:List UInt8):DJ m 0=m:=if_neg (by decide)
theorem Abt (x:InoT):(Cd x).length≤64:=by
  unfold Cd;split
  · split
    · decide
    · rename_i h _;have:=JY x;omega
  · exact Nat.zero_le _
section
variable {M:MemM}
theorem Aet:∀ i:Fin 4,CR s4S ((i.val:Int)+2)=0:=by decide +kernel
theorem Ab5 (i:Nat) (hi:i<4):CS s4S ((i:Int)+2)=opX:=by
  rcases (ω:i=0∨i=1∨i=2∨i=3) with rfl | rfl | rfl | rfl<;>kernel_rfl
end
end
section
open Go.RowKit Go.WideShapes
theorem YS (k n:Nat) (h:n<256 ^ k):BU (le k n)=n:=by
  induction k generalizing n with
  | zero=>simp [le,BU] at *;omega
  | succ k ih=>
    have h':n / 256<256 ^ k:=by
      rw [Nat.div_lt_iff_lt_mul ω];rw [Nat.pow_succ] at h;exact h
    simp only [le,BU]
    rw [ih _ h']
    have:(UInt8.ofNat n).toNat=n % 256:=by simp
    rw [this];omega
theorem Yv {i:InoT} (h:JL i=IU):i=AP:=by
  cases i
  unfold JL IU at h
  simp only [List.cons.injEq,and_true] at h
  obtain ⟨h0,h1,h2,h3,h4,h5,h6,h7,h8,h9,h10,h11,h12,h13,h14⟩:=h
  subst h0 h1 h2 h3 h4 h5 h6 h7 h8 h9 h10 h11 h12 h13 h14
  rfl
theorem VY {i:InoT} (hm:Cm i=true) (hk:i.k=0):i=AP:=by
  have:=Iy (i:=i) ω ω
  rw [hm] at this
  exact Yv (of_decide_eq_true this.symm)
theorem Jm {i:InoT} (hm:Cm i=true) (hk:i.k≠0):Cd i=Hx i++le 4 (CO (Hx i)):=by rw [Wz hm hk,PA]
theorem Oq {i:InoT} (hm:Cm i=true):(Cd i).length=64:=by
  by_cases hk:i.k=0
  · rw [KI hm hk];simp
  · rw [Jm hm hk,List.length_append,JM,AA]
theorem Mg {i:InoT} (hm:Cm i=true) (hk:i.k≠0):Be (Cd i)=i:=by
  have hkd:=Oi hm
  have hlow:=YG hm
  have hX:=SP hm
  rw [Jm hm hk]
  generalize CO (Hx i)=z
  unfold Hx
  rw [hX]
  have e:∀ n:Int,0≤n→n≤255→((UInt8.ofNat n.toNat).toNat:Int)=n:=by
    intro n h0 h1
    have:(UInt8.ofNat n.toNat).toNat=n.toNat % 256:=by simp
    rw [this];omega
  have es:∀ n:Int,0≤n→n≤256→((UInt8.ofNat n.toNat).toNat:Int)+256*((UInt8.ofNat (n.toNat / 256)).toNat:Int)=n:=by
    intro n h0 h1
    have e1:(UInt8.ofNat n.toNat).toNat=n.toNat % 256:=by simp
    have e2:(UInt8.ofNat (n.toNat / 256)).toNat=n.toNat / 256 % 256:=by simp
    rw [e1,e2];omega
  clear hX
  obtain ⟨k,l,s,b0,b1,b2,b3,o0,o1,o2,o3,o4,o5,o6,o7⟩:=i
  simp only [InoT.B,InoT.O] at *
  show (⟨((UInt8.ofNat k.toNat).toNat:Int),((UInt8.ofNat l.toNat).toNat:Int),((UInt8.ofNat s.toNat).toNat:Int)+256*((UInt8.ofNat (s.toNat / 256)).toNat:Int),((UInt8.ofNat b0.toNat).toNat:Int),((UInt8.ofNat b1.toNat).toNat:Int),((UInt8.ofNat b2.toNat).toNat:Int),((UInt8.ofNat b3.toNat).toNat:Int),((UInt8.ofNat o0.toNat).toNat:Int),((UInt8.ofNat o1.toNat).toNat:Int),((UInt8.ofNat o2.toNat).toNat:Int),((UInt8.ofNat o3.toNat).toNat:Int),((UInt8.ofNat o4.toNat).toNat:Int),((UInt8.ofNat o5.toNat).toNat:Int),((UInt8.ofNat o6.toNat).toNat:Int),((UInt8.ofNat o7.toNat).toNat:Int)⟩:InoT)=_
  have H:∀ n∈[b0,b1,b2,b3]++[o0,o1,o2,o3,o4,o5,o6,o7],((UInt8.ofNat n.toNat).toNat:Int)=n:=fun n hn=>e n (hlow n hn).1 (hlow n hn).2
  rw [e k hkd.1 ω,e l hkd.2.2.1 ω,es s hkd.2.2.2.2.1 hkd.2.2.2.2.2,H b0 (by simp),H b1 (by simp),H b2 (by simp),H b3 (by simp),H o0 (by simp),H o1 (by simp),H o2 (by simp),H o3 (by simp),H o4 (by simp),H o5 (by simp),H o6 (by simp),H o7 (by simp)]
theorem ZE {Y t:List UInt8} (hY:Y.length=60) (ht:t.length=4):(Y++t).take 60=Y∧slI (Y++t) 60 4=t:=by
  refine ⟨by rw [← hY];exact List.take_left,?_⟩
  unfold slI
  rw [← hY,List.drop_left,← ht,List.take_length]
theorem WR {i:InoT} (hm:Cm i=true) (hk:i.k≠0):Lo (Cd i)=true:=by
  rw [Jm hm hk]
  obtain ⟨h1,h2⟩:=ZE (JM i) (AA 4 (CO (Hx i)))
  unfold Lo
  rw [h1,h2]
  exact decide_eq_true (YS 4 _ (Nat.lt_of_lt_of_le (EA _) (by decide)))
theorem Aac {i:InoT} (hm:Cm i=true) (hk:i.k≠0):(bAt (Cd i) 0:Int)=i.k:=congrArg InoT.k (Mg hm hk)
theorem Abv {i:InoT} (hm:Cm i=true) (hk:i.k≠0):Cd i≠EY:=by
  intro e
  have:=Aac hm hk
  rw [e] at this
  exact hk this.symm
theorem WA {i:InoT} (hm:Cm i=true):rdI (Cd i)=i∧rdE (Cd i)=0:=by
  have hl:=Oq hm
  have ht:(Cd i).take 64=Cd i:=List.take_of_length_le ω
  by_cases hk:i.k=0
  · have e0:=VY hm hk
    obtain ⟨h1,h2⟩:=UO (xs:=Cd i) ω (by rw [ht];exact KI hm hk)
    exact ⟨by rw [h1,e0],h2⟩
  · have hf:=Mg hm hk
    obtain ⟨h1,h2⟩:=UN (xs:=Cd i) ω (by rw [ht];exact Abv hm hk) (by rw [ht];exact WR hm hk) (by
      rw [ht];unfold KJ;rw [hf,hm,Bool.true_and];exact decide_eq_true rfl)
    rw [ht,hf] at h1
    exact ⟨h1,h2⟩
end
section
theorem Lp {m:List UInt8} (h:m.length=16) {b c:Int} (hb:1≤b∧b≤128):CM (AV m b) c=(CM m c||decide (c=b)):=by
  unfold AV CM
  rw [if_pos hb,Kt _ _ _ h ω]
  by_cases hc:1≤c∧c≤128
  · rw [decide_eq_true hc,Bool.true_and,Bool.true_and];congr 1;exact decide_eq_decide.2 ω
  · rw [decide_eq_false hc,decide_eq_false (ω:¬ c=b)];rfl
theorem RP {m:List UInt8} (h:m.length=16) {b c:Int} (hb:1≤b∧b≤128):CM (DJ m b) c=(CM m c&&!decide (c=b)):=by
  unfold DJ CM
  rw [if_pos hb,Ks _ _ _ h ω]
  by_cases hc:1≤c∧c≤128
  · rw [decide_eq_true hc,Bool.true_and,Bool.true_and];congr 2;exact decide_eq_decide.2 ω
  · rw [decide_eq_false hc];rfl
theorem GA {m:List UInt8} {b:Int} (h:CM m b=true):1≤b∧b≤128:=by
  unfold CM at h;rw [Bool.and_eq_true] at h;exact of_decide_eq_true h.1
def IY (m:List UInt8):Nat:=(Cg m 128).length
theorem Jc {p q:Nat→Bool} {k:Nat} (hp:p k=false) (hq:q k=true) (h:∀ j,j≠k→q j=p j):∀ n,((List.range n).filter q).length=((List.range n).filter p).length+(if k<n then 1 else 0)
  | 0=>rfl
  | n+1=>by
    rw [List.range_succ,List.filter_append,List.filter_append,List.length_append,List.length_append,Jc hp hq h n]
    by_cases e:n=k
    · subst e
      rw [if_neg (Nat.lt_irrefl n),if_pos (Nat.lt_succ_self n)]
      simp [hp,hq]
    · have e1:(List.filter q [n]).length=(List.filter p [n]).length:=by simp [h n e,List.filter_cons]
      rw [e1]
      by_cases l:k<n
      · rw [if_pos l,if_pos ω];omega
      · rw [if_neg l,if_neg ω];omega
theorem XA {m:List UInt8} (h:m.length=16) {b:Int} (hb:1≤b∧b≤128) (hu:CM m b=false):IY (AV m b)=IY m+1:=by
  have hu2:Ei m (b-1).toNat=false:=by unfold CM at hu;rw [decide_eq_true hb,Bool.true_and] at hu;exact hu
  have z:=Jc (p:=Ei m) (q:=Ei (AV m b)) (k:=(b-1).toNat) hu2 (by unfold AV;rw [if_pos hb,Kt _ _ _ h ω];simp) (fun j hj=>by unfold AV;rw [if_pos hb,Kt _ _ _ h ω,decide_eq_false hj,Bool.or_false]) 128
  rw [if_pos ω] at z;exact z
theorem Xz {m:List UInt8} (h:m.length=16) {b:Int} (hu:CM m b=true):IY m=IY (DJ m b)+1:=by
  have hb:=GA hu
  have hu2:Ei m (b-1).toNat=true:=by unfold CM at hu;rw [decide_eq_true hb,Bool.true_and] at hu;exact hu
  have z:=Jc (q:=Ei m) (p:=Ei (DJ m b)) (k:=(b-1).toNat) (by unfold DJ;rw [if_pos hb,Ks _ _ _ h ω];simp) hu2 (fun j hj=>by unfold DJ;rw [if_pos hb,Ks _ _ _ h ω,decide_eq_false hj,Bool.not_false,Bool.and_true]) 128
  rw [if_pos ω] at z;exact z
theorem JG (m:List UInt8):∀ n i:Nat,(∃ j,i≤j∧j<i+n∧CJ m 1 n i=(j:Int)+1∧Ei m j=false)∨(∀ j,i≤j→j<i+n→Ei m j=true)
  | 0,i=>.inr fun j h1 h2=>ω
  | n+1,i=>by
    unfold CJ
    by_cases c:Ei m i=false
    · exact .inl ⟨i,Nat.le_refl _,ω,by rw [if_pos ⟨ω,c⟩],c⟩
    · rw [if_neg (fun e=>c e.2)]
      rcases JG m n (i+1) with ⟨j,h1,h2,h3,h4⟩ | h
      · exact .inl ⟨j,ω,ω,h3,h4⟩
      · refine .inr fun j h1 h2=>?_
        by_cases e:j=i
        · subst e;simpa using c
        · exact h j ω ω
theorem Mk {m:List UInt8} (h:IY m<128):1≤As m 1∧As m 1≤128∧CM m (As m 1)=false:=by
  rcases JG m 128 0 with ⟨j,h1,h2,h3,h4⟩ | hA
  · have e:As m 1=(j:Int)+1:=h3
    rw [e]
    refine ⟨ω,ω,?_⟩
    unfold CM;rw [show ((j:Int)+1-1).toNat=j by omega,h4,Bool.and_false]
  · exfalso
    have:IY m=128:=by
      unfold IY Cg
      rw [List.filter_eq_self.2 fun j hj=>hA j (Nat.zero_le _) (by have:=List.mem_range.1 hj;omega),List.length_range]
    omega
theorem DX (x:InoT) {j:Nat} (hj:j<4) (b:Int) (i:Nat):(x.setB j b).blk i=if i=j then b else x.blk i:=by
  rcases (ω:j=0∨j=1∨j=2∨j=3) with rfl | rfl | rfl | rfl <;>
    (match i with
     | 0=>rfl
     | 1=>rfl
     | 2=>rfl
     | 3=>rfl
     | n+4=>rfl)
theorem Uk (x:InoT) {i:Nat} (h:4≤i):x.blk i=0:=by
  obtain ⟨n,rfl⟩:∃ n,i=n+4:=⟨i-4,ω⟩
  rfl
def Ga (v:Int):Nat:=if v=0 then 0 else 1
theorem FL (v:Int):Ga v≤1:=by unfold Ga;split<;>omega
def nzI (x:InoT):Nat:=Ga (x.blk 0)+Ga (x.blk 1)+Ga (x.blk 2)+Ga (x.blk 3)
theorem UG (x:InoT) {j:Nat} (hj:j<4) (b:Int):nzI (x.setB j b)+Ga (x.blk j)=nzI x+Ga b:=by
  unfold nzI
  rw [DX x hj,DX x hj,DX x hj,DX x hj]
  rcases (ω:j=0∨j=1∨j=2∨j=3) with rfl | rfl | rfl | rfl<;>simp<;>omega
theorem Af6 {x:InoT} {n k:Nat} (hn:n≤4) (hk:k<n) (h0:x.blk k=0) (h:∀ j,n≤j→x.blk j=0):nzI x<n:=by
  have z:Ga 0=0:=rfl
  unfold nzI
  have a0:=FL (x.blk 0);have a1:=FL (x.blk 1);have a2:=FL (x.blk 2);have a3:=FL (x.blk 3)
  have g:∀ j,(n≤j∨j=k)→Ga (x.blk j)=0:=fun j hj=>by
    rcases hj with hj | hj
    · rw [h j hj];rfl
    · rw [hj,h0];rfl
  have g0:(n≤0∨0=k)→Ga (x.blk 0)=0:=g 0
  have g1:(n≤1∨1=k)→Ga (x.blk 1)=0:=g 1
  have g2:(n≤2∨2=k)→Ga (x.blk 2)=0:=g 2
  have g3:(n≤3∨3=k)→Ga (x.blk 3)=0:=g 3
  rcases (ω:k=0∨k=1∨k=2∨k=3) with rfl | rfl | rfl | rfl <;>
    (rcases (ω:n=1∨n=2∨n=3∨n=4) with rfl | rfl | rfl | rfl<;>first | omega | (simp at g0 g1 g2 g3;omega))
theorem YR {x:InoT} {n:Nat} (hn:n≤4) (h:∀ j,x.blk j≠0↔j<n):nzI x=n:=by
  have g:∀ j,Ga (x.blk j)=if j<n then 1 else 0:=fun j=>by
    unfold Ga
    by_cases e:j<n
    · rw [if_neg ((h j).2 e),if_pos e]
    · rw [if_pos (Classical.not_not.1 fun q=>e ((h j).1 q)),if_neg e]
  unfold nzI
  rw [g,g,g,g]
  rcases (ω:n=0∨n=1∨n=2∨n=3∨n=4) with rfl | rfl | rfl | rfl | rfl<;>rfl
abbrev DH:=Nat→InoT
def CU (X:DH) (k:Nat) (x:InoT):DH:=fun i=>if i=k then x else X i
theorem Dm (X:DH) (k:Nat) (x:InoT):CU X k x k=x:=if_pos rfl
theorem Ff {X:DH} {k i:Nat} {x:InoT} (h:i≠k):CU X k x i=X i:=if_neg h
theorem RN (X:DH) (k:Nat) (x y:InoT):CU (CU X k x) k y=CU X k y:=by
  funext i;unfold CU;split<;>rfl
def Hk (X:DH):Nat:=nzI (X 0)+nzI (X 1)+nzI (X 2)+nzI (X 3)
theorem GV (X:DH) {k:Nat} (hk:k<4) (x:InoT):Hk (CU X k x)+nzI (X k)=Hk X+nzI x:=by
  unfold Hk CU
  rcases (ω:k=0∨k=1∨k=2∨k=3) with rfl | rfl | rfl | rfl<;>simp<;>omega
structure MapOk (m:List UInt8) (X:DH):Prop where
  l:m.length=16
  u:∀ k j,k<4→(X k).blk j≠0→CM m ((X k).blk j)=true
  d:∀ k k' j j',k<4→k'<4→(X k).blk j≠0→(X k).blk j=(X k').blk j'→k=k'∧j=j'
  c:IY m=2+Hk X
theorem MapOk.give {m:List UInt8} {X:DH} (H:MapOk m X) {k j:Nat} (hk:k<4) (hj:j<4):MapOk (DJ m ((X k).blk j)) (CU X k ((X k).setB j 0)):=by
  have b':∀ i q,(CU X k ((X k).setB j 0) i).blk q=if i=k∧q=j then 0 else (X i).blk q:=fun i q=>by
    unfold CU;split
    · next e=>subst e;rw [DX _ hj];simp
    · next e=>rw [if_neg (fun z=>e z.1)]
  have tt:=GV X hk ((X k).setB j 0)
  have nn:=UG (X k) hj 0
  have z0:Ga 0=0:=rfl
  by_cases h0:(X k).blk j=0
  · have e:DJ m ((X k).blk j)=m:=by rw [h0];exact Adm m
    rw [e]
    refine ⟨H.l,fun i q hi=>?_,fun i i' q q' hi hi'=>?_,?_⟩
    · rw [b'];split
      · exact fun z=>absurd rfl z
      · exact H.u i q hi
    · rw [b',b'];split
      · exact fun z=>absurd rfl z
      · split
        · exact fun z z2=>absurd z2 z
        · exact H.d i i' q q' hi hi'
    · have:=H.c
      have e0:Ga ((X k).blk j)=0:=by rw [h0];rfl
      omega
  · have hu:=H.u k j hk h0
    have hb:=GA hu
    refine ⟨by rw [Aw];exact H.l,fun i q hi=>?_,fun i i' q q' hi hi'=>?_,?_⟩
    · rw [b'];split
      · exact fun z=>absurd rfl z
      · next e=>
        intro z
        rw [RP H.l hb,H.u i q hi z,decide_eq_false (fun q9=>e (H.d i k q j hi hk z q9))];rfl
    · rw [b',b'];split
      · exact fun z=>absurd rfl z
      · split
        · exact fun z z2=>absurd z2 z
        · exact H.d i i' q q' hi hi'
    · have:=H.c
      have g:=Xz H.l hu
      have e1:Ga ((X k).blk j)=1:=if_neg h0
      omega
theorem MapOk.take {m:List UInt8} {X:DH} (H:MapOk m X) {k j:Nat} {b:Int} (hk:k<4) (hj:j<4) (h0:(X k).blk j=0) (hb:1≤b∧b≤128) (hu:CM m b=false):MapOk (AV m b) (CU X k ((X k).setB j b)):=by
  have b':∀ i q,(CU X k ((X k).setB j b) i).blk q=if i=k∧q=j then b else (X i).blk q:=fun i q=>by
    unfold CU;split
    · next e=>subst e;rw [DX _ hj];simp
    · next e=>rw [if_neg (fun z=>e z.1)]
  have tt:=GV X hk ((X k).setB j b)
  have nn:=UG (X k) hj b
  have nb:∀ i q,i<4→(X i).blk q≠0→(X i).blk q≠b:=fun i q hi z e=>by
    have:=H.u i q hi z;rw [e,hu] at this;cases this
  refine ⟨by rw [AY];exact H.l,fun i q hi=>?_,fun i i' q q' hi hi'=>?_,?_⟩
  · rw [b',Lp H.l hb];split
    · intro _;simp
    · intro z;rw [H.u i q hi z];rfl
  · rw [b',b']
    by_cases e:i=k∧q=j
    · rw [if_pos e]
      by_cases e':i'=k∧q'=j
      · exact fun _ _=>⟨e.1.trans e'.1.symm,e.2.trans e'.2.symm⟩
      · rw [if_neg e']
        intro z z2
        exact absurd z2.symm (nb i' q' hi' (by rw [← z2];exact z))
    · rw [if_neg e]
      by_cases e':i'=k∧q'=j
      · rw [if_pos e']
        exact fun z z2=>absurd z2 (nb i q hi z)
      · rw [if_neg e'];exact H.d i i' q q' hi hi'
  · have:=H.c
    have g:=XA H.l hb hu
    have e1:Ga b=1:=if_neg ω
    have e0:Ga ((X k).blk j)=0:=by rw [h0];rfl
    omega
end
section
def NB (s:BE) (x:InoT):Nat→List UInt8
  | 0=>[]
  | k+1=>NB s x k++s 7 (x.blk k)
theorem IX {s s':BE} {x:InoT}:∀ {n:Nat},(∀ j,j<n→s' 7 (x.blk j)=s 7 (x.blk j))→NB s' x n=NB s x n
  | 0,_=>rfl
  | n+1,h=>by unfold NB;rw [IX fun j hj=>h j ω,h n ω]
theorem Xs {M:MemM} {P:List PtM} {s:BE} {n:Nat} (V:Vol M P s n) (x:InoT):∀ k,Ho M P x k=NB s x k
  | 0=>rfl
  | k+1=>by unfold Ho NB;rw [Xs V x k,← V.s];rfl
theorem Vol.l7 {M:MemM} {P:List PtM} {s:BE} {n:Nat} (V:Vol M P s n) {kd b:Int} {q:PartT} (h:Bj kd b=some q) (hk:kd=3∨kd=4∨kd=7):(s kd b).length=64:=by
  have z:=LJ (P:=P) V.m h ω
  rw [← V.s];unfold OH;rw [if_pos hk];exact z
theorem Ahi:∀ j:Fin 128,ET 7 ((j.val:Int)+1)=true:=by decide +kernel
theorem Iv {b:Int} (h:1≤b∧b≤128):ET 7 b=true:=by
  have z:=Ahi ⟨(b-1).toNat,ω⟩
  rw [show (((⟨(b-1).toNat,ω⟩:Fin 128).val:Nat):Int)+1=b by show ((b-1).toNat:Int)+1=b;omega] at z;exact z
theorem RO {s:BE} {kd nm:Int} {xs:List UInt8} (h:(s kd nm).length≤xs.length):BW s kd nm xs kd nm=xs:=by
  unfold BW;rw [if_pos ⟨rfl,rfl⟩,List.drop_of_length_le h,List.append_nil]
theorem FA {s:BE} {kd nm a b:Int} {xs:List UInt8} (h:¬ (a=kd∧b=nm)):BW s kd nm xs a b=s a b:=if_neg h
theorem Qy {s:BE} {m:List UInt8} (h:m.length=16):CH (BW s 3 0 m)=m:=by
  have e:BW s 3 0 m 3 0=m++(s 3 0).drop m.length:=if_pos ⟨rfl,rfl⟩
  unfold CH;rw [e];unfold Gw
  rw [if_neg (by rw [List.length_append];omega),← h,List.take_left]
theorem My {s s':BE} (h:s' 3 0=s 3 0):CH s'=CH s:=by unfold CH;rw [h]
structure FilOk (v:BE) (X:DH) (T:Nat→List UInt8):Prop where
  m:MapOk (CH v) X
  e:∀ k:Nat,k<4→CR v ((k:Int)+2)=0
  x:∀ k:Nat,k<4→CS v ((k:Int)+2)=X k
  k:∀ k,k<4→(X k).k=1
  y:∀ k,k<4→Cm (X k)=true
  s:∀ k,k<4→(X k).s=((T k).length:Int)∧(T k).length≤256
  t:∀ k,k<4→(NB v (X k) (AR ((T k).length:Int)).toNat).take (T k).length=T k
theorem MC {x:InoT} (hk:x.k=1):Cm x=(Do x&&!twI x):=by
  unfold Cm;rw [if_neg ω,if_pos hk]
theorem QI {j n s:Int}:okB j n s=true↔(j<s↔n≠0)∧0≤n∧n≤128:=by
  unfold okB
  rw [Bool.and_eq_true,decide_eq_true_eq,beq_iff_eq]
  by_cases h:n=0<;>by_cases h2:j<s<;>simp [h,h2]
theorem Aba {x:InoT} (hk:x.k=1) (hm:Cm x=true) (j:Nat):x.blk j≠0↔(j<4∧(64:Int)*j<x.s):=by
  rw [MC hk] at hm
  unfold Do KW at hm
  simp only [Bool.and_eq_true,QI] at hm
  obtain ⟨⟨⟨_,⟨⟨h0,h1⟩,h2⟩,h3⟩,_⟩,_⟩:=hm
  match j with
  | 0=>show x.b0≠0↔_;rw [← h0.1];omega
  | 1=>show x.b1≠0↔_;rw [← h1.1];omega
  | 2=>show x.b2≠0↔_;rw [← h2.1];omega
  | 3=>show x.b3≠0↔_;rw [← h3.1];omega
  | n+4=>show (0:Int)≠0↔_;omega
theorem Oj {n:Nat} {n0:Nat} (h:AR (n:Int)=(n0:Int)) (hn:n≤256) (j:Nat):j<n0↔(j<4∧(64:Int)*j<n):=by
  unfold AR at h;split at h<;>omega
theorem Ags {a b c d:Nat} (h1:b≠0→b≠a) (h2:c≠0→c≠b∧c≠a) (h3:d≠0→d≠c∧d≠b∧d≠a):tw a b c d=false:=by
  unfold tw twC
  have t:∀ (n:Nat) (l:List Nat),(n≠0→n∉l)→((n != 0)&&decide (n∈l))=false:=fun n l h=>by
    by_cases e:n=0
    · simp [e]
    · rw [decide_eq_false (h e),Bool.and_false]
  rw [t a [] (by simp),t b [a] (by simpa using h1),t c [b,a] (by simpa using h2),t d [c,b,a] (by simpa using h3)];rfl
theorem Abb {x z:InoT} {n:Nat} (hk:x.k=1) (hm:Cm x=true) (hz:z.k=x.k∧z.l=x.l∧z.o0=x.o0∧z.o1=x.o1∧z.o2=x.o2∧z.o3=x.o3∧z.o4=x.o4∧z.o5=x.o5∧z.o6=x.o6∧z.o7=x.o7) (hs:z.s=(n:Int)) (hn:n≤256)
    (hb:∀ j,z.blk j≠0↔(j<4∧(64:Int)*j<n)) (hr:∀ j,0≤z.blk j∧z.blk j≤128) (hd:∀ j j',z.blk j≠0→z.blk j=z.blk j'→j=j'):Cm z=true:=by
  obtain ⟨zk,zl,z0,z1,z2,z3,z4,z5,z6,z7⟩:=hz
  rw [MC (zk.trans hk)]
  rw [MC hk] at hm
  unfold Do at hm ⊢
  simp only [Bool.and_eq_true] at hm
  obtain ⟨⟨⟨g1,_⟩,g2⟩,_⟩:=hm
  have e1:Fp z.l z.s=true:=by
    unfold Fp at g1 ⊢
    have:=of_decide_eq_true g1
    exact decide_eq_true ⟨ω,ω,ω,ω⟩
  have e2:Mh z=true:=by unfold Mh at g2 ⊢;rw [z0,z1,z2,z3,z4,z5,z6,z7];exact g2
  have e3:KW z=true:=by
    unfold KW
    simp only [Bool.and_eq_true,QI]
    have b0:z.b0≠0↔_:=hb 0
    have b1:z.b1≠0↔_:=hb 1
    have b2:z.b2≠0↔_:=hb 2
    have b3:z.b3≠0↔_:=hb 3
    rw [hs]
    exact ⟨⟨⟨⟨by rw [b0];omega,hr 0⟩,by rw [b1];omega,hr 1⟩,by rw [b2];omega,hr 2⟩,by rw [b3];omega,hr 3⟩
  have e4:twI z=false:=by
    unfold twI
    have r0:0≤z.b0∧_:=hr 0
    have r1:0≤z.b1∧_:=hr 1
    have r2:0≤z.b2∧_:=hr 2
    have r3:0≤z.b3∧_:=hr 3
    have d10:z.b1≠0→z.b1=z.b0→1=0:=hd 1 0
    have d21:z.b2≠0→z.b2=z.b1→2=1:=hd 2 1
    have d20:z.b2≠0→z.b2=z.b0→2=0:=hd 2 0
    have d32:z.b3≠0→z.b3=z.b2→3=2:=hd 3 2
    have d31:z.b3≠0→z.b3=z.b1→3=1:=hd 3 1
    have d30:z.b3≠0→z.b3=z.b0→3=0:=hd 3 0
    exact Ags (fun h e=>by have:=d10 ω ω;omega) (fun h=>⟨fun e=>by have:=d21 ω ω;omega,fun e=>by have:=d20 ω ω;omega⟩)
      (fun h=>⟨fun e=>by have:=d32 ω ω;omega,fun e=>by have:=d31 ω ω;omega,fun e=>by have:=d30 ω ω;omega⟩)
  rw [e1,e2,e3,e4];rfl
def Ka (z x:InoT):Prop:=z.k=x.k∧z.l=x.l∧z.o0=x.o0∧z.o1=x.o1∧z.o2=x.o2∧z.o3=x.o3∧z.o4=x.o4∧z.o5=x.o5∧z.o6=x.o6∧z.o7=x.o7
theorem KN {z x:InoT} (h:Ka z x) (j:Nat) (b:Int):Ka (z.setB j b) x∧(z.setB j b).s=z.s:=by
  unfold InoT.setB;split<;>exact ⟨h,rfl⟩
theorem OY {m:List UInt8} {X:DH} {k:Nat} {x:InoT} {n0:Nat} (hk:k<4) (H:MapOk m (CU X k x)):∀ i,n0+i≤4→MapOk (Cy x n0 m i) (CU X k (Bh x n0 i))∧Ka (Bh x n0 i) x∧(Bh x n0 i).s=x.s∧∀ j,(Bh x n0 i).blk j=if n0≤j∧j<n0+i then 0 else x.blk j
  | 0,_=>⟨H,⟨rfl,rfl,rfl,rfl,rfl,rfl,rfl,rfl,rfl,rfl⟩,rfl,fun j=>by rw [if_neg ω];rfl⟩
  | i+1,h=>by
    obtain ⟨i1,i2,i3,i4⟩:=OY (n0:=n0) hk H i ω
    have z:=i1.give (j:=n0+i) hk ω
    rw [Dm,RN] at z
    refine ⟨z,(KN i2 _ _).1,(KN i2 _ _).2.trans i3,fun j=>?_⟩
    show ((Bh x n0 i).setB (n0+i) 0).blk j=_
    rw [DX _ (ω:n0+i<4),i4]
    by_cases e:j=n0+i
    · rw [if_pos e,if_pos ω]
    · rw [if_neg e]
      by_cases e2:n0≤j∧j<n0+i
      · rw [if_pos e2,if_pos ω]
      · rw [if_neg e2,if_neg ω]
end
section
section
variable {M:MemM} {P:List PtM} {s:BE} {c:Nat} {X:DH} {k n0:Nat} {y z:InoT} {sp:Int}
structure AlOk (M:MemM) (s:BE) (X:DH) (k c i:Nat) (y x:InoT) (P:List PtM) (s':BE) (c':Nat):Prop where
  v:Vol M P s' c'
  c:c'≤c+2*i
  m:MapOk (CH s') (CU X k x)
  r:Ka x y∧x.s=y.s
  lo:∀ j,j<i→x.blk j≠0
  hi:∀ j,i≤j→x.blk j=y.blk j
  n4:∀ a,s' 4 a=s 4 a
  n7:∀ b,CM (CH s) b=true→s' 7 b=s 7 b∧CM (CH s') b=true
theorem ZY (hk:k<4) {x:InoT} {m:List UInt8} (H:MapOk m (CU X k x)) (hn:n0≤4) {i:Nat} (hi:i<n0) (h0:x.blk i=0) (hz:∀ j,n0≤j→x.blk j=0) (hr:((2+Hk (CU X k AP)+n0:Nat):Int)≤128-max sp 0):¬ 128-((Cg m 128).length:Int)≤max sp 0∧IY m<128:=by
  have t1:=GV X hk x
  have t2:=GV X hk AP
  have z0:nzI AP=0:=rfl
  have lt:=Af6 hn hi h0 hz
  have cc:=H.c
  have e:IY m=(Cg m 128).length:=rfl
  rw [← e]
  constructor<;>omega
theorem Xk (V:Vol M P s c) (hc:c≤30) (hk:k<4) (hn:n0≤4) (H:MapOk (CH s) (CU X k y)) :
    ∀ i,i≤n0→(∀ j,j≤i→∃ s' c',AlOk M s X k c j y (alS M sp y P j).1 (alS M sp y P j).2 s' c'∧(j<i→(alS M sp y P j).1.blk j=0→bE M (alS M sp y P j).2 sp=0)) ∨
      ∃ f,f<i∧(∀ j,j<f→(alS M sp y P j).1.blk j=0→bE M (alS M sp y P j).2 sp=0)∧(alS M sp y P f).1.blk f=0∧bE M (alS M sp y P f).2 sp=18∧∃ s' c',AlOk M s X k c f y (alS M sp y P f).1 (alS M sp y P f).2 s' c'
  | 0,_=>.inl fun j hj=>by
    obtain rfl:j=0:=ω
    exact ⟨s,c,⟨V,ω,H,⟨⟨rfl,rfl,rfl,rfl,rfl,rfl,rfl,rfl,rfl,rfl⟩,rfl⟩,fun j hj=>ω,fun j _=>rfl,fun _=>rfl,fun b h=>⟨rfl,h⟩⟩,fun h=>ω⟩
  | i+1,hi=>by
    rcases Xk V hc hk hn H i ω with ih | ⟨f,hf,g⟩
    case inr=>exact .inr ⟨f,ω,g⟩
    obtain ⟨s1,c1,A,_⟩:=ih i (Nat.le_refl _)
    have ac:=A.c
    have up:(∃ s' c',AlOk M s X k c (i+1) y (alS M sp y P (i+1)).1 (alS M sp y P (i+1)).2 s' c')→((alS M sp y P i).1.blk i=0→bE M (alS M sp y P i).2 sp=0)→∀ j,j≤i+1→∃ s' c',AlOk M s X k c j y (alS M sp y P j).1 (alS M sp y P j).2 s' c'∧(j<i+1→(alS M sp y P j).1.blk j=0→bE M (alS M sp y P j).2 sp=0):=fun h1 h2 j hj=>by
      by_cases e:j=i+1
      · subst e
        obtain ⟨s',c',B⟩:=h1
        exact ⟨s',c',B,fun h=>ω⟩
      · obtain ⟨s',c',B,hB⟩:=ih j ω
        refine ⟨s',c',B,fun _ h0=>?_⟩
        by_cases e2:j=i
        · subst e2;exact h2 h0
        · exact hB ω h0
    by_cases h0:(alS M sp y P i).1.blk i=0
    · by_cases r1:128-((Cg (CH s1) 128).length:Int)≤max sp 0
      · refine .inr ⟨i,ω,fun j hj h=>?_,h0,?_,s1,c1,A⟩
        · obtain ⟨_,_,_,hB⟩:=ih j ω
          exact hB hj h
        · unfold bE;rw [if_pos (by unfold CW;rw [KC A.v];exact r1)]
      · have r2:IY (CH s1)<128:=by unfold IY;omega
        obtain ⟨f1,f2,f3⟩:=Mk r2
        obtain ⟨q,hq⟩:=Bk (Iv ⟨f1,f2⟩)
        have bv:=Ku A.v rfl rfl r1 hq ω
        refine .inl (up ?_ fun _=>bv.2.1)
        rw [Ac6 (fun h=>h h0)]
        have nb:∀ b,CM (CH s1) b=true→b≠As (CH s1) 1:=fun b h e=>by rw [e,f3] at h;cases h
        have tk:=A.m.take hk (ω:i<4) (by rw [Dm];exact h0) ⟨f1,f2⟩ f3
        rw [Dm,RN] at tk
        have em:CH (BW (BW s1 3 0 (AV (CH s1) (As (CH s1) 1))) 7 (As (CH s1) 1) (List.replicate 64 0))=AV (CH s1) (As (CH s1) 1):=
          (My (FA (fun e=>absurd e.1 (by decide)))).trans (Qy (by rw [AY];exact A.m.l))
        have rs:=KN A.r.1 i (As (CH s1) 1)
        refine ⟨_,c1+2,bv.2.2,ω,?_,⟨?_,?_⟩,fun j hj=>?_,fun j hj=>?_,fun a=>?_,fun b h=>?_⟩
        · rw [em,bv.1];exact tk
        · rw [bv.1];exact rs.1
        · rw [bv.1];exact rs.2.trans A.r.2
        · rw [bv.1,DX _ (ω:i<4)]
          by_cases e:j=i
          · rw [if_pos e];omega
          · rw [if_neg e];exact A.lo j ω
        · rw [bv.1,DX _ (ω:i<4),if_neg ω];exact A.hi j ω
        · rw [FA (fun e=>absurd e.1 (by decide)),FA (fun e=>absurd e.1 (by decide))];exact A.n4 a
        · have u:=A.n7 b h
          rw [FA (fun e=>nb b u.2 e.2),FA (fun e=>absurd e.1 (by decide)),em,Lp A.m.l ⟨f1,f2⟩,u.2]
          exact ⟨u.1,rfl⟩
    · refine .inl (up ?_ fun h=>absurd h h0)
      rw [Ac7 h0]
      refine ⟨s1,c1,A.v,ω,A.m,A.r,fun j hj=>?_,fun j hj=>A.hi j ω,A.n4,A.n7⟩
      by_cases e:j=i
      · rw [e];exact h0
      · exact A.lo j ω
theorem Ac5 (V:Vol M P s c) (hc:c≤30) (hk:k<4) (hn:n0≤4) (H:MapOk (CH s) (CU X k y)) (hz:∀ j,n0≤j→y.blk j=0) (hr:∀ j,j<n0→y.blk j=0→((2+Hk (CU X k AP)+n0:Nat):Int)≤128-max sp 0) :
    ∀ j,j≤n0→∃ s' c',AlOk M s X k c j y (alS M sp y P j).1 (alS M sp y P j).2 s' c'∧(j<n0→(alS M sp y P j).1.blk j=0→bE M (alS M sp y P j).2 sp=0):=by
  rcases Xk (sp:=sp) V hc hk hn H n0 (Nat.le_refl _) with h | ⟨f,hf,_,g2,g3,s',c',A⟩
  · exact h
  · exfalso
    have ac:=A.c
    have yf:y.blk f=0:=(A.hi f (Nat.le_refl _)).symm.trans g2
    obtain ⟨r1,r2⟩:=ZY hk A.m hn hf g2 (fun j hj=>(A.hi j ω).trans (hz j hj)) (hr f hf yf)
    obtain ⟨f1,f2,f3⟩:=Mk r2
    obtain ⟨q,hq⟩:=Bk (Iv ⟨f1,f2⟩)
    rw [(Ku A.v rfl rfl r1 hq ω).2.1] at g3
    exact absurd g3 (by decide)
theorem Ae7 (V:Vol M P s c) (hc:c≤30) (hk:k<4) (hn:n0≤4) (H:MapOk (CH s) (CU X k y)) (hz:∀ j,n0≤j→y.blk j=0) (h0:0<n0) (hl:y.blk (n0-1)=0) (hr:¬ ((2+Hk (CU X k AP)+n0:Nat):Int)≤128-max sp 0) :
    ∃ f,f<n0∧(∀ j,j<f→(alS M sp y P j).1.blk j=0→bE M (alS M sp y P j).2 sp=0)∧(alS M sp y P f).1.blk f=0∧bE M (alS M sp y P f).2 sp=18:=by
  rcases Xk (sp:=sp) V hc hk hn H n0 (Nat.le_refl _) with h | ⟨f,hf,g1,g2,g3,_⟩
  · exfalso
    obtain ⟨s',c',A,hb⟩:=h (n0-1) ω
    have xl:=(A.hi (n0-1) (Nat.le_refl _)).trans hl
    have hb:=hb ω xl
    have nz:nzI (alS M sp y P (n0-1)).1=n0-1:=YR ω fun j=>⟨fun q=>Classical.byContradiction fun e=>q (by
      by_cases e2:j=n0-1
      · rw [e2];exact xl
      · exact (A.hi j ω).trans (hz j ω)),A.lo j⟩
    have t1:=GV X hk (alS M sp y P (n0-1)).1
    have t2:=GV X hk AP
    have z0:nzI AP=0:=rfl
    have cc:=A.m.c
    have e:IY (CH s')=(Cg (CH s') 128).length:=rfl
    unfold bE at hb
    split at hb
    · exact absurd hb (by decide)
    · next q=>
      refine q ?_
      unfold CW
      rw [KC A.v,← e]
      omega
  · exact ⟨f,hf,g1,g2,g3⟩
theorem NU {Y:List UInt8} {n j:Nat} (h:Y.length=n*64) (hj:j<n):(GF Y j).length=64:=by unfold GF;exact Nx h hj
theorem ZU (V:Vol M P s c) (hc:c≤50) (hn:n0≤4) {Y:List UInt8} (hY:Y.length=n0*64) (hb:∀ j,j<n0→1≤z.blk j∧z.blk j≤128) (hd:∀ j j',j<n0→z.blk j=z.blk j'→j=j') :
    ∀ i,i≤n0→∃ s',Vol M (wrP M z Y P i) s' (c+i)∧(i<n0→stE M (wrP M z Y P i) 7 (z.blk i) 64=0)∧(∀ a b,(a=7→∀ j,j<i→b≠z.blk j)→s' a b=s a b)∧∀ j,j<i→s' 7 (z.blk j)=GF Y j:=by
  have st:∀ {i:Nat} {P':List PtM} {s':BE},Vol M P' s' (c+i)→i<n0→stE M P' 7 (z.blk i) 64=0∧Vol M (stP M P' 7 (z.blk i) (GF Y i)) (BW s' 7 (z.blk i) (GF Y i)) (c+i+1):=fun {i P' s'} v hi=>by
    obtain ⟨q,hq⟩:=Bk (Iv (hb i hi))
    have l:=NU hY hi
    have u:=v.put (xs:=GF Y i) hq (.inr (.inr rfl)) ω ω
    rw [l] at u;exact u
  intro i
  induction i with
  | zero=>exact fun _=>⟨s,V,fun h=>(st (i:=0) V h).1,fun _ _ _=>rfl,fun j hj=>ω⟩
  | succ i ih=>
    intro hi
    obtain ⟨s1,v,_,g1,g2⟩:=ih ω
    have u:=(st v ω).2
    refine ⟨_,u,fun h=>(st (i:=i+1) u h).1,fun a b h=>?_,fun j hj=>?_⟩
    · rw [FA (fun e=>h e.1 i ω e.2)]
      exact g1 a b fun e j hj=>h e j ω
    · by_cases e:j=i
      · rw [e]
        obtain ⟨q,hq⟩:=Bk (Iv (hb i ω))
        exact RO (by rw [v.l7 hq (.inr (.inr rfl)),NU hY ω];exact Nat.le_refl _)
      · rw [FA (fun q=>e (hd j i ω q.2))]
        exact g2 j ω
theorem Xt {s':BE} {Y:List UInt8} (hg:∀ j,j<n0→s' 7 (z.blk j)=GF Y j):∀ i,i≤n0→NB s' z i=Y.take (i*64)
  | 0,_=>by simp [NB]
  | i+1,h=>by
    unfold NB
    rw [Xt hg i ω,hg i ω]
    unfold GF
    rw [show ((((i+1:Nat):Int)*64).toNat)=(i+1)*64 by omega,show (((i:Int)*64).toNat)=i*64 by omega]
    have e:Y.take (i*64)=(Y.take ((i+1)*64)).take (i*64):=by rw [List.take_take,Nat.min_eq_left ω]
    rw [e,List.take_append_drop]
end
end
section
theorem MapOk.congr {m:List UInt8} {X Y:DH} (H:MapOk m X) (h:∀ i j,(Y i).blk j=(X i).blk j):MapOk m Y:=by
  have t:Hk Y=Hk X:=by unfold Hk nzI;simp only [h]
  exact ⟨H.l,fun k j hk=>by rw [h];exact H.u k j hk,fun k k' j j' hk hk'=>by rw [h,h];exact H.d k k' j j' hk hk',by rw [t];exact H.c⟩
theorem Lc {s s':BE} {i:Int} (h:s' 4 i=s 4 i):CR s' i=CR s i∧CS s' i=CS s i:=by
  unfold CR CS;rw [h];exact ⟨rfl,rfl⟩
theorem UA {k:Nat} (h:k<4):ET 4 ((k:Int)+2)=true:=by
  have:=Yj ⟨k+1,ω⟩;rw [show (k:Int)+2=((k+1+1:Nat):Int) by omega];exact this
def TW (T:Nat→List UInt8) (k:Nat) (S:List UInt8):Nat→List UInt8:=fun i=>if i=k then S else T i
theorem MQ {a b c:InoT} (h:Ka a b) (g:Ka b c):Ka a c:=by
  unfold Ka at *;simp only [h,g,and_self]
theorem Pu (x:InoT):nzI x≤4:=by
  unfold nzI
  have a0:=FL (x.blk 0);have a1:=FL (x.blk 1);have a2:=FL (x.blk 2);have a3:=FL (x.blk 3)
  omega
section
variable {M:MemM} {s:BE} {X:DH} {T:Nat→List UInt8} {k n0:Nat} {sp:Int} {S:List UInt8}
theorem FilOk.blk (H:FilOk s X T) {i:Nat} (hi:i<4) (j:Nat):(X i).blk j≠0↔j<(AR ((T i).length:Int)).toNat:=by
  rw [Aba (H.k i hi) (H.y i hi),(H.s i hi).1]
  have h:=(H.s i hi).2
  exact (Oj (n0:=(AR ((T i).length:Int)).toNat) (by unfold AR;split<;>omega) h j).symm
theorem FilOk.tot (H:FilOk s X T):Hk X=(AR ((T 0).length:Int)).toNat+(AR ((T 1).length:Int)).toNat+(AR ((T 2).length:Int)).toNat+(AR ((T 3).length:Int)).toNat:=by
  have g:∀ i,i<4→nzI (X i)=(AR ((T i).length:Int)).toNat:=fun i hi=>YR (by have:=(H.s i hi).2;unfold AR;split<;>omega) (H.blk hi)
  unfold Hk;rw [g 0 ω,g 1 ω,g 2 ω,g 3 ω]
theorem Up (V:Vol M [] s 0) (x0:InoT) (hl:(CH s).length=16):IO M [] x0 n0=0∧∃ s1 c1,Vol M (Hq M [] x0 n0) s1 c1∧c1≤1∧CH s1=Cy x0 n0 (CH s) (4-n0)∧∀ a b,a≠3→s1 a b=s a b:=by
  have em:=KC V
  have l16:=AI x0 n0 hl (4-n0)
  have z:=Nh V (xs:=Cy x0 n0 (CH s) (4-n0)) l16 ω
  unfold IO Hq
  rw [em]
  by_cases h:Cy x0 n0 (CH s) (4-n0)=CH s
  · rw [if_pos h,if_pos h]
    exact ⟨rfl,s,0,V,ω,h.symm,fun _ _ _=>rfl⟩
  · rw [if_neg h,if_neg h]
    exact ⟨z.1,_,1,z.2,ω,Qy l16,fun a b e=>FA fun q=>e q.1⟩
theorem Ab6 (V:Vol M [] s 0) (H:FilOk s X T) (hk:k<4) (hS:S.length≤256) (hsp:-9223372036854775808≤sp∧sp≤9223372036854775807) (hn:AR (S.length:Int)=(n0:Int)) (hr:∀ j,j<n0→(X k).blk j=0→((2+Hk (CU X k AP)+n0:Nat):Int)≤128-max sp 0) :
    ∃ y z P1 P2,SetH M [] ((k:Int)+2) sp (X k) y z n0 S P1 P2∧∃ s' c',c'≤20∧Vol M (BC M (wrP M z (rzL S (n0*64)) P2 n0) ((k:Int)+2) z) s' c'∧FilOk s' (CU X k z) (TW T k S)∧∀ i:Int,i≠(k:Int)+2→s' 4 i=s 4 i:=by
  have hn4:n0≤4:=GN hn ω
  have hsz:S.length≤n0*64:=by have:=QF hn ω;omega
  have H0:MapOk (CH s) (CU X k (szX (X k) (S.length:Int))):=H.m.congr fun i j=>by
    unfold CU;split
    · next e=>rw [e];rfl
    · rfl
  obtain ⟨C1,C2,C3,C4⟩:=OY (n0:=n0) hk H0 (4-n0) ω
  obtain ⟨hcE,s1,c1,V1,hc1,em1,es1⟩:=Up (n0:=n0) V (szX (X k) (S.length:Int)) H.m.l
  have hz:∀ j,n0≤j→(Bh (szX (X k) (S.length:Int)) n0 (4-n0)).blk j=0:=fun j hj=>by
    by_cases h4:j<4
    · rw [C4,if_pos ω]
    · exact Uk _ ω
  have fE:GG M [] ((k:Int)+2)=0∧GH M [] ((k:Int)+2)=X k:=by
    have hE:AT M [] ((k:Int)+2)=0:=(Fr V _).trans (H.e k hk)
    have hR:Am M [] ((k:Int)+2)=X k:=(Gb V _).trans (H.x k hk)
    have h1:=H.k k hk
    unfold GG GH
    rw [hR,hE]
    constructor<;>simp [h1]
  have al:=Ac5 (sp:=sp) V1 ω hk hn4 (by rw [em1];exact C1) hz (fun j hj h=>hr j hj (by rw [C4,if_neg ω] at h;exact h))
  obtain ⟨s2,c2,A,_⟩:=al n0 (Nat.le_refl _)
  generalize hzz:alS M sp (Bh (szX (X k) (S.length:Int)) n0 (4-n0)) (Hq M [] (szX (X k) (S.length:Int)) n0) n0=zz at A
  obtain ⟨z,P2⟩:=zz
  dsimp only at A
  have zi:∀ j,z.blk j≠0↔j<n0:=fun j=>⟨fun h=>Classical.byContradiction fun q=>h ((A.hi j ω).trans (hz j ω)),A.lo j⟩
  have zu:∀ j,z.blk j≠0→1≤z.blk j∧z.blk j≤128:=fun j h=>by
    have:=A.m.u k j hk (by rw [Dm];exact h)
    rw [Dm] at this;exact GA this
  have zd:∀ j j',z.blk j≠0→z.blk j=z.blk j'→j=j':=fun j j' h e=>(A.m.d k k j j' hk hk (by rw [Dm];exact h) (by rw [Dm];exact e)).2
  have ac:=A.c
  obtain ⟨s3,V3,_,g1,g2⟩:=ZU (z:=z) A.v ω hn4 (IE S (n0*64)) (fun j hj=>zu j ((zi j).2 hj)) (fun j j' hj e=>zd j j' ((zi j).2 hj) e) n0 (Nat.le_refl _)
  have wr:=ZU (z:=z) A.v ω hn4 (IE S (n0*64)) (fun j hj=>zu j ((zi j).2 hj)) (fun j j' hj e=>zd j j' ((zi j).2 hj) e)
  have rz:Ka z (X k):=MQ A.r.1 (MQ C2 ⟨rfl,rfl,rfl,rfl,rfl,rfl,rfl,rfl,rfl,rfl⟩)
  have zs:z.s=(S.length:Int):=A.r.2.trans C3
  have hm:Cm z=true:=Abb (H.k k hk) (H.y k hk) rz zs hS (fun j=>(zi j).trans (Oj hn hS j)) (fun j=>by
    by_cases h:z.blk j=0
    · omega
    · have:=zu j h;omega) zd
  have hp:Ew z=0:=if_pos hm
  obtain ⟨q4,hq4⟩:=Bk (UA hk)
  have si:=Gy V3 hq4 hp rfl (Abt _) ω
  refine ⟨_,z,_,P2,{
    fE:=fE.1
    fX:=fE.2
    l:=hS
    hsp:=hsp
    hn:=hn
    xb:=fun j=>by
      by_cases h:(X k).blk j=0
      · rw [h];decide
      · have:=GA (H.m.u k j hk h);omega
    cX:=rfl
    cE:=hcE
    cP:=rfl
    al:=fun j hj h=>by obtain ⟨_,_,_,b⟩:=al j ω;exact b hj h
    hz:=hzz
    fd:=fun j hj=>Bk (Iv (zu j ((zi j).2 hj)))
    st:=fun j hj=>by obtain ⟨_,_,b,_⟩:=wr j ω;exact b hj
    sE:=si.1 },_,_,ω,si.2,?_⟩
  have e4:∀ i:Int,i≠(k:Int)+2→BW s3 4 ((k:Int)+2) (Cd z) 4 i=s 4 i:=fun i hi=>by
    rw [FA (fun q=>hi q.2),g1 _ _ (fun q=>absurd q (by decide)),A.n4,es1 _ _ (by decide)]
  have k4:BW s3 4 ((k:Int)+2) (Cd z) 4 ((k:Int)+2)=Cd z:=RO (by rw [V3.l7 hq4 (.inr (.inl rfl)),Oq hm];exact Nat.le_refl _)
  have e7:∀ b,BW s3 4 ((k:Int)+2) (Cd z) 7 b=s3 7 b:=fun b=>FA fun q=>absurd q.1 (by decide)
  have rd:=WA hm
  have em:CH (BW s3 4 ((k:Int)+2) (Cd z))=CH s2:=My ((FA fun q=>absurd q.1 (by decide)).trans (g1 _ _ fun q=>absurd q (by decide)))
  refine ⟨⟨by rw [em];exact A.m,fun i hi=>?_,fun i hi=>?_,fun i hi=>?_,fun i hi=>?_,fun i hi=>?_,fun i hi=>?_⟩,e4⟩
  · by_cases e:i=k
    · subst e;unfold CR;rw [k4,if_pos (UA hi),if_pos rd.2]
    · rw [(Lc (e4 ((i:Int)+2) ω)).1];exact H.e i hi
  · by_cases e:i=k
    · subst e;unfold CS;rw [k4,Dm];exact rd.1
    · rw [(Lc (e4 ((i:Int)+2) ω)).2,Ff e];exact H.x i hi
  · by_cases e:i=k
    · subst e;rw [Dm,rz.1];exact H.k i hi
    · rw [Ff e];exact H.k i hi
  · by_cases e:i=k
    · subst e;rw [Dm];exact hm
    · rw [Ff e];exact H.y i hi
  · unfold TW
    by_cases e:i=k
    · subst e;rw [Dm,if_pos rfl];exact ⟨zs,hS⟩
    · rw [Ff e,if_neg e];exact H.s i hi
  · unfold TW
    by_cases e:i=k
    · subst e
      rw [Dm,if_pos rfl,hn,show ((n0:Int)).toNat=n0 by omega,IX (s:=s3) fun j _=>e7 _,Xt g2 n0 (Nat.le_refl _),List.take_of_length_le (l:=rzL S (n0*64)) (by rw [IE];exact Nat.le_refl _),UR hsz]
      exact List.take_left' rfl
    · rw [Ff e,if_neg e]
      rw [IX (s:=s) fun j hj=>?_]
      · exact H.t i hi
      · have hb:=(H.blk hi j).2 hj
        have u1:CM (CH s1) ((X i).blk j)=true:=by
          have:=C1.u i j hi (by rw [Ff e];exact hb)
          rw [Ff e] at this;rw [em1];exact this
        rw [e7,g1 7 _ (fun _ j' hj' q=>e ((A.m.d i k j j' hi hk (by rw [Ff e];exact hb) (by rw [Ff e,Dm];exact q)).1)),(A.n7 _ u1).1,es1 _ _ (by decide)]
end
end
section
structure VolB where
 M:MemM
 v:Vol M [] s4S 0
theorem Vm {w:World} {R:List Ch} (hS:Sep w R):CallsR Tryz.prog 7 #[] w (fun v w'=>∃ K ta tc,∃ mv:VolB,∃ mx fx vx,v=π vx∧Sep w' (Ad vx 34 [π K.tg,π mx,π fx]::Ad fx 83 [π K.tg,π mx]::Ad mx 103 [π K.tg]::txP K ta tc mv.M []::R)):=
 Calls.mono (Aae (R:=R) hS) fun e w' z=>by
  obtain ⟨v,e1,K,ta,tc,M,mx,fx,vx,e2,hv,s⟩:=z
  exact ⟨v,e1,K,ta,tc,⟨M,hv⟩,mx,fx,vx,e2,s⟩
section
variable {w:World} {R:List Ch} {fx mx:Nat} {K:VolK} {ta:Option Addr} {tc:Nat} {M:MemM} {S:List UInt8}
def Ah4 (i e:Int):Prop:=(i<1∧e=1)∨(32<i∧e=1)∨(i=1∧e=13)∨(6≤i∧i≤32∧e=10)
end
end
section
def T0F:Nat→List UInt8:=fun _=>[]
structure VolC where
  M:MemM
  s:BE
  X:DH
  T:Nat→List UInt8
  v:Vol M [] s 0
  h:FilOk s X T
  r:∀ i:Int,(i<2∨5<i)→s 4 i=s4S 4 i
structure VolF where
  M:MemM
  P:List PtM
  s:BE
  c:Nat
  X:DH
  T:Nat→List UInt8
  v:Vol M P s c
  hc:c≤20
  h:FilOk s X T
  r:∀ i:Int,(i<2∨5<i)→s 4 i=s4S 4 i
theorem Adi:FilOk s4S (fun _=>opX) T0F:=by
  have b0:∀ j,opX.blk j=0:=fun j=>match j with
    | 0=>rfl
    | 1=>rfl
    | 2=>rfl
    | 3=>rfl
    | n+4=>rfl
  exact ⟨⟨by decide +kernel,fun _ j _ h=>absurd (b0 j) h,fun _ _ j _ _ _ h=>absurd (b0 j) h,by decide +kernel⟩,fun k hk=>Aet ⟨k,hk⟩,fun k hk=>Ab5 k hk,fun _ _=>rfl,fun _ _=>by decide +kernel,fun _ _=>⟨rfl,Nat.zero_le 256⟩,fun _ _=>rfl⟩
def Agv (m:VolB):VolC:=⟨m.M,s4S,fun _=>opX,T0F,m.v,Adi,fun _ _=>rfl⟩
def ndT (T:Nat→List UInt8) (k:Nat):Nat:=(AR ((T k).length:Int)).toNat
def Agp (T:Nat→List UInt8):Nat→Int
  | 0=>2
  | k+1=>Agp T k+((ndT T k:Nat):Int)
def szL (T:Nat→List UInt8):List Int:=[((T 0).length:Int),((T 1).length:Int),((T 2).length:Int),((T 3).length:Int)]
theorem II (T:Nat→List UInt8) (k:Nat) (S:List UInt8):TW T k S k=S:=if_pos rfl
theorem Af5 {T:Nat→List UInt8} {k:Nat} (h:(T k).length≤256):ndT T k≤4:=by unfold ndT AR;split<;>omega
theorem VolC.nd (V:VolC) {k:Nat} (h:k<4):ndT V.T k≤4:=Af5 (V.h.s k h).2
theorem VolC.cnt (V:VolC):((Cg (Ap V.M []) 128).length:Int)=Agp V.T 4:=by
  have c:=V.h.m.c
  have t:=V.h.tot
  rw [KC V.v]
  show ((IY (CH V.s):Nat):Int)=2+((ndT V.T 0:Nat):Int)+((ndT V.T 1:Nat):Int)+((ndT V.T 2:Nat):Int)+((ndT V.T 3:Nat):Int)
  unfold ndT;omega
theorem VolC.room (V:VolC) {k n0:Nat} (hk:k<4) (hn:n0≤4):((2+Hk (CU V.X k AP)+n0:Nat):Int)≤128-max 0 0:=by
  unfold Hk
  have a0:=Pu (CU V.X k AP 0);have a1:=Pu (CU V.X k AP 1);have a2:=Pu (CU V.X k AP 2);have a3:=Pu (CU V.X k AP 3)
  omega
section
variable {w:World} {R:List Ch} {fx mx:Nat} {K:VolK} {ta:Option Addr} {tc:Nat} {k:Nat} {S:List UInt8}
theorem QE (S:List UInt8):∃ n0:Nat,AR (S.length:Int)=(n0:Int):=⟨(AR (S.length:Int)).toNat,by unfold AR;split<;>omega⟩
theorem Acw (V:VolC) (hS:Sep w ([Ad fx 83 [π K.tg,π mx],mtC mx K,txP K ta tc V.M []]++R)) (hk:k<4) {i:Int} (hi:i=(k:Int)+2) (hl:S.length≤256) {sp:Int} (hsp:-9223372036854775808≤sp∧sp≤9223372036854775807) (hr:∀ n0:Nat,AR (S.length:Int)=(n0:Int)→∀ j,j<n0→(V.X k).blk j=0→((2+Hk (CU V.X k AP)+n0:Nat):Int)≤128-max sp 0) :
    CallsR Tryz.prog 16 #[π fx,ν i,σ S,ν sp] w (fun v w'=>∃ ta' tc',∃ V':VolF,v=ν 0∧Sep w' ([Ad fx 83 [π K.tg,π mx],mtC mx K,txP K ta' tc' V'.M V'.P]++R)∧V'.T=TW V.T k S):=by
  subst hi
  obtain ⟨n0,hn⟩:=QE S
  obtain ⟨y,z,P1,P2,H,s',c',hc,v',f',r'⟩:=Ab6 V.v V.h hk hl hsp hn (hr n0 hn)
  exact Calls.mono (Ac1 hS V.v.m H) fun e w' q=>by
    obtain ⟨v,e1,ta',tc',e2,s⟩:=q
    exact ⟨v,e1,ta',tc',⟨V.M,_,s',c',_,_,v',hc,f',fun i hi=>(r' i ω).trans (V.r i hi)⟩,e2,s,rfl⟩
theorem Aew (V:VolC) (hS:Sep w ([Ad fx 83 [π K.tg,π mx],mtC mx K,txP K ta tc V.M []]++R)) (hk:k<4) {i:Int} (hi:i=(k:Int)+2) (hl:S.length≤256) :
    CallsR Tryz.prog 16 #[π fx,ν i,σ S,ν 0] w (fun v w'=>∃ ta' tc',∃ V':VolF,v=ν 0∧Sep w' ([Ad fx 83 [π K.tg,π mx],mtC mx K,txP K ta' tc' V'.M V'.P]++R)∧V'.T=TW V.T k S):=
  Acw V hS hk hi hl (by decide) fun n0 hn _ _ _=>V.room hk (GN hn ω)
theorem XD (V:VolF) (hS:Sep w (txP K ta tc V.M V.P::R)):CallsR Tryz.prog 12 #[pG K.tg] w (fun x w'=>∃ ta' tc',∃ V':VolC,x=ν 0∧Sep w' (txP K ta' tc' V'.M []::R)∧V'.T=V.T):=by
  have z:=V.v.com (by have:=V.hc;omega)
  exact Calls.mono (Hp hS z.1 z.2.1 rfl) fun e w' q=>by
    obtain ⟨v,e1,ta',tc',e2,s⟩:=q
    exact ⟨v,e1,ta',tc',⟨_,V.s,V.X,V.T,z.2.2,V.h,V.r⟩,e2,s,rfl⟩
theorem OV {M:MemM} {P:List PtM} {s:BE} {c:Nat} {X:DH} {T:Nat→List UInt8} (v:Vol M P s c) (h:FilOk s X T) (hS:Sep w ([Ad fx 83 [π K.tg,π mx],mtC mx K,txP K ta tc M P]++R)) (hk:k<4) {i:Int} (hi:i=(k:Int)+2) (hT:T k=S) :
    CallsR Tryz.prog 13 #[π fx,ν i] w (fun v w'=>v=.tuple #[σ S,ν 0]∧Sep w' ([Ad fx 83 [π K.tg,π mx],mtC mx K,txP K ta tc M P]++R)):=by
  subst hT hi
  have hE:AT M P ((k:Int)+2)=0:=(Fr v _).trans (h.e k hk)
  have hR:Am M P ((k:Int)+2)=X k:=(Gb v _).trans (h.x k hk)
  have h1:=h.k k hk
  have fE:GG M P ((k:Int)+2)=0:=by unfold GG;rw [hR,hE];simp [h1]
  have fX:GH M P ((k:Int)+2)=X k:=by unfold GH;rw [hR,hE];simp [h1]
  have hs:=h.s k hk
  obtain ⟨n0,hn⟩:=QE (T k)
  have z:=Xu (n0:=n0) hS v.m fE fX ω (by rw [hs.1];exact hn) fun j hj=>by
    have hb:=(h.blk hk j).2 (by rw [hn];omega)
    exact Bk (Iv (GA (h.m.u k j hk hb)))
  have ht:=h.t k hk
  rw [hn,show ((n0:Int)).toNat=n0 by omega] at ht
  rw [Xs v,hs.1,show ((((T k).length:Nat):Int)).toNat=(T k).length by omega,ht] at z
  exact z
def Agg:InoT:=rtX 4 2 1
def Af9:Nat→Int
  | 0=>0
  | k+1=>if Agg.blk k≠0 then Af9 k+1 else Af9 k
def md4 (n:Nat):Nat:=n % 4
end
end
section
theorem Sd {w:World} {R:List Ch} {mx:Nat} {K:VolK} {ta:Option Addr} {tc:Nat} {M:MemM} {P:List PtM} {spare:Int} (hS:Sep w ([mtC mx K,txP K ta tc M P]++R)) (hM:M.V.length=23168) (hs:-9223372036854775808≤spare∧spare≤9223372036854775807) (hb:bE M P spare=18) :
  CallsR Tryz.prog 74 #[π mx,ν spare] w (fun v w'=>∃ ta' tc',v=.tuple #[ν (bN M P spare),ν 18]∧Sep w' ([mtC mx K,txP K ta' tc' M (bP M P spare)]++R)):=
 Calls.mono (OS hS hM hs) fun e w' q=>by rw [hb] at q;exact q
structure SetN (M:MemM) (P:List PtM) (i sp:Int) (x y:InoT) (n0 kf:Nat) (S:List UInt8) (P1:List PtM):Prop where
 fE:GG M P i=0
 fX:GH M P i=x
 l:S.length≤256
 hsp:-9223372036854775808≤sp∧sp≤9223372036854775807
 hn:AR (S.length:Int)=(n0:Int)
 xb:∀ k,-9223372036854775808≤x.blk k∧x.blk k≤9223372036854775807
 cX:Bh (szX x (S.length:Int)) n0 (4-n0)=y
 cE:IO M P (szX x (S.length:Int)) n0=0
 cP:Hq M P (szX x (S.length:Int)) n0=P1
 hkf:kf<n0
 al:∀ k,k<kf→(alS M sp y P1 k).1.blk k=0→bE M (alS M sp y P1 k).2 sp=0
 b0:(alS M sp y P1 kf).1.blk kf=0
 bx:bE M (alS M sp y P1 kf).2 sp=18
theorem Agk {w:World} {R:List Ch} {fx:Nat} {mx:Nat} {K:VolK} {ta:Option Addr} {tc:Nat} {M:MemM} {P:List PtM} {i sp:Int} {x y:InoT} {n0 kf:Nat} {S:List UInt8} {P1:List PtM} (hS0:Sep w ([Ad fx 83 [π K.tg,π mx],Ad mx 103 [π K.tg],txP K ta tc M P]++R)) (hM:M.V.length=23168) (hS256:S.length≤256) (hsp:-9223372036854775808≤sp∧sp≤9223372036854775807) (hn0:AR (S.length:Int)=(n0:Int)) (hxb:∀ k,-9223372036854775808≤x.blk k∧x.blk k≤9223372036854775807) (hcX:Bh (szX x (S.length:Int)) n0 (4-n0)=y) (hcE:IO M P (szX x (S.length:Int)) n0=0) (hcP:Hq M P (szX x (S.length:Int)) n0=P1) (hkf:kf<n0) (hal:∀ k,k<kf→(alS M sp y P1 k).1.blk k=0→bE M (alS M sp y P1 k).2 sp=0) (hb0:(alS M sp y P1 kf).1.blk kf=0) (hbx:bE M (alS M sp y P1 kf).2 sp=18) :
  CallsR Tryz.prog 41 #[π fx,ν i,.agg (Ao x).toArray,σ S,ν sp] w (fun v w'=>∃ ta' tc' P',v=ν 18∧Sep w' ([Ad fx 83 [π K.tg,π mx],Ad mx 103 [π K.tg],txP K ta' tc' M P']++R)):=by
 have hS:Sep w [Ad fx 83 [π K.tg,π mx],Ad mx 103 [π K.tg],txP K ta tc M P,Ch.many R]:=Sep.tail_many (xs:=[_,_,_]) hS0;clear hS0
 have hn4:n0≤4:=GN hn0 ω
 refine AS Tryz.func41 rfl (N:=104) Tryz.ntmps41 (by show 5≤104;decide) [(0,π fx),(1,ν i),(2,.agg (Ao x).toArray),(3,σ S),(4,ν sp)] rfl fun _ h1=>sqr fun _ hK3=>so (wn rfl) fun _ hK1=>Ju h1 rfl rfl rfl rfl rfl (z:=(Ao x)) rfl hS fun _ g4 w7 h5 s8 _ _=>hK1 _ _ ?_
 refine mv h5 rfl fun _ h2=>wpList_nil<|hK3 _ _ ?_
 refine wp_scope_straight ?_
 refine sqr fun _ hK2=>mv h2 rfl fun _ h3=>sv1 h3 rfl (v:=ν (S.length:Int)) (Ee h3 rfl rfl υ9) fun _ h4=>fav h4 rfl (fQ 2) fun _ h6=>st1 h6 s8 0 rfl rfl κ rfl rfl rfl rfl fun _ w1 h7 s1 _=>h7.sn [10,7,0,1,2,3,4] rfl fun h8=>hK2 _ _<|sqr fun _ hK4=>mv h8 rfl fun _ h9=>sw1 h9 rfl (v:=.agg (Ao (⟨x.k,x.l,(S.length:Int),x.b0,x.b1,x.b2,x.b3,x.o0,x.o1,x.o2,x.o3,x.o4,x.o5,x.o6,x.o7⟩:InoT)).toArray) (rld h9 rfl rfl (ldA υ45 rfl (n:=15) κ (s1.get 0 rfl:Blk _ _ _ _) rfl rfl)) fun _ h10=>?_
 refine cl h10 rfl (cF Tryz.func73) (Qa (x:=(szX x (S.length:Int))) (s1.pk [1,2,3,0,4] rfl) hM hn0 (by show 0≤(S.length:Int)∧(S.length:Int)≤256;omega) hxb hcX hcE hcP) fun _ v1 w2 r1 h11=>?_
 obtain ⟨tax33,tcx34,rfl,s2⟩:=r1
 refine mvs 3 h11 rfl fun _ h12=>stA h12 s2 3 rfl rfl rfl κ rfl rfl rfl rfl fun _ w3 h13 s3 _=>mv h13 rfl fun _ h14=>h14.sn [11,10,7,0,1,2,3,4] rfl fun h15=>hK4 _ _<|sq fun _ hK5=>sqr fun _ hK6=>mv h15 rfl fun _ h16=>bv h16 (z:=.bool false) rfl (cNe _ _ _ _ rfl) fun _ h17=>h17.sn [28,11,10,7,0,1,2,3,4] rfl fun h18=>hK6 _ _ ?_
 refine wcF h18 rfl rfl<|h18.sk [11,10,7,0,1,2,3,4] rfl fun h19=>wp_skip<|hK5 _ _<|sqr fun _ hK7=>mv h19 rfl fun _ h20=>sv1 h20 rfl (v:=ν (S.length:Int)) (Ee h20 rfl rfl υ9) fun _ h21=>cl h21 rfl (cF Tryz.func17) (Eu s3 hn0 ω) fun _ v2 w4 r2 h22=>?_
 obtain ⟨rfl,s4⟩:=r2
 refine mv h22 rfl fun _ h23=>h23.sn [12,11,10,7,0,1,2,3,4] rfl fun h24=>hK7 _ _<|sq fun _ hK8=>wp_label ?_
 refine hK8 _ _ ?_
 refine sq fun _ hK9=>sqr fun _ hK10=>mv h24 rfl fun _ h25=>wpList_nil<|hK10 _ _<|wp_block ?_
 refine Ki (fun (k:Nat) (ta2:Option Addr) (tc2:Nat) a' w'=>Kn 104 [(33,ν (k:Int)),(12,ν (n0:Int)),(10,ν 0),(7,π g4),(0,π fx),(1,ν i),(2,.agg (Ao x).toArray),(3,σ S),(4,ν sp)] a'∧Sep w' [Ad fx 83 [π K.tg,π mx],Ad mx 103 [π K.tg],txP K ta2 tc2 M ((alS M sp y P1 k).2),Ad g4 45 (Ao ((alS M sp y P1 k).1)),Ch.many R]∧(k≤kf)) (fun (k:Nat) (ta2:Option Addr) (tc2:Nat)=>4-k) 0 tax33 tcx34 ⟨h25.subs rfl,s4,Nat.zero_le _⟩ ?_
 rintro k1 ta292 tc293 a1 w5 ⟨h26,s5,hk90⟩ K1 hK11
 refine sqr fun _ hK12=>bv h26 (z:=.bool true) rfl (cLt _ _ _ _ (decide_eq_true ω)) fun _ h27=>wpList_nil<|hK12 _ _<|sq fun _ hK13=>wcT h27 rfl rfl<|h27.sk [33,12,10,7,0,1,2,3,4] rfl fun h28=>wp_skip<|hK13 _ _<|sq fun _ hK14=>wp_block ?_
 refine sqr fun _ hK15=>mvs 2 h28 rfl fun _ h29=>h29.sn [13,33,12,10,7,0,1,2,3,4] rfl fun h30=>hK15 _ _<|sq fun _ hK16=>wp_block ?_
 refine sqr fun _ hK17=>mvs 2 h30 rfl fun _ h31=>bv h31 (z:=.bool false) rfl (cEq _ _ _ _ (decide_eq_false ω)) fun _ h32=>mv h32 rfl fun _ h33=>h33.sn [36,13,33,12,10,7,0,1,2,3,4] rfl fun h34=>hK17 _ _<|wcF h34 rfl rfl<|h34.sk [13,33,12,10,7,0,1,2,3,4] rfl fun h35=>sqr fun _ hK18=>mv h35 rfl fun _ h36=>?_
 refine fav h36 rfl (fQ 3) fun _ h37=>sv1 h37 rfl (v:=.pointer (some ⟨g4,3+k1,none⟩)) (Co h37 rfl rfl rfl (fun w=>JN g4 k1 ω ω w)) fun _ h38=>sw1 h38 rfl (v:=ν (((alS M sp y P1 k1).1).blk k1)) (rld h38 rfl rfl (ldB υ3 rfl (s5.get 3 rfl:Blk _ _ _ _) (Ed ((alS M sp y P1 k1).1) ω))) fun _ h39=>bv h39 (z:=.bool (decide (((alS M sp y P1 k1).1).blk k1≠0))) rfl (cNe _ _ _ _ rfl) fun _ h40=>mv h40 rfl fun _ h41=>h41.sn [40,13,33,12,10,7,0,1,2,3,4] rfl fun h42=>hK18 _ _ ?_
 rcases bC (decide (((alS M sp y P1 k1).1).blk k1≠0)) with hc1 | hc1
 ·skip
  have hp1:((alS M sp y P1 k1).1).blk k1≠0:=(dT hc1)
  refine wcT h42 rfl hc1<|h42.sk [13,33,12,10,7,0,1,2,3,4] rfl fun h43=>wp_exit ?_
  refine hK14 _ _ ?_
  refine wp_region_lit<|bv h43 (z:=ν ((k1+1:Nat):Int)) rfl (Dp _ _ _ ω ω ω) fun _ h44=>h44.sk [61,13,12,10,7,0,1,2,3,4] rfl fun h45=>mv h45 rfl fun _ h46=>h46.sk [33,13,12,10,7,0,1,2,3,4] rfl fun h47=>wpList_nil ?_
  have ha9:=Ac7 (M:=M) (sp:=sp) (x:=y) (P:=P1) (k:=k1) ω
  exact hK11 (k1+1) ta292 tc293 _ _ ⟨h47.subs rfl,(by rw [ha9];exact s5),(Nat.lt_of_le_of_ne ω (fun q=>hp1 (by rw [q];exact hb0)))⟩ ω
 ·skip
  have hp2:¬ (((alS M sp y P1 k1).1).blk k1≠0):=(dF hc1)
  refine wcF h42 rfl hc1<|h42.sk [13,33,12,10,7,0,1,2,3,4] rfl fun h48=>wp_skip<|hK16 _ _<|sqr fun _ hK19=>mvs 3 h48 rfl fun _ h49=>fav h49 rfl (fQ 1) fun _ h50=>ldv h50 s5 0 υ31 rfl rfl rfl rfl fun _ h51=>mv h51 rfl fun _ h52=>?_
  rcases bC (decide (k1<kf)) with hc2 | hc2
  ·skip
   have hp3:k1<kf:=(dT hc2)
   have hb158:=hal k1 ω ω
   refine cl h52 rfl (cF Tryz.func74) (LR (spare:=sp) (s5.pk [1,2,0,3,4] rfl) hM ω hb158) fun _ v3 w6 r3 h53=>?_
   obtain ⟨tax159,tcx160,rfl,s6⟩:=r3
   refine mvs 3 h53 rfl fun _ h54=>fav h54 rfl (fQ 3) fun _ h55=>sv1 h55 rfl (v:=.pointer (some ⟨g4,3+k1,none⟩)) (Co h55 rfl rfl rfl (fun w=>JN g4 k1 ω ω w)) fun _ h56=>so (wn rfl) fun _ hK20=>EW h56 rfl rfl s6 3 rfl rfl rfl [ν (bN M (alS M sp y P1 k1).2 sp)] rfl κ rfl (by show 3+k1+1≤15;omega) (L':=Ao (((alS M sp y P1 k1).1).setB k1 (bN M (alS M sp y P1 k1).2 sp))) (Gn ((alS M sp y P1 k1).1) ω) (cs':=[Ad mx 103 [π K.tg],txP K tax159 tcx160 M (bP M (alS M sp y P1 k1).2 sp),Ad fx 83 [π K.tg,π mx],Ad g4 45 (Ao (((alS M sp y P1 k1).1).setB k1 (bN M (alS M sp y P1 k1).2 sp))),Ch.many R]) rfl fun _ w8 h57 s7 _=>hK20 _ _ ?_
   refine mv h57 rfl fun _ h58=>h58.sn [11,13,33,12,10,7,0,1,2,3,4] rfl fun h59=>hK19 _ _<|sqr fun _ hK21=>mv h59 rfl fun _ h60=>bv h60 (z:=.bool false) rfl (cNe _ _ _ _ rfl) fun _ h61=>h61.sn [59,11,13,33,12,10,7,0,1,2,3,4] rfl fun h62=>hK21 _ _<|wcF h62 rfl rfl<|h62.sk [11,13,33,12,10,7,0,1,2,3,4] rfl fun h63=>?_
   refine wp_skip<|hK14 _ _<|wp_region_lit<|bv h63 (z:=ν ((k1+1:Nat):Int)) rfl (Dp _ _ _ ω ω ω) fun _ h64=>h64.sk [61,11,13,12,10,7,0,1,2,3,4] rfl fun h65=>mv h65 rfl fun _ h66=>h66.sk [33,11,13,12,10,7,0,1,2,3,4] rfl fun h67=>wpList_nil ?_
   have ha9:=Ac6 (M:=M) (sp:=sp) (x:=y) (P:=P1) (k:=k1) ω
   exact hK11 (k1+1) tax159 tcx160 _ _ ⟨h67.subs rfl,(by rw [ha9];exact (s7.pk [2,0,1,3,4] rfl)),ω⟩ ω
  ·skip
   have hp4:¬ (k1<kf):=(dF hc2)
   have hb201:bE M (alS M sp y P1 k1).2 sp=18:=by rw [show k1=kf by omega];exact hbx
   refine cl h52 rfl (cF Tryz.func74) (Sd (spare:=sp) (s5.pk [1,2,0,3,4] rfl) hM ω hb201) fun _ v4 w9 r4 h68=>?_
   obtain ⟨tax202,tcx203,rfl,s9⟩:=r4
   refine mvs 3 h68 rfl fun _ h69=>fav h69 rfl (fQ 3) fun _ h70=>sv1 h70 rfl (v:=.pointer (some ⟨g4,3+k1,none⟩)) (Co h70 rfl rfl rfl (fun w=>JN g4 k1 ω ω w)) fun _ h71=>so (wn rfl) fun _ hK22=>EW h71 rfl rfl s9 3 rfl rfl rfl [ν (bN M (alS M sp y P1 k1).2 sp)] rfl κ rfl (by show 3+k1+1≤15;omega) (L':=Ao (((alS M sp y P1 k1).1).setB k1 (bN M (alS M sp y P1 k1).2 sp))) (Gn ((alS M sp y P1 k1).1) ω) (cs':=[Ad mx 103 [π K.tg],txP K tax202 tcx203 M (bP M (alS M sp y P1 k1).2 sp),Ad fx 83 [π K.tg,π mx],Ad g4 45 (Ao (((alS M sp y P1 k1).1).setB k1 (bN M (alS M sp y P1 k1).2 sp))),Ch.many R]) rfl fun _ w10 h72 s10 _=>hK22 _ _ ?_
   refine mv h72 rfl fun _ h73=>h73.sn [11,13,33,12,10,7,0,1,2,3,4] rfl fun h74=>hK19 _ _<|sqr fun _ hK23=>mv h74 rfl fun _ h75=>bv h75 (z:=.bool true) rfl (cNe _ _ _ _ rfl) fun _ h76=>h76.sn [59,11,13,33,12,10,7,0,1,2,3,4] rfl fun h77=>hK23 _ _<|wcT h77 rfl rfl<|h77.sk [11,13,33,12,10,7,0,1,2,3,4] rfl fun h78=>?_
   refine sqr fun _ hK24=>mv h78 rfl fun _ h79=>h79.sk [60,11,13,33,12,7,0,1,2,3,4] rfl fun h80=>mv h80 rfl fun _ h81=>h81.sn [10,11,13,33,12,7,0,1,2,3,4] rfl fun h82=>hK24 _ _<|wp_ret ?_
   try simp only [Exit.then,Exit.inBlock,Exit.noGoto]
   refine BF (v:=ν 18) (Dt h82 rfl rfl) h82.defs ?_
   exact ⟨tax202,tcx203,_,rfl,Sep.tail_un (xs:=[_,_,_]) (s10.pk [2,0,1,4] rfl)⟩
theorem WF {w:World} {R:List Ch} {fx:Nat} {la:Option Addr} {lc:Nat} {mx:Nat} {K:VolK} {ta:Option Addr} {tc:Nat} {M:MemM} {P:List PtM} (hS0:Sep w ([Ad fx 83 [π K.tg,π mx],txP K ta tc M P]++R))  :
  CallsR Tryz.prog 42 #[π fx,.slice la 0 lc] w (fun v w'=>v=.tuple #[]∧Sep w' ([Ad fx 83 [π K.tg,π mx],txP K none 0 M []]++R)):=by
 have hS:Sep w [Ad fx 83 [π K.tg,π mx],txP K ta tc M P,Ch.many R]:=Sep.tail_many (xs:=[_,_]) hS0;clear hS0
 refine AS Tryz.func42 rfl (N:=28) Tryz.ntmps42 (by show 2≤28;decide) [(0,π fx),(1,.slice la 0 lc)] rfl fun _ h1=>sqr fun _ hK3=>mvs 2 h1 rfl fun _ h6=>fav h6 rfl (fQ 0) fun _ h8=>ldv h8 hS 0 υ30 rfl rfl rfl rfl fun _ h2=>cl h2 rfl (cF Tryz.func10) (XK (hS.pk [1,0,2] rfl)) fun _ v1 w1 r1 h3=>?_
 obtain ⟨y_x12,rfl,s1⟩:=r1
 refine h3.sn [0,1] rfl fun h4=>hK3 _ _<|sqr fun _ hK1=>mv h4 rfl fun _ h5=>sv1 h5 rfl (v:=ν 0) (UQ h5 rfl rfl υ68) fun _ h7=>mv h7 rfl fun _ h9=>wpList_nil<|hK1 _ _<|wp_block ?_
 refine FC (fun (k:Nat) a' w'=>Kn 28 [(13,ν (k:Int)),(12,ν 0),(11,.slice la 0 lc),(0,π fx),(1,.slice la 0 lc)] a'∧Sep w' [txP K none 0 M [],Ad fx 83 [π K.tg,π mx],Ch.many R]∧(k≤0)) (fun (k:Nat)=>0-k) 0 ⟨h9.subs rfl,s1,Nat.le_refl _⟩ ?_
 rintro k1 a1 w2 ⟨h10,s2,hk33⟩ K1 hK2
 refine sqr fun _ hK4=>bv h10 (z:=.bool false) rfl (cLt _ _ _ _ (decide_eq_false ω)) fun _ h11=>wpList_nil<|hK4 _ _<|sq fun _ hK5=>wcF h11 rfl rfl<|h11.sk [13,12,11,0,1] rfl fun h12=>wp_exit ?_
 simp only [Exit.then,Exit.inBlock,↓reduceIte,Nat.reduceEqDiff]
 refine Ag8 (v:=.tuple #[]) (fun _=>Ahr rfl _) h12.defs ?_
 exact ⟨rfl,Sep.tail_un (xs:=[_,_]) (s2.pk [1,0,2] rfl)⟩
theorem Ab7 {w:World} {R:List Ch} {fx mx:Nat} {K:VolK} {ta:Option Addr} {tc:Nat} {M:MemM} {P P1:List PtM} {x y:InoT} {n0 kf:Nat} {i sp:Int} {S:List UInt8} (hS:Sep w ([Ad fx 83 [π K.tg,π mx],mtC mx K,txP K ta tc M P]++R)) (hM:M.V.length=23168) (H:SetN M P i sp x y n0 kf S P1) :
  CallsR Tryz.prog 41 #[π fx,ν i,.agg (Ao x).toArray,σ S,ν sp] w (fun v w'=>∃ ta' tc' P',v=ν 18∧Sep w' ([Ad fx 83 [π K.tg,π mx],mtC mx K,txP K ta' tc' M P']++R)):=
 Agk hS hM H.l H.hsp H.hn H.xb H.cX H.cE H.cP H.hkf H.al H.b0 H.bx
theorem Ae6 {w:World} {R:List Ch} {fx:Nat} {mx:Nat} {K:VolK} {ta:Option Addr} {tc:Nat} {M:MemM} {i sp:Int} {x y:InoT} {n0 kf:Nat} {S:List UInt8} {P1:List PtM} (hS0:Sep w ([Ad fx 83 [π K.tg,π mx],Ad mx 103 [π K.tg],txP K ta tc M []]++R)) (hM:M.V.length=23168) (H:SetN M [] i sp x y n0 kf S P1) :
  CallsR Tryz.prog 16 #[π fx,ν i,σ S,ν sp] w (fun v w'=>v=ν 18∧Sep w' ([Ad fx 83 [π K.tg,π mx],Ad mx 103 [π K.tg],txP K none 0 M []]++R)):=by
 have hS:Sep w [Ad fx 83 [π K.tg,π mx],Ad mx 103 [π K.tg],txP K ta tc M [],Ch.many R]:=Sep.tail_many (xs:=[_,_,_]) hS0;clear hS0
 have hl9:=H.l
 refine AS Tryz.func16 rfl (N:=42) Tryz.ntmps16 (by show 4≤42;decide) [(0,π fx),(1,ν i),(2,σ S),(3,ν sp)] rfl fun _ h1=>sqr fun _ hK3=>mv h1 rfl fun _ h4=>wpList_nil<|hK3 _ _<|sqr fun _ hK6=>mvs 2 h4 rfl fun _ h9=>cl h9 rfl (cF Tryz.func33) (Kx hS hM H.fE H.fX) fun _ v1 w1 r1 h2=>?_
 obtain ⟨rfl,s1⟩:=r1
 refine mvs 3 h2 rfl fun _ h3=>so (wn rfl) fun _ hK1=>AZ h3 rfl rfl rfl rfl (z:=[ν 0,ν 0,ν 0,ν 0,ν 0,ν 0,ν 0,ν 0,ν 0,ν 0,ν 0,ν 0,ν 0,ν 0,ν 0]) (fun _=>rfl) s1 fun _ g1 w2 h5 s2 _ _=>hK1 _ _ ?_
 refine stA h5 s2 0 rfl rfl rfl κ rfl rfl rfl rfl fun _ w3 h6 s3 _=>mv h6 rfl fun _ h7=>h7.sn [10,9,8,0,1,2,3] rfl fun h8=>hK6 _ _<|sq fun _ hK2=>sqr fun _ hK4=>mv h8 rfl fun _ h10=>bv h10 (z:=.bool false) rfl (cNe _ _ _ _ rfl) fun _ h11=>h11.sn [20,10,9,8,0,1,2,3] rfl fun h12=>hK4 _ _<|wcF h12 rfl rfl ?_
 refine h12.sk [10,9,8,0,1,2,3] rfl fun h13=>wp_skip<|hK2 _ _<|sq fun _ hK5=>sqr fun _ hK7=>mv h13 rfl fun _ h14=>sv1 h14 rfl (v:=ν (S.length:Int)) (Ee h14 rfl rfl υ9) fun _ h15=>bv h15 (z:=.bool false) rfl (cGt _ _ _ _ (decide_eq_false ω)) fun _ h16=>h16.sn [24,10,9,8,0,1,2,3] rfl fun h17=>hK7 _ _<|wcF h17 rfl rfl<|h17.sk [10,9,8,0,1,2,3] rfl fun h18=>?_
 refine wp_skip<|hK5 _ _<|sqr fun _ hK8=>mvs 2 h18 rfl fun _ h19=>fav h19 rfl (fQ 0) fun _ h20=>ldv h20 s3 1 υ30 rfl rfl rfl rfl fun _ h21=>cl h21 rfl (cF Tryz.func40) (Lh (s3.pk [3,0,1,2,4] rfl)) fun _ v2 w4 r2 h22=>?_
 obtain ⟨la_x68,lc_x69,rfl,s4⟩:=r2
 refine mv h22 rfl fun _ h23=>h23.sn [11,10,9,8,0,1,2,3] rfl fun h24=>hK8 _ _<|sq fun _ hK9=>sqr fun _ hK10=>mvs 2 h24 rfl fun _ h25=>sw1 h25 rfl (v:=.agg (Ao x).toArray) (rld h25 rfl rfl (ldA υ45 rfl (n:=15) κ (s4.get 1 rfl:Blk _ _ _ _) rfl rfl)) fun _ h26=>mvs 2 h26 rfl fun _ h27=>cl h27 rfl (cF Tryz.func41) (Ab7 (s4.pk [2,3,0,1,4] rfl) hM H) fun _ v3 w5 r3 h28=>?_
 obtain ⟨tax92,tcx93,ppx94,rfl,s5⟩:=r3
 refine mv h28 rfl fun _ h29=>h29.sn [12,11,10,9,8,0,1,2,3] rfl fun h30=>hK10 _ _<|sqr fun _ hK11=>mv h30 rfl fun _ h31=>bv h31 (z:=.bool true) rfl (cNe _ _ _ _ rfl) fun _ h32=>h32.sn [37,12,11,10,9,8,0,1,2,3] rfl fun h33=>hK11 _ _<|wcT h33 rfl rfl<|h33.sk [12,11,10,9,8,0,1,2,3] rfl fun h34=>?_
 refine sqr fun _ hK12=>mvs 2 h34 rfl fun _ h35=>cl h35 rfl (cF Tryz.func42) (WF (s5.pk [0,2,1,3,4] rfl)) fun _ v4 w6 r4 h36=>?_
 obtain ⟨rfl,s6⟩:=r4
 refine h36.sn [12,11,10,9,8,0,1,2,3] rfl fun h37=>hK12 _ _<|sqr fun _ hK13=>mv h37 rfl fun _ h38=>h38.sk [41,12,11,10,9,0,1,2,3] rfl fun h39=>mv h39 rfl fun _ h40=>h40.sn [8,12,11,10,9,0,1,2,3] rfl fun h41=>hK13 _ _<|wp_ret ?_
 try simp only [Exit.then,Exit.inBlock]
 refine BF (v:=ν 18) (Dt h41 rfl rfl) h41.defs ?_
 exact ⟨rfl,Sep.tail_un (xs:=[_,_,_]) (s6.pk [0,2,1,4] rfl)⟩
end
section
theorem Zx {M:MemM} {s:BE} {X:DH} {T:Nat→List UInt8} {k n0:Nat} {sp:Int} {S:List UInt8} (V:Vol M [] s 0) (H:FilOk s X T) (hk:k<4) (hS:S.length≤256) (hsp:-9223372036854775808≤sp∧sp≤9223372036854775807) (hn:AR (S.length:Int)=(n0:Int)) (hlt:(AR ((T k).length:Int)).toNat<n0) (hr:¬ ((2+Hk (CU X k AP)+n0:Nat):Int)≤128-max sp 0) :
    ∃ y f P1,SetN M [] ((k:Int)+2) sp (X k) y n0 f S P1:=by
  have hn4:n0≤4:=GN hn ω
  have H0:MapOk (CH s) (CU X k (szX (X k) (S.length:Int))):=H.m.congr fun i j=>by
    unfold CU;split
    · next e=>rw [e];rfl
    · rfl
  obtain ⟨C1,C2,C3,C4⟩:=OY (n0:=n0) hk H0 (4-n0) ω
  obtain ⟨hcE,s1,c1,V1,hc1,em1,es1⟩:=Up (n0:=n0) V (szX (X k) (S.length:Int)) H.m.l
  have hz:∀ j,n0≤j→(Bh (szX (X k) (S.length:Int)) n0 (4-n0)).blk j=0:=fun j hj=>by
    by_cases h4:j<4
    · rw [C4,if_pos ω]
    · exact Uk _ ω
  have hl:(Bh (szX (X k) (S.length:Int)) n0 (4-n0)).blk (n0-1)=0:=by
    rw [C4,if_neg ω]
    exact Classical.byContradiction fun q=>by have:=(H.blk hk (n0-1)).1 q;omega
  have fE:GG M [] ((k:Int)+2)=0∧GH M [] ((k:Int)+2)=X k:=by
    have hE:AT M [] ((k:Int)+2)=0:=(Fr V _).trans (H.e k hk)
    have hR:Am M [] ((k:Int)+2)=X k:=(Gb V _).trans (H.x k hk)
    have h1:=H.k k hk
    unfold GG GH
    rw [hR,hE]
    constructor<;>simp [h1]
  obtain ⟨f,hf,g1,g2,g3⟩:=Ae7 (sp:=sp) V1 ω hk hn4 (by rw [em1];exact C1) hz ω hl hr
  exact ⟨_,f,_,{
    fE:=fE.1
    fX:=fE.2
    l:=hS
    hsp:=hsp
    hn:=hn
    xb:=fun j=>by
      by_cases h:(X k).blk j=0
      · rw [h];decide
      · have:=GA (H.m.u k j hk h);omega
    cX:=rfl
    cE:=hcE
    cP:=rfl
    hkf:=hf
    al:=g1
    b0:=g2
    bx:=g3 }⟩
def ndL (S:List UInt8):Nat:=(AR (S.length:Int)).toNat
theorem Pt (S:List UInt8):AR (S.length:Int)=((ndL S:Nat):Int):=by unfold ndL AR;split<;>omega
theorem YK {S:List UInt8} (h:S.length≤256):ndL S≤4:=by unfold ndL AR;split<;>omega
abbrev Vv (V:VolC):Int:=((Cg (Ap V.M []) 128).length:Int)
theorem VolC.tot1 (V:VolC) {k:Nat} (hk:k<4):((2+Hk (CU V.X k AP):Nat):Int)+((ndT V.T k:Nat):Int)=Vv V:=by
  have c:=V.h.m.c
  have t2:=GV V.X hk AP
  have z0:nzI AP=0:=rfl
  have e:nzI (V.X k)=ndT V.T k:=YR (V.nd hk) (V.h.blk hk)
  unfold Vv;rw [KC V.v]
  show _=((IY (CH V.s):Nat):Int)
  omega
section
variable {w:World} {R:List Ch} {fx mx:Nat} {K:VolK} {ta:Option Addr} {tc:Nat} {S S2:List UInt8} {p:Int}
theorem UT (V:VolC) (hT:V.T 0=S) (hS:Sep w ([Ad fx 83 [π K.tg,π mx],mtC mx K,txP K ta tc V.M []]++R)) (hl:S2.length≤256) (hp:0≤p∧p≤9223372036854775807) (h:((ndL S2:Nat):Int)-((ndL S:Nat):Int)≤0∨128-Vv V-p≥((ndL S2:Nat):Int)-((ndL S:Nat):Int)) :
    CallsR Tryz.prog 16 #[π fx,ν 2,σ S2,ν p] w (fun v w'=>∃ ta' tc',∃ V':VolF,v=ν 0∧Sep w' ([Ad fx 83 [π K.tg,π mx],mtC mx K,txP K ta' tc' V'.M V'.P]++R)∧V'.T=TW V.T 0 S2):=
  Acw V hS (by decide) (by decide) hl ω fun n0 hn j hj h0=>by
    have t:=V.tot1 (k:=0) (by decide)
    have e:ndT V.T 0=ndL S:=by unfold ndT ndL;rw [hT]
    rw [Pt] at hn
    have hb:¬ j<ndT V.T 0:=fun q=>(V.h.blk (by decide) j).2 q h0
    omega
theorem Ab8 (V:VolC) (hT:V.T 0=S) (hS:Sep w ([Ad fx 83 [π K.tg,π mx],mtC mx K,txP K ta tc V.M []]++R)) (hl:S2.length≤256) (hp:0≤p∧p≤9223372036854775807) (h1:¬ ((ndL S2:Nat):Int)-((ndL S:Nat):Int)≤0) (h2:¬ 128-Vv V-p≥((ndL S2:Nat):Int)-((ndL S:Nat):Int)) :
    CallsR Tryz.prog 16 #[π fx,ν 2,σ S2,ν p] w (fun v w'=>v=ν 18∧Sep w' ([Ad fx 83 [π K.tg,π mx],mtC mx K,txP K none 0 V.M []]++R)):=by
  have t:=V.tot1 (k:=0) (by decide)
  have e:ndT V.T 0=ndL S:=by unfold ndT ndL;rw [hT]
  obtain ⟨y,f,P1,H⟩:=Zx V.v V.h (k:=0) (sp:=p) (S:=S2) (by decide) hl ω (Pt S2) (by show ndT V.T 0<_;omega) ω
  exact Ae6 hS V.v.m H
end
end
section
theorem FSp {w:World} {R:List Ch} {S U:List UInt8} {sp:Int} (hS0:Sep w ([]++R)) (hsp:-9223372036854775808≤sp∧sp≤9223372036854775807) :
  CallsR Tryz.prog 5 #[σ S,σ U,ν sp] w (fun v w'=>v=.bool true∧Sep w' ([]++R)):=by
 have hS:Sep w [Ch.many R]:=Sep.tail_many (xs:=[]) hS0;clear hS0
 refine AS Tryz.func5 rfl (N:=132) Tryz.ntmps5 (by show 3≤132;decide) [(0,σ S),(1,σ U),(2,ν sp)] rfl fun _ h1=>sqr fun _ hK3=>mv h1 rfl fun _ h4=>wpList_nil<|hK3 _ _<|sqr fun _ hK6=>cl h4 rfl (cF Tryz.func7) (Vm hS) fun _ v1 w1 r1 h2=>?_
 obtain ⟨kk_x7,tax8,tcx9,mv_x10,mx_x11,fx_x12,vx_x13,rfl,s1⟩:=r1
 refine mv h2 rfl fun _ h3=>h3.sn [7,6,0,1,2] rfl fun h5=>hK6 _ _<|sq fun _ hK1=>sqr fun _ hK2=>mv h5 rfl fun _ h6=>bv h6 (z:=.bool false) rfl (OP _ υ23 _ _ _) fun _ h7=>h7.sn [18,7,6,0,1,2] rfl fun h8=>hK2 _ _<|wcF h8 rfl rfl<|h8.sk [7,6,0,1,2] rfl fun h9=>?_
 refine wp_skip<|hK1 _ _<|sq fun K1 hK4=>?_
 have hJ33:∀ (S8:List UInt8) a' w',Kn 132 [(7,π vx_x13),(6,.bool false),(0,σ S8),(1,σ U),(2,ν sp)] a'→Sep w' [Ad vx_x13 34 [π kk_x7.tg,π mx_x11,π fx_x12],Ad fx_x12 83 [π kk_x7.tg,π mx_x11],Ad mx_x11 103 [π kk_x7.tg],txP kk_x7 tax8 tcx9 mv_x10.M [],Ch.many R]→(S8.length≤256)→K1 a' w':=by
  intro S8 a1 w2 h10 s2 hS8
  refine hK4 _ _ ?_
  refine sq fun K2 hK5=>?_
  have hJ39:∀ (U8:List UInt8) a' w',Kn 132 [(7,π vx_x13),(6,.bool false),(0,σ S8),(1,σ U8),(2,ν sp)] a'→Sep w' [Ad vx_x13 34 [π kk_x7.tg,π mx_x11,π fx_x12],Ad fx_x12 83 [π kk_x7.tg,π mx_x11],Ad mx_x11 103 [π kk_x7.tg],txP kk_x7 tax8 tcx9 mv_x10.M [],Ch.many R]→(U8.length≤256)→K2 a' w':=by
   intro U8 a2 w3 h11 s3 hU8
   refine hK5 _ _ ?_
   refine sq fun _ hK7=>sqr fun _ hK8=>mvs 2 h11 rfl fun _ h12=>fav h12 rfl (fQ 2) fun _ h13=>ldv h13 s3 0 υ32 rfl rfl rfl rfl fun _ h14=>mv h14 rfl fun _ h15=>cl h15 rfl (cF Tryz.func16) (Aew (k:=0) (S:=S8) (Agv mv_x10) (s3.pk [1,2,3,0,4] rfl) (by decide) (by decide) ω) fun _ v2 w4 r2 h16=>?_
   obtain ⟨tax56,tcx57,vf_x58,rfl,s4,hT63⟩:=r2
   refine bv h16 (z:=.bool false) rfl (cNe _ _ _ _ rfl) fun _ h17=>mv h17 rfl fun _ h18=>sv h18 (wF h18 (E:=false) rfl rfl rfl) rfl rfl rfl (v:=π vx_x13) (Az h18 rfl rfl) fun _ h19=>sv h19 (wF h19 (E:=false) rfl rfl rfl) rfl rfl rfl (v:=π vx_x13) (MT h19 rfl rfl) fun _ h20=>sv h20 (wF h20 (E:=false) rfl rfl rfl) rfl rfl rfl (v:=π vx_x13) (rfa h20 rfl rfl (fQ 0)) fun _ h21=>sw h21 (wF h21 (E:=false) rfl rfl rfl) rfl rfl rfl (v:=π kk_x7.tg) (rld h21 rfl rfl (ldB υ30 rfl (s4.get 3 rfl:Blk _ _ _ _) rfl)) fun _ h22=>so (wF h22 (E:=false) rfl rfl rfl) fun _ hK9=>BM h22 rfl rfl rfl (xs:=[.tmp 40]) rfl (cF Tryz.func12) rfl (vs:=[π kk_x7.tg]) rfl (args:=#[π kk_x7.tg]) rfl (XD vf_x58 (s4.pk [2,0,1,3,4] rfl)) fun _ v3 w5 r3 h23=>hK9 _ _ ?_
   obtain ⟨tax78,tcx79,vc_x80,rfl,s5,hU85⟩:=r3
   refine sv h23 (wF h23 (E:=false) rfl rfl rfl) rfl rfl rfl (v:=.bool false) (BV h23 rfl rfl rfl (cNe _ _ _ _ rfl)) fun _ h24=>sv1 h24 rfl (v:=.bool false) (Cv h24 rfl rfl rfl) fun _ h25=>h25.sn [43,7,6,0,1,2] rfl fun h26=>hK8 _ _<|wcF h26 rfl rfl<|h26.sk [7,6,0,1,2] rfl fun h27=>wp_skip<|hK7 _ _<|sq fun _ hK10=>?_
   have hT95:=hU85.trans hT63
   have hal96:=Ug (Ap vc_x80.M [])
   refine wp_region_lit<|mvs 2 h27 rfl fun _ h28=>fav h28 rfl (fQ 1) fun _ h29=>ldv h29 s5 3 υ31 rfl rfl rfl rfl fun _ h30=>cl h30 rfl (cF Tryz.func18) (UE (s5.pk [2,0,1,3,4] rfl) vc_x80.v.m) fun _ v4 w6 r4 h31=>?_
   obtain ⟨rfl,s6⟩:=r4
   refine cl h31 rfl (cF Tryz.func19) (Bl s6 (NS (Ap vc_x80.M []) _ (An _))) fun _ v5 w7 r5 h32=>?_
   obtain ⟨rfl,s7⟩:=r5
   refine bv h32 (z:=ν (128-((Cg (Ap vc_x80.M []) 128).length:Int))) rfl (Sb _ _ _ ω ω ω) fun _ h33=>mv h33 rfl fun _ h34=>h34.sn [8,7,6,0,1,2] rfl fun h35=>hK10 _ _<|sqr fun _ hK11=>mv h35 rfl fun _ h36=>sv1 h36 rfl (v:=ν (U8.length:Int)) (Ee h36 rfl rfl υ9) fun _ h37=>?_
   have hn129:=YK (S:=U8) ω
   refine cl h37 rfl (cF Tryz.func17) (Eu s7 (Pt U8) ω) fun _ v6 w8 r6 h38=>?_
   obtain ⟨rfl,s8⟩:=r6
   refine mv h38 rfl fun _ h39=>sv1 h39 rfl (v:=ν (S8.length:Int)) (Ee h39 rfl rfl υ9) fun _ h40=>?_
   have hn141:=YK (S:=S8) ω
   refine cl h40 rfl (cF Tryz.func17) (Eu s8 (Pt S8) ω) fun _ v7 w9 r7 h41=>?_
   obtain ⟨rfl,s9⟩:=r7
   refine bv h41 (z:=ν (((ndL U8:Nat):Int)-((ndL S8:Nat):Int))) rfl (Sb _ _ _ ω ω ω) fun _ h42=>mv h42 rfl fun _ h43=>h43.sn [9,8,7,6,0,1,2] rfl fun h44=>hK11 _ _<|sq fun K3 hK12=>?_
   have hJ155:∀ (p9:Int) a' w',Kn 132 [(9,ν (((ndL U8:Nat):Int)-((ndL S8:Nat):Int))),(8,ν (128-((Cg (Ap vc_x80.M []) 128).length:Int))),(7,π vx_x13),(6,.bool false),(0,σ S8),(1,σ U8),(2,ν p9)] a'→Sep w' [Ad mx_x11 103 [π kk_x7.tg],txP kk_x7 tax78 tcx79 vc_x80.M [],Ad fx_x12 83 [π kk_x7.tg,π mx_x11],Ad vx_x13 34 [π kk_x7.tg,π mx_x11,π fx_x12],Ch.many R]→(0≤p9∧p9≤9223372036854775807)→K3 a' w':=by
    intro p9 a3 w10 h45 s10 hp9
    refine hK12 _ _ ?_
    refine sqr fun _ hK13=>mvs 2 h45 rfl fun _ h46=>fav h46 rfl (fQ 2) fun _ h47=>ldv h47 s10 3 υ32 rfl rfl rfl rfl fun _ h48=>mvs 2 h48 rfl fun _ h49=>?_
    rcases bC (decide (((ndL U8:Nat):Int)-((ndL S8:Nat):Int)≤0)) with hc1 | hc1
    ·skip
     have hp1:((ndL U8:Nat):Int)-((ndL S8:Nat):Int)≤0:=(dT hc1)
     refine cl h49 rfl (cF Tryz.func16) (UT (S:=S8) (S2:=U8) vc_x80 (by rw [hT95];exact II _ _ _) (s10.pk [2,0,1,3,4] rfl) ω ω (.inl ω)) fun _ v8 w11 r8 h50=>?_
     obtain ⟨tax175,tcx176,vf_x177,rfl,s11,hT182⟩:=r8
     refine mv h50 rfl fun _ h51=>h51.sn [10,9,8,7,6,0,1,2] rfl fun h52=>hK13 _ _<|sqr fun _ hK14=>mv h52 rfl fun _ h53=>bv h53 (z:=.bool true) rfl (cLe _ _ _ _ (decide_eq_true ω)) fun _ h54=>mv h54 rfl fun _ h55=>su h55 (wF h55 (E:=true) rfl rfl rfl) rfl rfl rfl fun _ h56=>su h56 (wF h56 (E:=true) rfl rfl rfl) rfl rfl rfl fun _ h57=>su h57 (wF h57 (E:=true) rfl rfl rfl) rfl rfl rfl fun _ h58=>?_
     refine su h58 (wF h58 (E:=true) rfl rfl rfl) rfl rfl rfl fun _ h59=>su h59 (wgu h59 rfl rfl rfl) rfl rfl rfl fun _ h60=>su h60 (wgu h60 rfl rfl rfl) rfl rfl rfl fun _ h61=>su h61 (wgu h61 rfl rfl rfl) rfl rfl rfl fun _ h62=>su h62 (wgu h62 rfl rfl rfl) rfl rfl rfl fun _ h63=>su h63 (wgu h63 rfl rfl rfl) rfl rfl rfl fun _ h64=>su h64 (wF h64 (E:=true) rfl rfl rfl) rfl rfl rfl fun _ h65=>sv1 h65 rfl (v:=.bool true) (Cv h65 rfl rfl rfl) fun _ h66=>mv h66 rfl fun _ h67=>h67.sk [11,10,9,8,7,6,0,1,2] rfl fun h68=>?_
     refine wpList_nil<|hK14 _ _<|sq fun _ hK15=>sqr fun _ hK16=>mvs 2 h68 rfl fun _ h69=>h69.sn [82,11,10,9,8,7,6,0,1,2] rfl fun h70=>hK16 _ _<|wcF h70 rfl rfl<|h70.sk [11,10,9,8,7,6,0,1,2] rfl fun h71=>wp_skip<|hK15 _ _<|sqr fun _ hK17=>mvs 2 h71 rfl fun _ h72=>?_
     refine fav h72 rfl (fQ 2) fun _ h73=>ldv h73 s11 3 υ32 rfl rfl rfl rfl fun _ h74=>cl h74 rfl (cF Tryz.func13) (OV (k:=0) (S:=U8) vf_x177.v vf_x177.h s11 (by decide) (by decide) (by rw [hT182];exact II _ _ _)) fun _ v9 w12 r9 h75=>?_
     obtain ⟨rfl,s12⟩:=r9
     refine mvs 5 h75 rfl fun _ h76=>h76.sn [15,14,11,10,9,8,7,6,0,1,2] rfl fun h77=>hK17 _ _<|sqr fun _ hK18=>mv h77 rfl fun _ h78=>bv h78 (z:=.bool true) rfl (cEq _ _ _ _ rfl) fun _ h79=>mv h79 rfl fun _ h80=>sv h80 (wT h80 (E:=true) rfl rfl rfl) rfl rfl rfl (v:=σ U8) (Az h80 rfl rfl) fun _ h81=>sv h81 (wT h81 (E:=true) rfl rfl rfl) rfl rfl rfl (v:=σ U8) (Az h81 rfl rfl) fun _ h82=>sv h82 (wT h82 (E:=true) rfl rfl rfl) rfl rfl rfl (v:=.bool true) (BV h82 rfl rfl rfl (In _ _ _ _ _ (decide_eq_true rfl))) fun _ h83=>?_
     refine sv1 h83 rfl (v:=.bool true) (Cv h83 rfl rfl rfl) fun _ h84=>mv h84 rfl fun _ h85=>sv h85 (wT h85 (E:=true) rfl rfl rfl) rfl rfl rfl (v:=ν 0) (Az h85 rfl rfl) fun _ h86=>sv h86 (wT h86 (E:=true) rfl rfl rfl) rfl rfl rfl (v:=.bool true) (BV h86 rfl rfl rfl (cEq _ _ _ _ rfl)) fun _ h87=>sv1 h87 rfl (v:=.bool true) (Cv h87 rfl rfl rfl) fun _ h88=>mv h88 rfl fun _ h89=>so (wT h89 (E:=true) rfl rfl rfl) fun _ hK19=>BM h89 rfl rfl rfl (xs:=[]) rfl (cF Tryz.func14) rfl (vs:=[]) rfl (args:=#[]) rfl (Pm s12) fun _ v10 w13 r10 h90=>hK19 _ _ ?_
     obtain ⟨rfl,s13⟩:=r10
     refine sv1 h90 rfl (v:=.bool true) (Cv h90 rfl rfl rfl) fun _ h91=>h91.sk [131,130,129,128,127,126,125,124,123,122,121,120,119,118,15,14,11,10,9,8,7,0,1,2] rfl fun h92=>mv h92 rfl fun _ h93=>h93.sn [6,15,14,11,10,9,8,7,0,1,2] rfl fun h94=>hK18 _ _<|wp_ret ?_
     try simp only [Exit.then,Exit.inBlock]
     refine BF (v:=.bool true) (Dt h94 rfl rfl) h94.defs ?_
     exact ⟨rfl,Sep.tail_un (xs:=[]) (s13.pk [4] rfl)⟩
    ·skip
     have hp2:¬ (((ndL U8:Nat):Int)-((ndL S8:Nat):Int)≤0):=(dF hc1)
     rcases bC (decide (128-((Cg (Ap vc_x80.M []) 128).length:Int)-p9≥((ndL U8:Nat):Int)-((ndL S8:Nat):Int))) with hc2 | hc2
     ·skip
      have hp3:128-((Cg (Ap vc_x80.M []) 128).length:Int)-p9≥((ndL U8:Nat):Int)-((ndL S8:Nat):Int):=(dT hc2)
      refine cl h49 rfl (cF Tryz.func16) (UT (S:=S8) (S2:=U8) vc_x80 (by rw [hT95];exact II _ _ _) (s10.pk [2,0,1,3,4] rfl) ω ω (.inr (by unfold Vv;omega))) fun _ v11 w14 r11 h95=>?_
      obtain ⟨tax296,tcx297,vf_x298,rfl,s14,hT303⟩:=r11
      refine mv h95 rfl fun _ h96=>h96.sn [10,9,8,7,6,0,1,2] rfl fun h97=>hK13 _ _<|sqr fun _ hK20=>mv h97 rfl fun _ h98=>bv h98 (z:=.bool false) rfl (cLe _ _ _ _ (decide_eq_false ω)) fun _ h99=>mv h99 rfl fun _ h100=>sv h100 (wF h100 (E:=false) rfl rfl rfl) rfl rfl rfl (v:=ν p9) (Az h100 rfl rfl) fun _ h101=>sv h101 (wF h101 (E:=false) rfl rfl rfl) rfl rfl rfl (v:=ν (128-((Cg (Ap vc_x80.M []) 128).length:Int))) (Az h101 rfl rfl) fun _ h102=>sv h102 (wF h102 (E:=false) rfl rfl rfl) rfl rfl rfl (v:=.bool true) (BV h102 rfl rfl rfl (cLe _ _ _ _ (decide_eq_true ω))) fun _ h103=>?_
      refine sv h103 (wF h103 (E:=false) rfl rfl rfl) rfl rfl rfl (v:=.bool true) (Az h103 rfl rfl) fun _ h104=>sv h104 (wT h104 (E:=true) rfl rfl rfl) rfl rfl rfl (v:=ν (128-((Cg (Ap vc_x80.M []) 128).length:Int))) (Az h104 rfl rfl) fun _ h105=>sv h105 (wT h105 (E:=true) rfl rfl rfl) rfl rfl rfl (v:=ν p9) (Az h105 rfl rfl) fun _ h106=>sv h106 (wT h106 (E:=true) rfl rfl rfl) rfl rfl rfl (v:=ν (128-((Cg (Ap vc_x80.M []) 128).length:Int)-p9)) (BV h106 rfl rfl rfl (Sb _ _ _ ω ω ω)) fun _ h107=>sv h107 (wT h107 (E:=true) rfl rfl rfl) rfl rfl rfl (v:=ν (((ndL U8:Nat):Int)-((ndL S8:Nat):Int))) (Az h107 rfl rfl) fun _ h108=>sv h108 (wT h108 (E:=true) rfl rfl rfl) rfl rfl rfl (v:=.bool true) (BV h108 rfl rfl rfl (cGe _ _ _ _ (decide_eq_true ω))) fun _ h109=>sv h109 (wF h109 (E:=false) rfl rfl rfl) rfl rfl rfl (v:=.bool true) (Cv h109 rfl rfl rfl) fun _ h110=>sv1 h110 rfl (v:=.bool true) (Cv h110 rfl rfl rfl) fun _ h111=>mv h111 rfl fun _ h112=>h112.sk [11,10,9,8,7,6,0,1,2] rfl fun h113=>?_
      refine wpList_nil<|hK20 _ _<|sq fun _ hK21=>sqr fun _ hK22=>mvs 2 h113 rfl fun _ h114=>h114.sn [82,11,10,9,8,7,6,0,1,2] rfl fun h115=>hK22 _ _<|wcF h115 rfl rfl<|h115.sk [11,10,9,8,7,6,0,1,2] rfl fun h116=>wp_skip<|hK21 _ _<|sqr fun _ hK23=>mvs 2 h116 rfl fun _ h117=>?_
      refine fav h117 rfl (fQ 2) fun _ h118=>ldv h118 s14 3 υ32 rfl rfl rfl rfl fun _ h119=>cl h119 rfl (cF Tryz.func13) (OV (k:=0) (S:=U8) vf_x298.v vf_x298.h s14 (by decide) (by decide) (by rw [hT303];exact II _ _ _)) fun _ v12 w15 r12 h120=>?_
      obtain ⟨rfl,s15⟩:=r12
      refine mvs 5 h120 rfl fun _ h121=>h121.sn [15,14,11,10,9,8,7,6,0,1,2] rfl fun h122=>hK23 _ _<|sqr fun _ hK24=>mv h122 rfl fun _ h123=>bv h123 (z:=.bool true) rfl (cEq _ _ _ _ rfl) fun _ h124=>mv h124 rfl fun _ h125=>sv h125 (wT h125 (E:=true) rfl rfl rfl) rfl rfl rfl (v:=σ U8) (Az h125 rfl rfl) fun _ h126=>sv h126 (wT h126 (E:=true) rfl rfl rfl) rfl rfl rfl (v:=σ U8) (Az h126 rfl rfl) fun _ h127=>sv h127 (wT h127 (E:=true) rfl rfl rfl) rfl rfl rfl (v:=.bool true) (BV h127 rfl rfl rfl (In _ _ _ _ _ (decide_eq_true rfl))) fun _ h128=>?_
      refine sv1 h128 rfl (v:=.bool true) (Cv h128 rfl rfl rfl) fun _ h129=>mv h129 rfl fun _ h130=>sv h130 (wT h130 (E:=true) rfl rfl rfl) rfl rfl rfl (v:=ν 0) (Az h130 rfl rfl) fun _ h131=>sv h131 (wT h131 (E:=true) rfl rfl rfl) rfl rfl rfl (v:=.bool true) (BV h131 rfl rfl rfl (cEq _ _ _ _ rfl)) fun _ h132=>sv1 h132 rfl (v:=.bool true) (Cv h132 rfl rfl rfl) fun _ h133=>mv h133 rfl fun _ h134=>so (wT h134 (E:=true) rfl rfl rfl) fun _ hK25=>BM h134 rfl rfl rfl (xs:=[]) rfl (cF Tryz.func14) rfl (vs:=[]) rfl (args:=#[]) rfl (Pm s15) fun _ v13 w16 r13 h135=>hK25 _ _ ?_
      obtain ⟨rfl,s16⟩:=r13
      refine sv1 h135 rfl (v:=.bool true) (Cv h135 rfl rfl rfl) fun _ h136=>h136.sk [131,130,129,128,127,126,125,124,123,122,121,120,119,118,15,14,11,10,9,8,7,0,1,2] rfl fun h137=>mv h137 rfl fun _ h138=>h138.sn [6,15,14,11,10,9,8,7,0,1,2] rfl fun h139=>hK24 _ _<|wp_ret ?_
      try simp only [Exit.then,Exit.inBlock]
      refine BF (v:=.bool true) (Dt h139 rfl rfl) h139.defs ?_
      exact ⟨rfl,Sep.tail_un (xs:=[]) (s16.pk [4] rfl)⟩
     ·skip
      have hp4:¬ (128-((Cg (Ap vc_x80.M []) 128).length:Int)-p9≥((ndL U8:Nat):Int)-((ndL S8:Nat):Int)):=(dF hc2)
      refine cl h49 rfl (cF Tryz.func16) (Ab8 (S:=S8) (S2:=U8) vc_x80 (by rw [hT95];exact II _ _ _) (s10.pk [2,0,1,3,4] rfl) ω ω ω (by unfold Vv;omega)) fun _ v14 w17 r14 h140=>?_
      obtain ⟨rfl,s17⟩:=r14
      refine mv h140 rfl fun _ h141=>h141.sn [10,9,8,7,6,0,1,2] rfl fun h142=>hK13 _ _<|sqr fun _ hK26=>mv h142 rfl fun _ h143=>bv h143 (z:=.bool false) rfl (cLe _ _ _ _ (decide_eq_false ω)) fun _ h144=>mv h144 rfl fun _ h145=>sv h145 (wF h145 (E:=false) rfl rfl rfl) rfl rfl rfl (v:=ν p9) (Az h145 rfl rfl) fun _ h146=>sv h146 (wF h146 (E:=false) rfl rfl rfl) rfl rfl rfl (v:=ν (128-((Cg (Ap vc_x80.M []) 128).length:Int))) (Az h146 rfl rfl) fun _ h147=>sv h147 (wF h147 (E:=false) rfl rfl rfl) rfl rfl rfl (v:=.bool (decide (p9≤128-((Cg (Ap vc_x80.M []) 128).length:Int)))) (BV h147 rfl rfl rfl (cLe _ _ _ _ rfl)) fun _ h148=>?_
      refine sv h148 (wF h148 (E:=false) rfl rfl rfl) rfl rfl rfl (v:=.bool (decide (p9≤128-((Cg (Ap vc_x80.M []) 128).length:Int)))) (Az h148 rfl rfl) fun _ h149=>sg h149 (wT h149 rfl rfl rfl) rfl rfl rfl (v:=ν (128-((Cg (Ap vc_x80.M []) 128).length:Int))) (fun hC1=>by have hq:=(dT hC1);exact Az h149 rfl rfl _) fun _ h150=>sg h150 (wT h150 rfl rfl rfl) rfl rfl rfl (v:=ν p9) (fun hC2=>by have hq:=(dT hC2);exact Az h150 rfl rfl _) fun _ h151=>sg h151 (wT h151 rfl rfl rfl) rfl rfl rfl (v:=ν (128-((Cg (Ap vc_x80.M []) 128).length:Int)-p9)) (fun hC3=>by have hq:=(dT hC3);exact BV h151 rfl (opg rfl hC3) (opg rfl hC3) (Sb _ _ _ ω ω ω) _) fun _ h152=>sg h152 (wT h152 rfl rfl rfl) rfl rfl rfl (v:=ν (((ndL U8:Nat):Int)-((ndL S8:Nat):Int))) (fun hC4=>by have hq:=(dT hC4);exact Az h152 rfl rfl _) fun _ h153=>sg h153 (wT h153 rfl rfl rfl) rfl rfl rfl (v:=.bool false) (fun hC5=>by have hq:=(dT hC5);exact BV h153 rfl (opg rfl hC5) (opg rfl hC5) (cGe _ _ _ _ (decide_eq_false ω)) _) fun _ h154=>sv h154 (wF h154 (E:=false) rfl rfl rfl) rfl rfl rfl (v:=.bool ((decide (p9≤128-((Cg (Ap vc_x80.M []) 128).length:Int)))&&false)) (EV h154 rfl (E:=(decide (p9≤128-((Cg (Ap vc_x80.M []) 128).length:Int)))) (F:=false) rfl rfl rfl (fun e=>if_pos (by rw [e];try rfl))) fun _ h155=>sv1 h155 rfl (v:=.bool ((decide (p9≤128-((Cg (Ap vc_x80.M []) 128).length:Int)))&&false)) (Cv h155 rfl rfl rfl) fun _ h156=>mv h156 rfl fun _ h157=>h157.sk [11,10,9,8,7,6,0,1,2] rfl fun h158=>?_
      refine wpList_nil<|hK26 _ _<|sq fun _ hK27=>sqr fun _ hK28=>mvs 2 h158 rfl fun _ h159=>h159.sn [82,11,10,9,8,7,6,0,1,2] rfl fun h160=>hK28 _ _<|wcT h160 rfl (KR (Afc rfl)) ?_
      refine h160.sk [11,10,9,8,7,6,0,1,2] rfl fun h161=>sqr fun _ hK29=>mvs 2 h161 rfl fun _ h162=>fav h162 rfl (fQ 0) fun _ h163=>ldv h163 s17 3 υ30 rfl rfl rfl rfl fun _ h164=>cl h164 rfl (cF Tryz.func10) (XK (s17.pk [2,0,1,3,4] rfl)) fun _ v15 w18 r15 h165=>?_
      obtain ⟨y_x479,rfl,s18⟩:=r15
      refine h165.sn [11,10,9,8,7,6,0,1,2] rfl fun h166=>hK29 _ _<|sqr fun _ hK30=>mvs 2 h166 rfl fun _ h167=>fav h167 rfl (fQ 2) fun _ h168=>ldv h168 s18 3 υ32 rfl rfl rfl rfl fun _ h169=>cl h169 rfl (cF Tryz.func13) (OV (k:=0) (S:=S8) vc_x80.v vc_x80.h (s18.pk [1,2,0,3,4] rfl) (by decide) (by decide) (by rw [hT95];exact II _ _ _)) fun _ v16 w19 r16 h170=>?_
      obtain ⟨rfl,s19⟩:=r16
      refine mvs 5 h170 rfl fun _ h171=>h171.sn [13,12,11,10,9,8,7,6,0,1,2] rfl fun h172=>hK30 _ _<|sqr fun _ hK31=>mv h172 rfl fun _ h173=>bv h173 (z:=.bool true) rfl (cEq _ _ _ _ rfl) fun _ h174=>mv h174 rfl fun _ h175=>sv h175 (wT h175 (E:=true) rfl rfl rfl) rfl rfl rfl (v:=σ S8) (Az h175 rfl rfl) fun _ h176=>sv h176 (wT h176 (E:=true) rfl rfl rfl) rfl rfl rfl (v:=σ S8) (Az h176 rfl rfl) fun _ h177=>sv h177 (wT h177 (E:=true) rfl rfl rfl) rfl rfl rfl (v:=.bool true) (BV h177 rfl rfl rfl (In _ _ _ _ _ (decide_eq_true rfl))) fun _ h178=>?_
      refine sv1 h178 rfl (v:=.bool true) (Cv h178 rfl rfl rfl) fun _ h179=>mv h179 rfl fun _ h180=>sv h180 (wT h180 (E:=true) rfl rfl rfl) rfl rfl rfl (v:=ν 0) (Az h180 rfl rfl) fun _ h181=>sv h181 (wT h181 (E:=true) rfl rfl rfl) rfl rfl rfl (v:=.bool true) (BV h181 rfl rfl rfl (cEq _ _ _ _ rfl)) fun _ h182=>sv1 h182 rfl (v:=.bool true) (Cv h182 rfl rfl rfl) fun _ h183=>mv h183 rfl fun _ h184=>so (wT h184 (E:=true) rfl rfl rfl) fun _ hK32=>BM h184 rfl rfl rfl (xs:=[]) rfl (cF Tryz.func14) rfl (vs:=[]) rfl (args:=#[]) rfl (Pm s19) fun _ v17 w20 r17 h185=>hK32 _ _ ?_
      obtain ⟨rfl,s20⟩:=r17
      refine sv1 h185 rfl (v:=.bool true) (Cv h185 rfl rfl rfl) fun _ h186=>h186.sk [109,108,107,106,105,104,103,102,101,100,99,98,97,96,13,12,11,10,9,8,7,0,1,2] rfl fun h187=>mv h187 rfl fun _ h188=>h188.sn [6,13,12,11,10,9,8,7,0,1,2] rfl fun h189=>hK31 _ _<|wp_ret ?_
      try simp only [Exit.then,Exit.inBlock]
      refine BF (v:=.bool true) (Dt h189 rfl rfl) h189.defs ?_
      exact ⟨rfl,Sep.tail_un (xs:=[]) (s20.pk [4] rfl)⟩
   refine sqr fun _ hK33=>mv h44 rfl fun _ h190=>bv h190 (z:=.bool (decide (sp<0))) rfl (cLt _ _ _ _ rfl) fun _ h191=>h191.sn [59,9,8,7,6,0,1,2] rfl fun h192=>hK33 _ _ ?_
   rcases bC (decide (sp<0)) with hc3 | hc3
   ·skip
    have hp5:sp<0:=(dT hc3)
    refine wcT h192 rfl hc3<|h192.sk [9,8,7,6,0,1,2] rfl fun h193=>wp_region_lit<|h193.sk [9,8,7,6,0,1] rfl fun h194=>mv h194 rfl fun _ h195=>wpList_nil ?_
    exact hJ155 0 _ _ (h195.subs rfl) s9 ω
   ·skip
    have hp6:¬ (sp<0):=(dF hc3)
    refine wcF h192 rfl hc3<|h192.sk [9,8,7,6,0,1,2] rfl fun h196=>wp_skip ?_
    exact hJ155 sp _ _ (h196.subs rfl) s9 ω
  refine sqr fun _ hK34=>mv h10 rfl fun _ h197=>sv1 h197 rfl (v:=ν (U.length:Int)) (Ee h197 rfl rfl υ9) fun _ h198=>bv h198 (z:=.bool (decide ((U.length:Int)>256))) rfl (cGt _ _ _ _ rfl) fun _ h199=>h199.sn [26,7,6,0,1,2] rfl fun h200=>hK34 _ _ ?_
  rcases bC (decide ((U.length:Int)>256)) with hc4 | hc4
  ·skip
   have hp7:(U.length:Int)>256:=(dT hc4)
   refine wcT h200 rfl hc4<|h200.sk [7,6,0,1,2] rfl fun h201=>wp_region_lit<|mv h201 rfl fun _ h202=>sv1 h202 rfl (v:=σ (U.take 256)) (Rm h202 rfl rfl (vl:=none) (vh:=(some (ν 256))) rfl rfl (fun w=>(fun w=>((slT 9 υ9 U (a:=0) (b:=256) (.inl ⟨rfl,rfl⟩) (.inr ⟨_,rfl,rfl⟩) ω ω) w).trans (by rw [List.drop_zero])) w)) fun _ h203=>h203.sk [28,27,7,6,0,2] rfl fun h204=>mv h204 rfl fun _ h205=>h205.sk [1,7,6,0,2] rfl fun h206=>wpList_nil ?_
   exact hJ39 (U.take 256) _ _ (h206.subs rfl) s2 (by (try rw [List.length_take]);omega)
  ·skip
   have hp8:¬ ((U.length:Int)>256):=(dF hc4)
   refine wcF h200 rfl hc4<|h200.sk [7,6,0,1,2] rfl fun h207=>wp_skip ?_
   exact hJ39 U _ _ (h207.subs rfl) s2 (by (try rw [List.length_take]);omega)
 refine sqr fun _ hK35=>mv h9 rfl fun _ h208=>sv1 h208 rfl (v:=ν (S.length:Int)) (Ee h208 rfl rfl υ9) fun _ h209=>bv h209 (z:=.bool (decide ((S.length:Int)>256))) rfl (cGt _ _ _ _ rfl) fun _ h210=>h210.sn [21,7,6,0,1,2] rfl fun h211=>hK35 _ _ ?_
 rcases bC (decide ((S.length:Int)>256)) with hc5 | hc5
 ·skip
  have hp10:(S.length:Int)>256:=(dT hc5)
  refine wcT h211 rfl hc5<|h211.sk [7,6,0,1,2] rfl fun h212=>wp_region_lit<|mv h212 rfl fun _ h213=>sv1 h213 rfl (v:=σ (S.take 256)) (Rm h213 rfl rfl (vl:=none) (vh:=(some (ν 256))) rfl rfl (fun w=>(fun w=>((slT 9 υ9 S (a:=0) (b:=256) (.inl ⟨rfl,rfl⟩) (.inr ⟨_,rfl,rfl⟩) ω ω) w).trans (by rw [List.drop_zero])) w)) fun _ h214=>h214.sk [23,22,7,6,1,2] rfl fun h215=>mv h215 rfl fun _ h216=>h216.sk [0,7,6,1,2] rfl fun h217=>wpList_nil ?_
  exact hJ33 (S.take 256) _ _ (h217.subs rfl) s1 (by (try rw [List.length_take]);omega)
 ·skip
  have hp11:¬ ((S.length:Int)>256):=(dF hc5)
  refine wcF h211 rfl hc5<|h211.sk [7,6,0,1,2] rfl fun h218=>wp_skip ?_
  exact hJ33 S _ _ (h218.subs rfl) s1 (by (try rw [List.length_take]);omega)
end
section
theorem FilesSpace_walk (w:World) (s:ByteArray) (_:s.size≤maxLen) (t:ByteArray) (_:t.size≤maxLen) (p:Int) (hp:(Lit.int IntKind.i64 p).wf=true):Calls Tryz.prog 5 #[.string s,.string t,ν p] w fun e w'=>e=.returned (.bool true)∧Below w.heap.size w w':=by
  obtain ⟨S,rfl⟩:∃ S,s=Ai S:=⟨s.data.toList,by cases s;simp [Ai]⟩
  obtain ⟨U,rfl⟩:∃ S,t=Ai S:=⟨t.data.toList,by cases t;simp [Ai]⟩
  have hS:Sep w ([]++[Aeb w w.heap.size]):=Sep.start w
  have hq:-9223372036854775808≤p∧p≤9223372036854775807:=by have z:=hp;simp [Lit.wf] at z;exact z
  refine Calls.mono (FSp (S:=S) (U:=U) (sp:=p) hS ω) fun e w' ⟨v,e1,e2,h⟩=>⟨by rw [e1,e2],?_⟩
  have o:Below w.heap.size w w'∧_:=h.get 0 rfl
  exact o.1
end
end Go.Proofs.YtbfgjinpchbajaaGreatDoor
