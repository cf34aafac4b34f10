/- Parts of the proof. -/
import Derived.Test.YtpnknncmacjdkaaGreatDoorQal
namespace Go.Proofs.YtpnknncmacjdkaaGreatDoor
open Go.RowKit
open _root_.Go.Proofs.Tryz
set_option linter.unusedSimpArgs false
set_option linter.unusedVariables false
set_option linter.unusedSectionVars false
set_option maxRecDepth 100000
set_option maxHeartbeats 8000000
section
theorem MP {z:Int} {n:Nat} (h:0≤z) (hn:0<n):∃ k:Nat,z.tmod (n:Int)=(k:Int)∧k<n:=by
 obtain ⟨m,rfl⟩:∃ m:Nat,z=(m:Int):=⟨z.toNat,ω⟩
 exact ⟨m % n,rfl,Nat.mod_lt _ hn⟩
theorem TD (T:TypeId) {E:TypeId} (hu:prog.underlying T=some (.pointer E)) (x y:Operand) (p:Addr) (w:World):(do eqGuard .eql T x y (.pointer (some p)) (.pointer none);binOp .eql T (.pointer (some p)) (.pointer none):Sem Value).run prog w=.ok (.bool false) w:=IO T hu x y (some p) w
theorem ZA (T:TypeId) {E:TypeId} (hu:prog.underlying T=some (.pointer E)) (x y:Operand) (p:Addr) (w:World):(do eqGuard .neq T x y (.pointer (some p)) (.pointer none);binOp .neq T (.pointer (some p)) (.pointer none):Sem Value).run prog w=.ok (.bool true) w:=Ab5 T hu x y (some p) w
def nmC (o:Ω) (g v d p:Nat) (N:MemM):Ch where
 F b:=o≠none∧(b=g∨b=v∨b=d∨b=p)
 P w:=o=none∨(o=some ⟨g,0,none⟩∧MemP w g v d p N)
 keep h t:=by
  rcases h with e | ⟨e,m⟩
  ·exact .inl e
  ·have ne:o≠none:=by rw [e];exact fun q=>by cases q
   exact .inr ⟨e,m.turns t (fun q=>q ⟨ne,.inl rfl⟩) (fun q=>q ⟨ne,.inr (.inl rfl)⟩) (fun q=>q ⟨ne,.inr (.inr (.inl rfl))⟩) (fun q=>q ⟨ne,.inr (.inr (.inr rfl))⟩)⟩
 lt h b hb:=by
  rcases h with e | ⟨e,m⟩
  ·exact absurd e hb.1
  ·obtain ⟨_,_,_,_,_,_,h1,h2,h3,h4⟩:=CQ m
   rcases hb.2 with e | e | e | e<;>omega
theorem Qk {w:World} {R:List Ch} {g v d p:Nat} {N:MemM} (h:Sep w (Ca g v d p N::R)):Sep w (nmC (some ⟨g,0,none⟩) g v d p N::R):=by
 have m:MemP w g v d p N:=h.get 0 rfl
 exact h.head (Turns.refl (fun _=>False) w) (fun _ _ q=>q.elim) (c':=nmC (some ⟨g,0,none⟩) g v d p N) (.inr ⟨rfl,m⟩) fun k q=>.inl q.2
theorem Aaz {w:World} {R:List Ch} {g v d p:Nat} {N:MemM} (h:Sep w R):Sep w (nmC none g v d p N::R):=
 h.push (Below.refl _ _) (c:=nmC none g v d p N) (.inl rfl) fun k hk=>absurd rfl hk.1
theorem Yi {w:World} {R:List Ch} {g v d p:Nat} {N:MemM} {o:Ω} (h:Sep w (nmC o g v d p N::R)) (ho:o≠none):o=some ⟨g,0,none⟩∧Sep w (Ca g v d p N::R):=by
 have m:o=none∨(o=some ⟨g,0,none⟩∧MemP w g v d p N):=h.get 0 rfl
 rcases m with e | ⟨e,m⟩
 ·exact absurd e ho
 ·exact ⟨e,h.head (Turns.refl (fun _=>False) w) (fun _ _ q=>q.elim) (c':=Ca g v d p N) m fun k q=>.inl ⟨ho,q⟩⟩
def Jy (n:Int):Bool:=decide (FR n)
theorem Ab0 {n:Int} (h:Jy n=true):0≤n:=by have z:=dT h;unfold FR at z;omega
theorem LV {n:Nat}:(EV n).V.length=n:=by show (List.replicate n 0).length=n;rw [List.length_replicate]
theorem Aaw {w:World} {R:List Ch} (hS:Sep w R) {n:Int} (h:Jy n=true):CallsR prog 4 #[ν n] w (fun x w'=>∃ g v d p,x=π g∧Sep w' (Ca g v d p (EV n.toNat)::R)):=Ads hS (dT h)
theorem Aav {w:World} {R:List Ch} (hS:Sep w R) {n:Int} (h:Jy n=false) (hn:-9223372036854775808≤n∧n≤9223372036854775807):CallsR prog 4 #[ν n] w (fun x w'=>x=.pointer none∧Sep w' R):=
 Calls.mono (LT n w ω) fun e w' z=>by
  unfold Po at z;rw [if_neg (dF h)] at z
  obtain ⟨e1,e2⟩:=z
  first | exact ⟨_,e1,rfl,e2 ▸ hS⟩ | exact ⟨_,e1,rfl,hS.mono e2⟩
theorem Yd {w:World} {R:List Ch} (hS:Sep w R) {n:Int} (hn:-9223372036854775808≤n∧n≤9223372036854775807):CallsR prog 4 #[ν n] w (fun x w'=>∃ (o:Ω) (g v d p:Nat) (N:MemM),x=.pointer o∧Sep w' (nmC o g v d p N::R)∧(n≠23168→N.V.length≠23168)):=by
 cases h:Jy n with
 | true=>exact CallsR.mono (Aaw hS h) fun x w' ⟨g,v,d,p,e,s⟩=>⟨_,g,v,d,p,_,e,Qk s,by have z:=Ab0 h;rw [LV];omega⟩
 | false=>exact CallsR.mono (Aav hS h hn) fun x w' ⟨e,s⟩=>⟨none,0,0,0,0,EV 0,e,Aaz s,fun _=>by rw [LV];omega⟩
theorem Sv {w:World} {R:List Ch} {o:Ω} {g v d p:Nat} {N:MemM} (hS:Sep w (nmC o g v d p N::R)):CallsR prog 5 #[.pointer o] w (fun x w'=>∃ (xo:Ω) (xe:Int) (N':MemM),x=.tuple #[.pointer xo,ν xe]∧Sep w' (nmC o g v d p N'::R)∧(N.V.length≠23168→xo=none∧xe=1)∧N'.V.length=N.V.length):=by
 by_cases ho:o=none
 ·subst ho
  exact CallsR.mono (Aas (R:=nmC none g v d p N::R) hS) fun x w' ⟨e,s⟩=>⟨none,1,N,e,s,fun _=>⟨rfl,rfl⟩,rfl⟩
 ·obtain ⟨rfl,hm⟩:=Yi hS ho
  by_cases hl:N.V.length=23168
  ·cases h:FP (AI N 2688 4096) [] with
   | true=>exact CallsR.mono (Jj (R:=R) hm hl h) fun x w' ⟨K,mx,fx,vx,e,s,hk⟩=>⟨_,0,AI N 2688 4096,e,Qk (Kj (Sep.tail_un (xs:=[_]) ((Sep.tail_many (xs:=[_,_,_]) s).pick [2,3] (by decide) rfl)) hk),fun q=>absurd hl q,Cp _ _ _⟩
   | false=>exact CallsR.mono (Ue (R:=R) hm hl h) fun x w' ⟨e,s⟩=>⟨none,36,AI N 2688 4096,e,Qk s,fun q=>absurd hl q,Cp _ _ _⟩
  ·exact CallsR.mono (Aar (R:=R) hm hl) fun x w' ⟨e,s⟩=>⟨none,1,N,e,Qk s,fun _=>⟨rfl,rfl⟩,rfl⟩
theorem PM {w:World} {R:List Ch} {o:Ω} {g v d p:Nat} {N:MemM} (hS:Sep w (nmC o g v d p N::R)) (hl:N.V.length≠23168):CallsR prog 6 #[.pointer o] w (fun x w'=>x=ν 1∧Sep w' (nmC o g v d p N::R)):=by
 by_cases ho:o=none
 ·subst ho;exact Xz (R:=nmC none g v d p N::R) hS
 ·obtain ⟨rfl,hm⟩:=Yi hS ho
  exact CallsR.mono (Xx (R:=R) hm hl) fun x w' ⟨e,s⟩=>⟨e,Qk s⟩
theorem Aee {w:World} {R:List Ch} (hS:Sep w R) {a b:Ω} {c d:Nat} {X Y:Λ} (ha:RowB w a c X) (hb:RowB w b d Y) (e:X=Y):CallsR prog 14 #[.slice a X.length c,.slice b Y.length d] w (fun v w'=>v=.bool true∧Sep w' R):=by
 subst e
 exact Calls.mono (YP a b c d X X w ha hb (Ce ha) (Ce ha)) fun e w' z=>⟨_,z.1,by rw [decide_eq_true rfl],hS.mono z.2⟩
theorem PV {w:World} {R:List Ch} {mx:Nat} {K:VolK} {ta:Ω} {tc:Nat} {M:MemM} {P:List PtM} {i:Int} {x:InoT} {b:Int}  (hS0:Sep w ([Ab mx 125 [π K.tg],txP K ta tc M P]++R)) (hM:M.V.length=23168) (h:Aj M P i=x∧AU M P i=b):CallsR prog 11 #[π mx,ν i] w (fun v w'=>v=.tuple #[.agg (AE x).toArray,ν b]∧Sep w' ([Ab mx 125 [π K.tg],txP K ta tc M P]++R)):=
 Calls.mono (En hS0 hM) fun e w' z=>by rw [h.1,h.2] at z;exact z
theorem VMo {W w:World} {R:List Ch} {a0:Ω} {c0:Nat} {xs:Λ} {sz0 z0:Int} (hS0:Sep w ([Dh W W.heap.size]++R)) (hrow:RowB W a0 c0 xs) (hs0:-9223372036854775808≤sz0∧sz0≤9223372036854775807) (hz0:-9223372036854775808≤z0∧z0≤9223372036854775807) :
  CallsR prog 3 #[ν sz0,.slice a0 xs.length c0,ν z0] w (fun v w'=>v=.bool true∧Sep w' ([Dh W W.heap.size]++R)):=by
 have hS:Sep w [Dh W W.heap.size,Ch.many R]:=Sep.tail_many (xs:=[_]) hS0;clear hS0
 have hxl:=Ce hrow
 have hcp:xs.length≤c0:=hrow.2.1
 refine AB func3 rfl (N:=164) ntmps3 (by show 3≤164;decide) [(0,ν sz0),(1,.slice a0 xs.length c0),(2,ν z0)] rfl fun _ h1=>sqr fun _ hK3=>mv h1 rfl fun _ h4=>wpList_nil<|hK3 _ _<|sq fun K6 hK6=>?_
 have hJ7:∀ (sz:Int) a' w',Kn 164 [(6,.bool false),(0,ν sz),(1,.slice a0 xs.length c0),(2,ν z0)] a'→Sep w' [Dh W W.heap.size,Ch.many R]→(-9223372036854775808≤sz∧sz≤30000)→K6 a' w':=by
  intro sz a8 w9 h2 s1 hsz
  refine hK6 _ _ ?_
  refine sqr fun _ hK1=>mv h2 rfl fun _ h3=>cl h3 rfl (cF func4) (Yd s1 ω) fun _ v1 w1 r1 h5=>?_
  obtain ⟨no_x15,ngx16,nv_x17,ndx18,npx19,N_x20,rfl,s2,hN25⟩:=r1
  refine mv h5 rfl fun _ h6=>h6.sn [7,6,0,1,2] rfl fun h7=>hK1 _ _<|sqr fun _ hK2=>mv h7 rfl fun _ h8=>cl h8 rfl (cF func5) (Sv s2) fun _ v2 w2 r2 h9=>?_
  obtain ⟨xo_x34,xe_x35,N2_x36,rfl,s3,hX41,hN241⟩:=r2
  refine mvs 5 h9 rfl fun _ h10=>h10.sn [9,8,7,6,0,1,2] rfl fun h11=>hK2 _ _<|sq fun K1 hK4=>?_
  have hJ56:∀ (u9:Nat) a' w',Kn 164 [(6,.bool false),(0,ν sz),(1,.slice a0 xs.length c0),(2,ν z0)] a'→Sep w' [Dh W W.heap.size,Ch.many R]→K1 a' w':=by
   intro u9 a1 w3 h12 s4
   refine hK4 _ _ ?_
   refine sqr fun _ hK5=>cl h12 rfl (cF func7) (UH s4) fun _ v3 w4 r3 h13=>?_
   obtain ⟨pgx62,pv_x63,pdx64,ppx65,MLx66,px_x67,vxx68,rp_x69,rfl,s5,hMb74⟩:=r3
   refine mv h13 rfl fun _ h14=>h14.sn [10,6,0,1,2] rfl fun h15=>hK5 _ _<|sq fun _ hK7=>sqr fun _ hK8=>mv h15 rfl fun _ h16=>bv h16 (z:=.bool false) rfl (TD _ υ30 _ _ ⟨px_x67,0,none⟩) fun _ h17=>h17.sn [54,10,6,0,1,2] rfl fun h18=>hK8 _ _<|wcF h18 rfl rfl<|h18.sk [10,6,0,1,2] rfl fun h19=>?_
   refine wp_skip<|hK7 _ _<|sq fun K2 hK9=>?_
   have hJ89:∀ (z:Int) a' w',Kn 164 [(10,π px_x67),(6,.bool false),(0,ν sz),(1,.slice a0 xs.length c0),(2,ν z)] a'→Sep w' [Ab px_x67 35 [π pgx62,π vxx68,π rp_x69],Ca pgx62 pv_x63 pdx64 ppx65 MLx66,Dh W W.heap.size,Ch.many R]→(0≤z∧z≤9223372036854775807)→K2 a' w':=by
    intro z a2 w5 h20 s6 hz
    refine hK9 _ _ ?_
    refine sq fun K3 hK10=>?_
    have hJ95:∀ (n9:Nat) a' w',Kn 164 [(10,π px_x67),(6,.bool false),(0,ν sz),(1,.slice a0 n9 c0),(2,ν z)] a'→Sep w' [Ab px_x67 35 [π pgx62,π vxx68,π rp_x69],Ca pgx62 pv_x63 pdx64 ppx65 MLx66,Dh W W.heap.size,Ch.many R]→(RowB W a0 c0 (xs.take n9)∧(xs.take n9).length=n9∧n9≤200)→K3 a' w':=by
     intro n9 a3 w6 h21 s7 hr
     refine hK10 _ _ ?_
     refine sqr fun _ hK11=>mvs 2 h21 rfl fun _ h22=>?_
     obtain ⟨k,hk,hkl⟩:=MP (z:=z) (n:=22900) ω ω
     refine bv h22 (z:=ν (k:Int)) rfl (Aet _ _ _ ω hk) fun _ h23=>mv h23 rfl fun _ h24=>cl h24 rfl (cF func8) (Vp (s7.pk [2,0,1,3] rfl) hMb74 hr.1 hr.2.1 ω) fun _ v4 w7 r4 h25=>?_
     obtain ⟨MQ_x109,rfl,s8,hMq114⟩:=r4
     have hML:=hMq114
     refine h25.sn [10,6,0,1,2] rfl fun h26=>hK11 _ _<|sqr fun _ hK12=>mvs 2 h26 rfl fun _ h27=>fav h27 rfl (fQ 0) fun _ h28=>ldv h28 s8 1 υ23 rfl rfl rfl rfl fun _ h29=>?_
     rcases bC (FP (AI MQ_x109 2688 4096) []) with hc1 | hc1
     ·skip
      refine cl h29 rfl (cF func5) (Jj (s8.pk [2,0,1,3] rfl) hML hc1) fun _ v5 w8 r5 h30=>?_
      obtain ⟨kk_x129,mx_x130,fx_x131,vx_x132,rfl,s9,hKK137⟩:=r5
      refine mvs 5 h30 rfl fun _ h31=>h31.sn [12,11,10,6,0,1,2] rfl fun h32=>hK12 _ _<|sq fun _ hK13=>sqr fun _ hK14=>mv h32 rfl fun _ h33=>bv h33 (z:=.bool false) rfl (cNe _ _ _ _ rfl) fun _ h34=>h34.sn [79,12,11,10,6,0,1,2] rfl fun h35=>hK14 _ _<|wcF h35 rfl rfl<|h35.sk [12,11,10,6,0,1,2] rfl fun h36=>?_
      refine wp_skip<|hK13 _ _<|sq fun _ hK15=>sqr fun _ hK16=>mv h36 rfl fun _ h37=>bv h37 (z:=.bool false) rfl (TD _ υ25 _ _ ⟨vx_x132,0,none⟩) fun _ h38=>h38.sn [90,12,11,10,6,0,1,2] rfl fun h39=>hK16 _ _<|wcF h39 rfl rfl<|h39.sk [12,11,10,6,0,1,2] rfl fun h40=>wp_skip<|hK15 _ _<|sq fun _ hK17=>sq fun _ hK18=>?_
      have hM1:(AI MQ_x109 2688 4096).V.length=23168:=by rw [Cp];exact hML
      refine wp_region_lit<|mv h40 rfl fun _ h41=>wpList_nil<|hK18 _ _<|wp_block ?_
      refine DZ (fun (i:Nat) a' w'=>Kn 164 [(13,ν ((i+1:Nat):Int)),(12,ν 0),(11,π vx_x132),(10,π px_x67),(6,.bool false),(0,ν sz),(1,.slice a0 n9 c0),(2,ν z)] a'∧Sep w' [Ab vx_x132 66 [π kk_x129.tg,π mx_x130,π fx_x131],Ab mx_x130 125 [π kk_x129.tg],txP kk_x129 none 0 (AI MQ_x109 2688 4096) [],Dh W W.heap.size,Ab px_x67 35 [π pgx62,π vxx68,π rp_x69],Ch.many R]∧(i≤32)) (fun (i:Nat)=>32-i) 0 ⟨h41.subs rfl,s9,Nat.zero_le _⟩ ?_
      rintro i1 a4 w10 ⟨h42,s10,hi176⟩ K4 hK19
      refine sq fun _ hK20=>sqr fun _ hK21=>mv h42 rfl fun _ h43=>bv h43 (z:=.bool (decide (((i1+1:Nat):Int)≤32))) rfl (cLe _ _ _ _ rfl) fun _ h44=>h44.sn [92,13,12,11,10,6,0,1,2] rfl fun h45=>hK21 _ _ ?_
      rcases bC (decide (((i1+1:Nat):Int)≤32)) with hc2 | hc2
      ·skip
       have hp1:((i1+1:Nat):Int)≤32:=(dT hc2)
       refine wcT h45 rfl hc2<|h45.sk [13,12,11,10,6,0,1,2] rfl fun h46=>wp_skip<|hK20 _ _<|sq fun _ hK22=>wp_block ?_
       refine sqr fun _ hK23=>mv h46 rfl fun _ h47=>cl h47 rfl (cF func10) (Uu s10) fun _ v6 w11 r6 h48=>?_
       obtain ⟨rfl,s11⟩:=r6
       refine mv h48 rfl fun _ h49=>?_
       rcases bC (decide (i1=0)) with hc3 | hc3
       ·skip
        have hp2:i1=0:=(dT hc3)
        obtain ⟨y9,hy9⟩:∃ y,Aj (AI MQ_x109 2688 4096) [] (((i1+1:Nat)):Int)=y:=⟨_,rfl⟩
        have hyk:y9.k=2:=by rw [← hy9,show (((i1+1:Nat)):Int)=1 by omega];exact (Pi hc1).2.2.2
        refine cl h49 rfl (cF func11) (PV (i:=((i1+1:Nat):Int)) (s11.pk [1,2,0,3,4,5] rfl) hM1 ⟨hy9,(Pi hc1).2.2.1 i1 ω⟩) fun _ v7 w12 r7 h50=>?_
        obtain ⟨rfl,s12⟩:=r7
        refine mvs 3 h50 rfl fun _ h51=>so (wn rfl) fun _ hK24=>AO h51 rfl rfl rfl rfl (z:=[ν 0,ν 0,ν 0,ν 0,ν 0,ν 0,ν 0,ν 0,ν 0,ν 0,ν 0,ν 0,ν 0,ν 0,ν 0]) (fun _=>rfl) s12 fun _ g1 w13 h52 s13 _ _=>hK24 _ _ ?_
        refine stA h52 s13 0 rfl rfl rfl κ rfl rfl rfl rfl fun _ w14 h53 s14 _=>mv h53 rfl fun _ h54=>h54.sn [15,14,13,12,11,10,6,0,1,2] rfl fun h55=>hK23 _ _<|sqr fun _ hK25=>mv h55 rfl fun _ h56=>bv h56 (z:=.bool false) rfl (cNe _ _ _ _ rfl) fun _ h57=>mv h57 rfl fun _ h58=>sv h58 (wF h58 (E:=false) rfl rfl rfl) rfl rfl rfl (v:=ν ((i1+1:Nat):Int)) (Au h58 rfl rfl) fun _ h59=>sv h59 (wF h59 (E:=false) rfl rfl rfl) rfl rfl rfl (v:=.bool true) (Co h59 rfl rfl rfl (cEq _ _ _ _ (decide_eq_true ω))) fun _ h60=>?_
        refine sv h60 (wF h60 (E:=false) rfl rfl rfl) rfl rfl rfl (v:=.bool true) (Au h60 rfl rfl) fun _ h61=>sv h61 (wT h61 (E:=true) rfl rfl rfl) rfl rfl rfl (v:=π g1) (rfa h61 rfl rfl (fQ 0)) fun _ h62=>sw h62 (wT h62 (E:=true) rfl rfl rfl) rfl rfl rfl (v:=ν y9.k) (rld h62 rfl rfl (ldB υ3 rfl (s14.get 0 rfl:Blk _ _ _ _) rfl)) fun _ h63=>sv h63 (wT h63 (E:=true) rfl rfl rfl) rfl rfl rfl (v:=.bool false) (Co h63 rfl rfl rfl (cNe _ _ _ _ (decide_eq_false ω))) fun _ h64=>sv h64 (wF h64 (E:=false) rfl rfl rfl) rfl rfl rfl (v:=.bool false) (BA h64 rfl rfl rfl) fun _ h65=>sv1 h65 rfl (v:=.bool false) (BA h65 rfl rfl rfl) fun _ h66=>h66.sn [112,15,14,13,12,11,10,6,0,1,2] rfl fun h67=>hK25 _ _<|wcF h67 rfl rfl<|h67.sk [15,14,13,12,11,10,6,0,1,2] rfl fun h68=>?_
        refine wp_skip<|hK22 _ _<|wp_region_lit<|mv h68 rfl fun _ h69=>bv h69 (z:=ν ((i1+2:Nat):Int)) rfl (CT _ _ _ ω ω ω) fun _ h70=>h70.sk [94,93,15,14,12,11,10,6,0,1,2] rfl fun h71=>mv h71 rfl fun _ h72=>h72.sk [13,15,14,12,11,10,6,0,1,2] rfl fun h73=>wpList_nil ?_
        exact hK19 (i1+1) _ _ ⟨h73.subs rfl,(s14.pk [3,1,2,4,5,6] rfl),ω⟩ ω
       ·skip
        have hp3:¬ (i1=0):=(dF hc3)
        refine cl h49 rfl (cF func11) (PV (i:=((i1+1:Nat):Int)) (x:=Aj (AI MQ_x109 2688 4096) [] (((i1+1:Nat)):Int)) (s11.pk [1,2,0,3,4,5] rfl) hM1 ⟨rfl,(Pi hc1).2.2.1 i1 ω⟩) fun _ v8 w15 r8 h74=>?_
        obtain ⟨rfl,s15⟩:=r8
        refine mvs 3 h74 rfl fun _ h75=>so (wn rfl) fun _ hK26=>AO h75 rfl rfl rfl rfl (z:=[ν 0,ν 0,ν 0,ν 0,ν 0,ν 0,ν 0,ν 0,ν 0,ν 0,ν 0,ν 0,ν 0,ν 0,ν 0]) (fun _=>rfl) s15 fun _ g2 w16 h76 s16 _ _=>hK26 _ _ ?_
        refine stA h76 s16 0 rfl rfl rfl κ rfl rfl rfl rfl fun _ w17 h77 s17 _=>mv h77 rfl fun _ h78=>h78.sn [15,14,13,12,11,10,6,0,1,2] rfl fun h79=>hK23 _ _<|sqr fun _ hK27=>mv h79 rfl fun _ h80=>bv h80 (z:=.bool false) rfl (cNe _ _ _ _ rfl) fun _ h81=>mv h81 rfl fun _ h82=>sv h82 (wF h82 (E:=false) rfl rfl rfl) rfl rfl rfl (v:=ν ((i1+1:Nat):Int)) (Au h82 rfl rfl) fun _ h83=>sv h83 (wF h83 (E:=false) rfl rfl rfl) rfl rfl rfl (v:=.bool false) (Co h83 rfl rfl rfl (cEq _ _ _ _ (decide_eq_false ω))) fun _ h84=>?_
        refine sv h84 (wF h84 (E:=false) rfl rfl rfl) rfl rfl rfl (v:=.bool false) (Au h84 rfl rfl) fun _ h85=>su h85 (wT h85 (E:=false) rfl rfl rfl) rfl rfl rfl fun _ h86=>su h86 (wT h86 (E:=false) rfl rfl rfl) rfl rfl rfl fun _ h87=>su h87 (wT h87 (E:=false) rfl rfl rfl) rfl rfl rfl fun _ h88=>sv h88 (wF h88 (E:=false) rfl rfl rfl) rfl rfl rfl (v:=.bool false) (BA h88 rfl rfl rfl) fun _ h89=>sv1 h89 rfl (v:=.bool false) (BA h89 rfl rfl rfl) fun _ h90=>h90.sn [112,15,14,13,12,11,10,6,0,1,2] rfl fun h91=>hK27 _ _<|wcF h91 rfl rfl<|h91.sk [15,14,13,12,11,10,6,0,1,2] rfl fun h92=>?_
        refine wp_skip<|hK22 _ _<|wp_region_lit<|mv h92 rfl fun _ h93=>bv h93 (z:=ν ((i1+2:Nat):Int)) rfl (CT _ _ _ ω ω ω) fun _ h94=>h94.sk [94,93,15,14,12,11,10,6,0,1,2] rfl fun h95=>mv h95 rfl fun _ h96=>h96.sk [13,15,14,12,11,10,6,0,1,2] rfl fun h97=>wpList_nil ?_
        exact hK19 (i1+1) _ _ ⟨h97.subs rfl,(s17.pk [3,1,2,4,5,6] rfl),ω⟩ ω
      ·skip
       have hp4:¬ (((i1+1:Nat):Int)≤32):=(dF hc2)
       refine wcF h45 rfl hc2<|h45.sk [13,12,11,10,6,0,1,2] rfl fun h98=>wp_exit ?_
       refine hK17 _ _ ?_
       refine sq fun _ hK28=>sqr fun _ hK29=>mv h98 rfl fun _ h99=>wpList_nil<|hK29 _ _<|wp_block ?_
       refine DZ (fun (j:Nat) a' w'=>Kn 164 [(16,ν ((j+1:Nat):Int)),(12,ν 0),(11,π vx_x132),(10,π px_x67),(6,.bool false),(0,ν sz),(1,.slice a0 n9 c0),(2,ν z)] a'∧Sep w' [Ab vx_x132 66 [π kk_x129.tg,π mx_x130,π fx_x131],Ab mx_x130 125 [π kk_x129.tg],txP kk_x129 none 0 (AI MQ_x109 2688 4096) [],Dh W W.heap.size,Ab px_x67 35 [π pgx62,π vxx68,π rp_x69],Ch.many R]∧(j≤8)) (fun (j:Nat)=>8-j) 0 ⟨h99.subs rfl,s10,Nat.zero_le _⟩ ?_
       rintro j342 a5 w18 ⟨h100,s18,hj341⟩ K5 hK30
       refine sq fun _ hK31=>sqr fun _ hK32=>mv h100 rfl fun _ h101=>bv h101 (z:=.bool (decide (((j342+1:Nat):Int)≤8))) rfl (cLe _ _ _ _ rfl) fun _ h102=>h102.sn [114,16,12,11,10,6,0,1,2] rfl fun h103=>hK32 _ _ ?_
       rcases bC (decide (((j342+1:Nat):Int)≤8)) with hc4 | hc4
       ·skip
        have hp5:((j342+1:Nat):Int)≤8:=(dT hc4)
        refine wcT h103 rfl hc4<|h103.sk [16,12,11,10,6,0,1,2] rfl fun h104=>wp_skip<|hK31 _ _<|sq fun _ hK33=>wp_block ?_
        refine sqr fun _ hK34=>mvs 2 h104 rfl fun _ h105=>cl h105 rfl (cF func12) (Ph (c:=((j342+1:Nat):Int)) (z:=slR (AI MQ_x109 2688 4096) [] (((j342+1:Nat)):Int)) s18 hM1 ⟨rfl,(Pi hc1).2.1 j342 ω⟩) fun _ v9 w19 r9 h106=>?_
        obtain ⟨rfl,s19⟩:=r9
        refine mvs 3 h106 rfl fun _ h107=>so (wn rfl) fun _ hK35=>AO h107 rfl rfl rfl rfl (z:=[ν 0,ν 0,ν 0,ν 0,ν 0,ν 0]) (fun _=>rfl) s19 fun _ g3 w20 h108 s20 _ _=>hK35 _ _ ?_
        refine stA h108 s20 0 rfl rfl rfl κ rfl rfl rfl rfl fun _ w21 h109 s21 _=>mv h109 rfl fun _ h110=>h110.sn [18,16,12,11,10,6,0,1,2] rfl fun h111=>hK34 _ _<|sqr fun _ hK36=>mv h111 rfl fun _ h112=>bv h112 (z:=.bool false) rfl (cNe _ _ _ _ rfl) fun _ h113=>h113.sn [124,18,16,12,11,10,6,0,1,2] rfl fun h114=>hK36 _ _<|wcF h114 rfl rfl ?_
        refine h114.sk [18,16,12,11,10,6,0,1,2] rfl fun h115=>wp_skip<|hK33 _ _<|wp_region_lit<|mv h115 rfl fun _ h116=>bv h116 (z:=ν ((j342+2:Nat):Int)) rfl (CT _ _ _ ω ω ω) fun _ h117=>h117.sk [116,115,18,12,11,10,6,0,1,2] rfl fun h118=>mv h118 rfl fun _ h119=>h119.sk [16,18,12,11,10,6,0,1,2] rfl fun h120=>wpList_nil ?_
        exact hK30 (j342+1) _ _ ⟨h120.subs rfl,(s21.pk [1,2,3,4,5,6] rfl),ω⟩ ω
       ·skip
        have hp6:¬ (((j342+1:Nat):Int)≤8):=(dF hc4)
        refine wcF h103 rfl hc4<|h103.sk [16,12,11,10,6,0,1,2] rfl fun h121=>wp_exit ?_
        refine hK28 _ _ ?_
        refine sq fun _ hK37=>?_
        have s22:Sep _ [Ca pgx62 pv_x63 pdx64 ppx65 (AI MQ_x109 2688 4096),Ab vx_x132 66 [π kk_x129.tg,π mx_x130,π fx_x131],Ab mx_x130 125 [π kk_x129.tg],Dh W W.heap.size,Ab px_x67 35 [π pgx62,π vxx68,π rp_x69],Ch.many R]:=Kj ((s18.pk [2,0,1,3,4,5] rfl)) hKK137
        refine wp_region_lit<|mvs 2 h121 rfl fun _ h122=>fav h122 rfl (fQ 0) fun _ h123=>ldv h123 s22 4 υ23 rfl rfl rfl rfl fun _ h124=>cl h124 rfl (cF func13) (XU (at_:=0) (n:=23168) s22 (TW hM1 ω) (by unfold Ec;omega) (by unfold Ec;omega)) fun _ v10 w22 r10 h125=>?_
        obtain ⟨ra_x416,rc_x417,rfl,s23⟩:=r10
        refine mvs 5 h125 rfl fun _ h126=>h126.sn [19,16,12,11,10,6,0,1,2] rfl fun h127=>hK37 _ _<|sqr fun _ hK38=>mvs 2 h127 rfl fun _ h128=>fav h128 rfl (fQ 0) fun _ h129=>ldv h129 s23 5 υ23 rfl rfl rfl rfl fun _ h130=>?_
        have hM3:(AI MQ_x109 2688 4096).V.length=23168:=by rw [Cp];exact hML
        have hs3:FP (AI (AI MQ_x109 2688 4096) 2688 4096) []=true:=(Af5 (IG hML)).trans hc1
        refine cl h130 rfl (cF func5) (Jj (s23.pk [1,0,2,3,4,5,6] rfl) hM3 hs3) fun _ v11 w23 r11 h131=>?_
        obtain ⟨kk_x445,mx_x446,fx_x447,vx_x448,rfl,s24,hKK453⟩:=r11
        refine mvs 5 h131 rfl fun _ h132=>h132.sn [22,21,19,16,12,11,10,6,0,1,2] rfl fun h133=>hK38 _ _<|sq fun _ hK39=>?_
        have s25:Sep _ [Ca pgx62 pv_x63 pdx64 ppx65 (AI (AI MQ_x109 2688 4096) 2688 4096),Ab vx_x448 66 [π kk_x445.tg,π mx_x446,π fx_x447],Ab mx_x446 125 [π kk_x445.tg],AG 0 5 1 ra_x416 ((Oq (AI MQ_x109 2688 4096).V 0 23168)).length rc_x417 (((Oq (AI MQ_x109 2688 4096).V 0 23168)).map Ad),Ab vx_x132 66 [π kk_x129.tg,π mx_x130,π fx_x131],Ab mx_x130 125 [π kk_x129.tg],Dh W W.heap.size,Ab px_x67 35 [π pgx62,π vxx68,π rp_x69],Ch.many R]:=Kj ((s24.pk [2,0,1,3,4,5,6,7,8] rfl)) hKK453
        have hM4:(AI (AI MQ_x109 2688 4096) 2688 4096).V.length=23168:=by rw [Cp,Cp];exact hML
        refine wp_region_lit<|mvs 2 h133 rfl fun _ h134=>fav h134 rfl (fQ 0) fun _ h135=>ldv h135 s25 7 υ23 rfl rfl rfl rfl fun _ h136=>cl h136 rfl (cF func13) (XU (at_:=0) (n:=23168) s25 (TW hM4 ω) (by unfold Ec;omega) (by unfold Ec;omega)) fun _ v12 w24 r12 h137=>?_
        obtain ⟨ra_x477,rc_x478,rfl,s26⟩:=r12
        refine mvs 5 h137 rfl fun _ h138=>h138.sn [23,22,21,19,16,12,11,10,6,0,1,2] rfl fun h139=>hK39 _ _<|sqr fun _ hK40=>mvs 2 h139 rfl fun _ h140=>cl h140 rfl (cF func14) (Aee s26 (s26.get 4 rfl:Own _ _ _ _ _ _ _ _).row (s26.get 0 rfl:Own _ _ _ _ _ _ _ _).row (by rw [IG hML])) fun _ v13 w25 r13 h141=>?_
        obtain ⟨rfl,s27⟩:=r13
        refine mv h141 rfl fun _ h142=>h142.sn [25,23,22,21,19,16,12,11,10,6,0,1,2] rfl fun h143=>hK40 _ _<|sqr fun _ hK41=>mvs 2 h143 rfl fun _ h144=>sv h144 (wT h144 (E:=true) rfl rfl rfl) rfl rfl rfl (v:=π vx_x448) (Au h144 rfl rfl) fun _ h145=>sv h145 (wT h145 (E:=true) rfl rfl rfl) rfl rfl rfl (v:=.bool true) (Co h145 rfl rfl rfl (ZA _ υ25 _ _ ⟨vx_x448,0,none⟩)) fun _ h146=>sv1 h146 rfl (v:=.bool true) (BA h146 rfl rfl rfl) fun _ h147=>mv h147 rfl fun _ h148=>sv h148 (wT h148 (E:=true) rfl rfl rfl) rfl rfl rfl (v:=ν 0) (Au h148 rfl rfl) fun _ h149=>?_
        refine sv h149 (wT h149 (E:=true) rfl rfl rfl) rfl rfl rfl (v:=.bool true) (Co h149 rfl rfl rfl (cEq _ _ _ _ rfl)) fun _ h150=>sv1 h150 rfl (v:=.bool true) (BA h150 rfl rfl rfl) fun _ h151=>mv h151 rfl fun _ h152=>so (wT h152 (E:=true) rfl rfl rfl) fun _ hK42=>BD h152 rfl rfl rfl (xs:=[]) rfl (cF func9) rfl (vs:=[]) rfl (args:=#[]) rfl (Nz s27) fun _ v14 w26 r14 h153=>hK42 _ _ ?_
        obtain ⟨rfl,s28⟩:=r14
        refine sv1 h153 rfl (v:=.bool true) (BA h153 rfl rfl rfl) fun _ h154=>h154.sk [163,162,161,160,159,158,157,156,155,154,153,152,25,23,22,21,19,16,12,11,10,0,1,2] rfl fun h155=>mv h155 rfl fun _ h156=>h156.sn [6,25,23,22,21,19,16,12,11,10,0,1,2] rfl fun h157=>hK41 _ _<|wp_ret ?_

        refine AW (v:=.bool true) (Cz h157 rfl rfl) h157.defs ?_
        exact ⟨congrArg Value.bool rfl,Sep.tail_un (xs:=[_]) (s28.pk [7,9] rfl)⟩
     ·skip
      refine cl h29 rfl (cF func5) (Ue (s8.pk [2,0,1,3] rfl) hML hc1) fun _ v15 w27 r15 h158=>?_
      obtain ⟨rfl,s29⟩:=r15
      refine mvs 5 h158 rfl fun _ h159=>h159.sn [12,11,10,6,0,1,2] rfl fun h160=>hK12 _ _<|sq fun _ hK43=>sqr fun _ hK44=>mv h160 rfl fun _ h161=>bv h161 (z:=.bool true) rfl (cNe _ _ _ _ rfl) fun _ h162=>h162.sn [79,12,11,10,6,0,1,2] rfl fun h163=>hK44 _ _<|wcT h163 rfl rfl<|h163.sk [12,11,10,6,0,1,2] rfl fun h164=>?_
      refine sqr fun _ hK45=>mv h164 rfl fun _ h165=>bv h165 (z:=.bool true) rfl (IO _ υ25 _ _ _) fun _ h166=>mv h166 rfl fun _ h167=>sv h167 (wT h167 (E:=true) rfl rfl rfl) rfl rfl rfl (v:=ν 36) (Au h167 rfl rfl) fun _ h168=>sv h168 (wT h168 (E:=true) rfl rfl rfl) rfl rfl rfl (v:=.bool true) (Co h168 rfl rfl rfl (cEq _ _ _ _ rfl)) fun _ h169=>sv1 h169 rfl (v:=.bool true) (BA h169 rfl rfl rfl) fun _ h170=>mv h170 rfl fun _ h171=>so (wT h171 (E:=true) rfl rfl rfl) fun _ hK46=>BD h171 rfl rfl rfl (xs:=[]) rfl (cF func9) rfl (vs:=[]) rfl (args:=#[]) rfl (Nz s29) fun _ v16 w28 r16 h172=>hK46 _ _ ?_
      obtain ⟨rfl,s30⟩:=r16
      refine sv1 h172 rfl (v:=.bool true) (BA h172 rfl rfl rfl) fun _ h173=>h173.sk [88,87,86,85,84,83,82,81,80,12,11,10,0,1,2] rfl fun h174=>mv h174 rfl fun _ h175=>h175.sn [6,12,11,10,0,1,2] rfl fun h176=>hK45 _ _<|wp_ret ?_
      try simp only [Exit.then,Exit.inBlock]
      refine AW (v:=.bool true) (Cz h176 rfl rfl) h176.defs ?_
      exact ⟨congrArg Value.bool rfl,Sep.tail_un (xs:=[_]) (s30.pk [1,3] rfl)⟩
    refine sqr fun _ hK47=>mv h20 rfl fun _ h177=>sv1 h177 rfl (v:=ν (xs.length:Int)) (Jt h177 rfl rfl υ22) fun _ h178=>bv h178 (z:=.bool (decide ((xs.length:Int)>200))) rfl (cGt _ _ _ _ rfl) fun _ h179=>h179.sn [62,10,6,0,1,2] rfl fun h180=>hK47 _ _ ?_
    rcases bC (decide ((xs.length:Int)>200)) with hc5 | hc5
    ·skip
     have hp7:(xs.length:Int)>200:=(dT hc5)
     refine wcT h180 rfl hc5<|h180.sk [10,6,0,1,2] rfl fun h181=>wp_region_lit<|mv h181 rfl fun _ h182=>sv1 h182 rfl (v:=.slice a0 200 c0) (Aha h182 rfl rfl (vl:=none) (vh:=some (ν 200)) rfl rfl (fun w=>slL 22 5 υ22 κ a0 xs.length c0 (b:=200) ω w)) fun _ h183=>h183.sk [64,63,10,6,0,2] rfl fun h184=>mv h184 rfl fun _ h185=>h185.sk [1,10,6,0,2] rfl fun h186=>wpList_nil ?_
     have hr9:=DC hrow 200
     exact hJ95 200 _ _ (h186.subs rfl) s6 ⟨hr9,by rw [List.length_take];omega,ω⟩
    ·skip
     have hp8:¬ ((xs.length:Int)>200):=(dF hc5)
     refine wcF h180 rfl hc5<|h180.sk [10,6,0,1,2] rfl fun h187=>wp_skip ?_
     have hr9:=DC hrow xs.length
     exact hJ95 xs.length _ _ (h187.subs rfl) s6 ⟨hr9,by rw [List.length_take];omega,ω⟩
   refine sqr fun _ hK48=>mv h19 rfl fun _ h188=>bv h188 (z:=.bool (decide (z0<0))) rfl (cLt _ _ _ _ rfl) fun _ h189=>h189.sn [56,10,6,0,1,2] rfl fun h190=>hK48 _ _ ?_
   rcases bC (decide (z0<0)) with hc6 | hc6
   ·skip
    have hp9:z0<0:=(dT hc6)
    refine wcT h190 rfl hc6<|h190.sk [10,6,0,1,2] rfl fun h191=>wp_region_lit<|mv h191 rfl fun _ h192=>bv h192 (z:=ν (z0+1)) rfl (CT _ _ _ ω ω ω) fun _ h193=>sv1 h193 rfl (v:=ν (-(z0+1))) (Ag8 h193 rfl rfl rfl ω ω) fun _ h194=>h194.sk [59,58,57,10,6,0,1] rfl fun h195=>mv h195 rfl fun _ h196=>h196.sk [2,10,6,0,1] rfl fun h197=>wpList_nil ?_
    exact hJ89 (-(z0+1)) _ _ (h197.subs rfl) s5 ω
   ·skip
    have hp10:¬ (z0<0):=(dF hc6)
    refine wcF h190 rfl hc6<|h190.sk [10,6,0,1,2] rfl fun h198=>wp_skip ?_
    exact hJ89 z0 _ _ (h198.subs rfl) s5 ω
  refine sq fun _ hK49=>?_
  rcases bC (decide (sz=23168)) with hc7 | hc7
  ·skip
   have hp11:sz=23168:=(dT hc7)
   refine wp_region_lit<|mv h11 rfl fun _ h199=>bv h199 (z:=.bool false) rfl (cNe _ _ _ _ (decide_eq_false ω)) fun _ h200=>mv h200 rfl fun _ h201=>su h201 (wT h201 (E:=false) rfl rfl rfl) rfl rfl rfl fun _ h202=>su h202 (wT h202 (E:=false) rfl rfl rfl) rfl rfl rfl fun _ h203=>su h203 (wT h203 (E:=false) rfl rfl rfl) rfl rfl rfl fun _ h204=>su h204 (wgu h204 rfl rfl rfl) rfl rfl rfl fun _ h205=>su h205 (wgu h205 rfl rfl rfl) rfl rfl rfl fun _ h206=>su h206 (wT h206 (E:=false) rfl rfl rfl) rfl rfl rfl fun _ h207=>?_
   refine su h207 (wT h207 (E:=false) rfl rfl rfl) rfl rfl rfl fun _ h208=>su h208 (wgu h208 rfl rfl rfl) rfl rfl rfl fun _ h209=>su h209 (wgu h209 rfl rfl rfl) rfl rfl rfl fun _ h210=>su h210 (wgu h210 rfl rfl rfl) rfl rfl rfl fun _ h211=>su h211 (wT h211 (E:=false) rfl rfl rfl) rfl rfl rfl fun _ h212=>sv1 h212 rfl (v:=.bool false) (BA h212 rfl rfl rfl) fun _ h213=>h213.sn [51,9,8,7,6,0,1,2] rfl fun h214=>hK49 _ _<|wcF h214 rfl rfl<|h214.sk [9,8,7,6,0,1,2] rfl fun h215=>?_
   refine wp_skip ?_
   exact hJ56 0 _ _ (h215.subs rfl) (s3.pk [1,2] rfl) 
  ·skip
   have hp12:¬ (sz=23168):=(dF hc7)
   have hn8:=hN25 ω;obtain ⟨rfl,rfl⟩:=hX41 hn8;have hn9:=(hN241).symm ▸ hn8
   refine wp_region_lit<|mv h11 rfl fun _ h216=>bv h216 (z:=.bool true) rfl (cNe _ _ _ _ (decide_eq_true ω)) fun _ h217=>mv h217 rfl fun _ h218=>sv h218 (wT h218 (E:=true) rfl rfl rfl) rfl rfl rfl (v:=.pointer none) (Au h218 rfl rfl) fun _ h219=>sv h219 (wT h219 (E:=true) rfl rfl rfl) rfl rfl rfl (v:=.bool false) (Co h219 rfl rfl rfl (Ab5 _ υ25 _ _ _)) fun _ h220=>sv h220 (wT h220 (E:=true) rfl rfl rfl) rfl rfl rfl (v:=.bool false) (Au h220 rfl rfl) fun _ h221=>sv h221 (wF h221 (E:=false) rfl rfl rfl) rfl rfl rfl (v:=ν 1) (Au h221 rfl rfl) fun _ h222=>sv h222 (wF h222 (E:=false) rfl rfl rfl) rfl rfl rfl (v:=.bool false) (Co h222 rfl rfl rfl (cNe _ _ _ _ rfl)) fun _ h223=>sv h223 (wT h223 (E:=true) rfl rfl rfl) rfl rfl rfl (v:=.bool false) (BA h223 rfl rfl rfl) fun _ h224=>?_
   refine sv h224 (wT h224 (E:=true) rfl rfl rfl) rfl rfl rfl (v:=.bool false) (Au h224 rfl rfl) fun _ h225=>sv h225 (wF h225 (E:=false) rfl rfl rfl) rfl rfl rfl (v:=.pointer no_x15) (Au h225 rfl rfl) fun _ h226=>so (wF h226 (E:=false) rfl rfl rfl) fun _ hK50=>BD h226 rfl rfl rfl (xs:=[.tmp 47]) rfl (cF func6) rfl (vs:=[.pointer no_x15]) rfl (args:=#[.pointer no_x15]) rfl (PM s3 hn9) fun _ v17 w29 r17 h227=>hK50 _ _ ?_
   obtain ⟨rfl,s31⟩:=r17
   refine sv h227 (wF h227 (E:=false) rfl rfl rfl) rfl rfl rfl (v:=.bool false) (Co h227 rfl rfl rfl (cNe _ _ _ _ rfl)) fun _ h228=>sv h228 (wT h228 (E:=true) rfl rfl rfl) rfl rfl rfl (v:=.bool false) (BA h228 rfl rfl rfl) fun _ h229=>sv1 h229 rfl (v:=.bool false) (BA h229 rfl rfl rfl) fun _ h230=>h230.sn [51,9,8,7,6,0,1,2] rfl fun h231=>hK49 _ _<|wcF h231 rfl rfl<|h231.sk [9,8,7,6,0,1,2] rfl fun h232=>wp_skip ?_
   exact hJ56 0 _ _ (h232.subs rfl) (s31.pk [1,2] rfl) 
 refine sqr fun _ hK51=>mv h4 rfl fun _ h233=>bv h233 (z:=.bool (decide (sz0>30000))) rfl (cGt _ _ _ _ rfl) fun _ h234=>h234.sn [27,6,0,1,2] rfl fun h235=>hK51 _ _ ?_
 rcases bC (decide (sz0>30000)) with hc8 | hc8
 ·skip
  have hp13:sz0>30000:=(dT hc8)
  refine wcT h235 rfl hc8<|h235.sk [6,0,1,2] rfl fun h236=>wp_region_lit<|mv h236 rfl fun _ h237=>?_
  obtain ⟨k0,hk0,hkl0⟩:=MP (z:=sz0) (n:=30001) ω ω
  refine bv h237 (z:=ν (k0:Int)) rfl (Aet _ _ _ ω hk0) fun _ h238=>h238.sk [29,28,6,1,2] rfl fun h239=>mv h239 rfl fun _ h240=>h240.sk [0,6,1,2] rfl fun h241=>wpList_nil ?_
  exact hJ7 (k0:Int) _ _ (h241.subs rfl) hS ω
 ·skip
  have hp14:¬ (sz0>30000):=(dF hc8)
  refine wcF h235 rfl hc8<|h235.sk [6,0,1,2] rfl fun h242=>wp_skip ?_
  exact hJ7 sz0 _ _ (h242.subs rfl) hS ω
theorem VolumeMounts_walk (w:World) (p:Int) (hp:(Lit.int IntKind.i64 p).wf=true) (a:Ω) (c:Nat) (xs:Λ) (ha:RowB w a c xs) (q:Int) (hq:(Lit.int IntKind.i64 q).wf=true):Calls prog 3 #[ν p,.slice a xs.length c,ν q] w fun e w'=>e=.returned (.bool true)∧Below w.heap.size w w':=by
 have h1:-9223372036854775808≤p∧p≤9223372036854775807:=by have z:=hp;simp [Lit.wf] at z;exact z
 have h2:-9223372036854775808≤q∧q≤9223372036854775807:=by have z:=hq;simp [Lit.wf] at z;exact z
 refine Calls.mono (VMo (W:=w) (Sep.start w) ha h1 h2) fun e w' ⟨v,e1,e2,h⟩=>⟨by rw [e1,e2],?_⟩
 have o:Below w.heap.size w w'∧_:=h.get 0 rfl
 exact o.1
end
end Go.Proofs.YtpnknncmacjdkaaGreatDoor
