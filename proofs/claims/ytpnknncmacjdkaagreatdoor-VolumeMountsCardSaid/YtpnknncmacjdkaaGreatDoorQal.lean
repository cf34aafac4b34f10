/- Parts of the proof. -/
import Derived.Test.YtpnknncmacjdkaaGreatDoorQak
namespace Go.Proofs.YtpnknncmacjdkaaGreatDoor
open Go.RowKit
open _root_.Go.Proofs.Tryz
set_option linter.unusedSimpArgs false
set_option linter.unusedVariables false
set_option linter.unusedSectionVars false
set_option maxRecDepth 100000
set_option maxHeartbeats 8000000
section
theorem YG {w:World} {R:List Ch} {lg g v d p:Nat} {M:MemM} (hS:Sep w (DR lg g v d p M::R)) (hM:M.V.length=23168):CallsR prog 16 #[π lg] w (fun x w'=>∃ i,x=ν i∧Sep w' (DR lg g v d p (AI M 2688 4096)::R)):=by
  have h:LogP w lg g v d p 2688 4096 M∧g<lg∧v<lg∧d<lg∧p<lg:=hS.get 0 rfl
  refine Calls.mono (QH h.1 ⟨ω,ω,ω,ω⟩) fun e w' ⟨x,e1,e2,l,t⟩=>⟨x,e1,_,e2,hS.head t (fun k _ q=>?_) (c':=DR lg g v d p _) ⟨l,h.2⟩ fun k q=>.inl q⟩
  rcases q with q | q | q
  · exact .inr (.inr (.inl q))
  · exact .inr (.inr (.inr (.inl q)))
  · exact .inr (.inr (.inr (.inr q)))
theorem ZE {w:World} {R:List Ch} {lg g v d p:Nat} {M:MemM} (hS:Sep w (DR lg g v d p M::R)):CallsR prog 19 #[π lg] w (fun x w'=>Sep w' (DR lg g v d p (Dn M 2688 0)::R)):=by
  have h:LogP w lg g v d p 2688 4096 M∧g<lg∧v<lg∧d<lg∧p<lg:=hS.get 0 rfl
  refine Calls.mono (Nk h.1 ω) fun e w' ⟨x,e1,l,t⟩=>⟨x,e1,hS.head t (fun k _ q=>?_) (c':=DR lg g v d p _) ⟨l,h.2⟩ fun k q=>.inl q⟩
  rcases q with q | q | q
  · exact .inr (.inr (.inl q))
  · exact .inr (.inr (.inr (.inl q)))
  · exact .inr (.inr (.inr (.inr q)))
theorem Adt {w:World} {R:List Ch} {lg g v1 d p:Nat} {M:MemM} (hS:Sep w (DR lg g v1 d p M::R)) (hM:M.V.length=23168):CallsR prog 44 #[π g,π lg] w (fun v w'=>∃ K:VolK,v=π K.tg∧Sep w' (txP K none 0 M []::R)∧(K.g=g∧K.v=v1∧K.d=d∧K.p=p)):=by
  have h:LogP w lg g v1 d p 2688 4096 M∧g<lg∧v1<lg∧d<lg∧p<lg:=hS.get 0 rfl
  refine Calls.mono (Yg w g lg) fun e w' ⟨tg,e1,hb,hl,b⟩=>⟨_,e1,⟨tg,lg,g,v1,d,p⟩,rfl,hS.head (Turns.of_below (X:=fun _=>False) b) (fun k hk (q:False)=>q.elim) (c':=txP ⟨tg,lg,g,v1,d,p⟩ none 0 M []) ?_ fun k q=>?_,rfl,rfl,rfl,rfl⟩
  · have l:=h.1.lt
    exact ⟨h.1.mono b,hb,Own.nil _ _ _ _,TxOk.nil _,hM,by dsimp only;omega⟩
  · rcases q with (q | q | q | q | q | q) | q
    · right;exact q ▸ hl
    · exact .inl (.inl q)
    · exact .inl (.inr (.inl q))
    · exact .inl (.inr (.inr (.inl q)))
    · exact .inl (.inr (.inr (.inr (.inl q))))
    · exact .inl (.inr (.inr (.inr (.inr q))))
    · cases q
theorem Kj {w:World} {R:List Ch} {K:VolK} {ta:Ω} {tc:Nat} {M:MemM} {P:List PtM} {g v d p:Nat} (hS:Sep w (txP K ta tc M P::R)) (hK:K.g=g∧K.v=v∧K.d=d∧K.p=p):Sep w (Ca g v d p M::R):=by
  obtain ⟨rfl,rfl,rfl,rfl⟩:=hK
  have h:VolP w K ta tc M P:=hS.get 0 rfl
  refine hS.head (Turns.refl (fun _=>False) w) (fun _ _ q=>q.elim) (c':=Ca K.g K.v K.d K.p M) h.l.m fun k q=>.inl ?_
  rcases q with q | q | q | q
  · exact .inl (.inr (.inr (.inl q)))
  · exact .inl (.inr (.inr (.inr (.inl q))))
  · exact .inl (.inr (.inr (.inr (.inr (.inl q)))))
  · exact .inl (.inr (.inr (.inr (.inr (.inr q)))))
structure SlT where
  e:Int
  h:Int
  r:Int
  er:Int
  i:Int
  wr:Int
def slC (s:SlT):List Value:=[ν s.e,ν s.h,ν s.r,ν s.er,ν s.i,ν s.wr]
def sl0:SlT:=⟨0,0,0,0,0,0⟩
def rdS (xs:Λ):SlT:=if chk xs=0 then (if Gx xs then ⟨gN xs 0 4,gN xs 4 4,gN xs 8 8,gN xs 16 1,gN xs 17 1,gN xs 18 8⟩ else sl0) else sl0
theorem Abp (xs:Λ):rsV xs=.agg (slC (rdS xs)).toArray:=by
  unfold rsV rdS;split
  · split<;>rfl
  · rfl
section
variable {M:MemM} {P:List PtM}
def hdN (M:MemM) (P:List PtM):Int:=if rhE (As M P 1 0)≠0 then 0 else rhN (As M P 1 0)
def hdE (M:MemM) (P:List PtM):Int:=if rhE (As M P 1 0)≠0 then 36 else 0
def slR (M:MemM) (P:List PtM) (c:Int):SlT:=if DI 2 c=true then (if rsE (As M P 2 c)≠0 then sl0 else rdS (As M P 2 c)) else sl0
def slE (M:MemM) (P:List PtM) (c:Int):Int:=if DI 2 c=true then (if rsE (As M P 2 c)≠0 then 36 else 0) else 1
def FP (M:MemM) (P:List PtM):Bool:=decide (hdE M P=0)&&((List.range 8).all (fun (k:Nat)=>decide (slE M P (((k+1:Nat)):Int)=0))&&((List.range 32).all (fun (k:Nat)=>decide (AU M P (((k+1:Nat)):Int)=0))&&decide ((Aj M P 1).k=2)))
theorem Af2 (h:hdE M P≠0):FP M P=false:=by unfold FP;rw [decide_eq_false h];rfl
theorem Af3 {k:Nat} (hk:k<8) (h:slE M P (((k+1:Nat)):Int)≠0):FP M P=false:=by
  have z:(List.range 8).all (fun (k:Nat)=>decide (slE M P (((k+1:Nat)):Int)=0))=false:=by
    rw [← Bool.not_eq_true,List.all_eq_true]
    intro q;exact h (of_decide_eq_true (q k (List.mem_range.2 hk)))
  unfold FP;rw [z];simp
theorem Af4 {k:Nat} (hk:k<32) (h:AU M P (((k+1:Nat)):Int)≠0):FP M P=false:=by
  have z:(List.range 32).all (fun (k:Nat)=>decide (AU M P (((k+1:Nat)):Int)=0))=false:=by
    rw [← Bool.not_eq_true,List.all_eq_true]
    intro q;exact h (of_decide_eq_true (q k (List.mem_range.2 hk)))
  unfold FP;rw [z];simp
theorem Aci (h1:hdE M P=0) (h2:∀ k:Nat,k<8→slE M P (((k+1:Nat)):Int)=0) (h3:∀ k:Nat,k<32→AU M P (((k+1:Nat)):Int)=0):FP M P=decide ((Aj M P 1).k=2):=by
  unfold FP
  rw [decide_eq_true h1,List.all_eq_true.2 fun k hk=>decide_eq_true (h2 k (List.mem_range.1 hk)),List.all_eq_true.2 fun k hk=>decide_eq_true (h3 k (List.mem_range.1 hk))];rfl
theorem Pi (h:FP M P=true):hdE M P=0∧(∀ k:Nat,k<8→slE M P (((k+1:Nat)):Int)=0)∧(∀ k:Nat,k<32→AU M P (((k+1:Nat)):Int)=0)∧(Aj M P 1).k=2:=by
  unfold FP at h
  simp only [Bool.and_eq_true,decide_eq_true_eq,List.all_eq_true,List.mem_range] at h
  exact h
theorem Tb {M':MemM} (h:M'.V=M.V) (kd nm:Int):As M' [] kd nm=As M [] kd nm:=by unfold As Dj;rw [h]
theorem Af5 {M':MemM} (h:M'.V=M.V):FP M' []=FP M []:=by
  have e:∀ kd nm,As M' [] kd nm=As M [] kd nm:=Tb h
  unfold FP hdE slE AU Aj;simp only [e]
theorem Pj {V b:Λ} {n:Nat} (h:n+b.length≤V.length):splice (splice V n b) n b=splice V n b:=by
  unfold splice
  have l:(V.take n).length=n:=by rw [List.length_take];omega
  have e:(V.take n++(b++V.drop (n+b.length))).drop (n+b.length)=V.drop (n+b.length):=by
    rw [← List.append_assoc,List.drop_append_of_le_length (by rw [List.length_append];omega),List.drop_of_length_le (by rw [List.length_append];omega),List.nil_append]
  rw [e,List.take_append_of_le_length ω,List.take_of_length_le ω]
theorem IG (hm:M.V.length=23168):(AI (AI M 2688 4096) 2688 4096).V=(AI M 2688 4096).V:=by
  have ok:LogOk 2688 4096 M:=⟨ω,ω,ω,ω⟩
  have l:=NB ok
  have e1:(AI M 2688 4096).V=splice (CC M (Cn M.V 2688 4096).1.flatten).V 2688 (le 8 0):=MH (n:=0) (by rw [CZ];omega)
  have e2:(AI (AI M 2688 4096) 2688 4096).V=splice (CC (AI M 2688 4096) (Cn (AI M 2688 4096).V 2688 4096).1.flatten).V 2688 (le 8 0):=MH (n:=0) (by rw [CZ,Cp];omega)
  rw [e2,l,show (CC (AI M 2688 4096) ([]:List (List PtM)).flatten).V=(AI M 2688 4096).V by rw [CM];rfl,e1]
  exact Pj (by rw [CZ,Ay];omega)
theorem Ack {s:BW} {hd:Int} {sl:Int→Λ} {M':MemM} (T:Vst M [] s 0 hd sl) (h:M'.V=M.V):Vst M' [] s 0 hd sl:=
  ⟨Acj T.v h,(Tb h 1 0).trans T.h,fun c h1 h2=>(Tb h 2 c).trans (T.s2 c h1 h2)⟩
theorem WW {s:BW} {n:Nat} (V:Vol M P s n) (hn:n≤50) (h0:P≠[]):(AI (cmM M P) 2688 4096).V=(cmM M P).V:=by
  have ok:LogOk 2688 4096 M:=⟨ω,ω,by have:=V.m;omega,by have:=V.m;omega⟩
  have hl:=Ou V.d
  have hE:CG P=true:=by
    unfold CG
    rw [decide_eq_true (by have:=V.l;omega),List.all_eq_true.2 fun p hp=>OO (by have:=V.k p hp;omega) (by have:=V.d p hp;omega)];rfl
  have eE:FW P=0:=by unfold FW;rw [if_pos hE]
  have hP:=V.l
  have ap:Dt M 2688 4096 P=0:=by unfold Dt;rw [if_pos eE,V.r];exact if_neg (by show ¬ (4096-8<0+_);omega)
  have eM:cmM M P=AI (CR M 2688 4096 P) 2688 4096:=by unfold cmM;rw [if_neg h0,if_pos ap]
  rw [eM];exact IG (by rw [GP];exact V.m)
end
end
section
theorem YB {w:World} {R:List Ch} {a:Ω} {c:Nat} {xs:Λ} (hS:Sep w R) (hr:RowB w a c xs):CallsR prog 35 #[.slice a xs.length c] w (fun v w'=>v=.tuple #[.agg (slC (rdS xs)).toArray,ν (rsE xs)]∧Sep w' R):=
 Calls.mono (VU a c xs w hr) fun e w' z=>⟨_,z.1,by rw [Abp],hS.mono z.2⟩
theorem Pr {k:Nat} {f:Nat→Int} (h:∀ q,q<k→f q=0) (hk:f k=0):∀ q,q<k+1→f q=0:=fun q hq=>by
 rcases Nat.lt_succ_iff_lt_or_eq.1 hq with e | e
 ·exact h q e
 ·rw [e];exact hk
theorem RU {w:World} {R:List Ch} (hS:Sep w R):CallsR prog 40 #[ν 5,ν 0] w (fun v w'=>v=.tuple #[.agg #[ν 5,ν 0,ν 2688,ν 4096],.bool true]∧Sep w' R):=
 AQ hS (Hx (k:=5) (n:=0) (a:=2688) (s:=4096) κ _)
theorem WU {w:World} {R:List Ch} {lg g v d p:Nat} {M:MemM} (hS:Sep w (DR lg g v d p M::R)):CallsR prog 19 #[π lg] w (fun x w'=>∃ z,x=z∧Sep w' (DR lg g v d p (Dn M 2688 0)::R)):=
 Calls.mono (ZE hS) fun e w' ⟨x,e1,h⟩=>⟨x,e1,x,rfl,h⟩
theorem Vh {w:World} {R:List Ch} {mx:Nat} {K:VolK} {ta:Ω} {tc:Nat} {M:MemM} {P:List PtM} (hS0:Sep w ([mtC mx K,txP K ta tc M P]++R)) (hM:M.V.length=23168) {a:Int} (h:Qa M P 8=a):CallsR prog 20 #[π mx] w (fun v w'=>∃ ta' tc',v=ν a∧Sep w' ([mtC mx K,txP K ta' tc' M (CV M P 8)]++R)):=
 Calls.mono (Xy hS0 hM) fun e w' z=>by rw [h] at z;exact z
theorem Uv {w:World} {R:List Ch} {mx vx fx:Nat} {K:VolK} {ta:Ω} {tc:Nat} {M:MemM} {P:List PtM} {kd nm:Int} (hS0:Sep w ([Ab vx 66 [π K.tg,π mx,π fx],Ab mx 125 [π K.tg],txP K ta tc M P]++R)) (hM:M.V.length=23168)  :
  CallsR prog 34 #[π vx,ν kd,ν nm] w (fun v w'=>∃ a c,v=.tuple #[.slice a (As M P kd nm).length c,ν (ldE kd nm)]∧Sep w' ([AG 0 5 1 a ((As M P kd nm)).length c (((As M P kd nm)).map Ad),Ab vx 66 [π K.tg,π mx,π fx],Ab mx 125 [π K.tg],txP K ta tc M P]++R)):=by
 have hS:Sep w [Ab vx 66 [π K.tg,π mx,π fx],Ab mx 125 [π K.tg],txP K ta tc M P,Ch.many R]:=Sep.tail_many (xs:=[_,_,_]) hS0;clear hS0
 refine AB func34 rfl (N:=29) ntmps34 (by show 3≤29;decide) [(0,π vx),(1,ν kd),(2,ν nm)] rfl fun _ h1=>sqr fun _ hK3=>mvs 2 h1 rfl fun _ h6=>wpList_nil<|hK3 _ _<|sqr fun _ hK8=>mvs 2 h6 rfl fun _ h2=>?_
 rcases bC (DI kd nm) with hc1 | hc1
 ·skip
  obtain ⟨q15,hq1⟩:=BJ hc1
  have hq16i:=Dq hq1
  refine cl h2 rfl (cF func40) (AQ hS (Hx (k:=q15.k) (n:=q15.n) (a:=q15.a) (s:=q15.s) hq1 _)) fun _ v1 w2 r1 h3=>?_
  obtain ⟨rfl,s1⟩:=r1
  refine mvs 3 h3 rfl fun _ h4=>so (wn rfl) fun _ hK1=>AO h4 rfl rfl rfl rfl (z:=[ν 0,ν 0,ν 0,ν 0]) (fun _=>rfl) s1 fun _ g1 w3 h5 s2 _ _=>hK1 _ _ ?_
  refine stA h5 s2 0 rfl rfl rfl κ rfl rfl rfl rfl fun _ w4 h7 s3 _=>mv h7 rfl fun _ h8=>h8.sn [9,8,7,6,0,1,2] rfl fun h9=>hK8 _ _<|sq fun _ hK2=>sqr fun _ hK4=>mvs 2 h9 rfl fun _ h10=>h10.sn [17,9,8,7,6,0,1,2] rfl fun h11=>hK4 _ _<|wcF h11 rfl rfl<|h11.sk [9,8,7,6,0,1,2] rfl fun h12=>?_
  refine wp_skip<|hK2 _ _<|sq fun _ hK5=>?_
  have s4:=s3.drew
  refine wp_region_held_drew (S:=fun w'=>Sep w' [Ab g1 82 [ν q15.k,ν q15.n,ν q15.a,ν q15.s],Ab vx 66 [π K.tg,π mx,π fx],Ab mx 125 [π K.tg],txP K ta tc M P,Ch.many R]) κ s4 (fun hq2=>?_)
  refine tv1 hq2 h12 0 rfl rfl (v:=π vx) (fun w1 _=>(Au h12 rfl rfl) w1) fun _ h13=>?_
  refine tv1 hq2 h13 1 rfl rfl (v:=π vx) (fun w1 _=>(Hl h13 rfl rfl) w1) fun _ h14=>?_
  refine tv1 hq2 h14 2 rfl rfl (v:=π vx) (fun w1 _=>(rfa h14 rfl rfl (fQ 0)) w1) fun _ h15=>?_
  refine tv1 hq2 h15 3 rfl rfl (v:=π K.tg) (fun w1 hSw=>(rld h15 rfl rfl (ldB υ63 rfl (hSw.get 1 rfl:Blk _ _ _ _) rfl))) fun _ h16=>?_
  refine tv1 hq2 h16 4 rfl rfl (v:=.pointer (some ⟨g1,2,none⟩)) (fun w1 _=>(rfa h16 rfl rfl (fQ 2)) w1) fun _ h17=>?_
  refine tv1 hq2 h17 5 rfl rfl (v:=ν q15.a) (fun w1 hSw=>(rld h17 rfl rfl (ldB υ3 rfl (hSw.get 0 rfl:Blk _ _ _ _) rfl))) fun _ h18=>?_
  refine tv1 hq2 h18 6 rfl rfl (v:=.pointer (some ⟨g1,3,none⟩)) (fun w1 _=>(rfa h18 rfl rfl (fQ 3)) w1) fun _ h19=>?_
  refine tv1 hq2 h19 7 rfl rfl (v:=ν q15.s) (fun w1 hSw=>(rld h19 rfl rfl (ldB υ3 rfl (hSw.get 0 rfl:Blk _ _ _ _) rfl))) fun _ h20=>?_
  refine to_ 8 rfl (wn rfl) κ fun _ hK6=>BD h20 rfl rfl rfl (xs:=[.tmp 21,.tmp 23,.tmp 25]) rfl (cF func71) rfl (vs:=[π K.tg,ν q15.a,ν q15.s]) rfl (args:=#[π K.tg,ν q15.a,ν q15.s]) rfl (Sn (at_:=q15.a) (n:=q15.s) (s4.pk [3,0,1,2,4] rfl) (Je hM hq1) (by unfold Ec;omega) (by unfold Ec;omega)) fun _ v2 w5 r2 h21=>?_
  obtain ⟨ra_x75,rc_x76,rfl,s5⟩:=r2
  refine hK6 _ _ (s5.pk [2,3,4,1,5] rfl) fun hq3=>?_
  refine tv1 hq3 h21 9 rfl rfl (v:=.slice ra_x75 ((Dj M P q15.a q15.s).length) rc_x76) (fun w1 _=>(OY h21 rfl rfl rfl) w1) fun _ h22=>?_
  refine tv1 hq3 h22 10 rfl rfl (v:=ν 0) (fun w1 _=>(OY h22 rfl rfl rfl) w1) fun _ h23=>?_
  refine h23.sk [28,27,26,25,24,23,22,21,20,19,18,9,8,7,0,1,2] rfl fun h24=>?_
  refine tv1 hq3 h24 11 rfl rfl (v:=.slice ra_x75 ((Dj M P q15.a q15.s).length) rc_x76) (fun w1 _=>(Bv h24 rfl rfl) w1) fun _ h25=>?_
  refine h25.sk [6,28,27,26,25,24,23,22,21,20,19,18,9,8,0,1,2] rfl fun h26=>?_
  refine tv1 hq3 h26 12 rfl rfl (v:=ν 0) (fun w1 _=>(Bv h26 rfl rfl) w1) fun _ h27=>?_
  refine h27.sk [7,6,9,8,0,1,2] rfl fun h28=>?_
  refine wpAnyH_done κ ?_ _
  refine hK5 _ _ ?_
  refine wp_ret ?_
  try simp only [Exit.then,Exit.inBlock]
  refine AW (v:=.tuple #[.slice ra_x75 ((Dj M P q15.a q15.s).length) rc_x76,ν 0]) (DK h28 rfl rfl rfl) h28.defs ?_
  exact ⟨ra_x75,rc_x76,by rw [BV hq1];unfold ldE;rw [hc1];rfl,by rw [BV hq1];exact Sep.tail_un (xs:=[_,_,_,_]) (s5.pk [0,3,4,1,5] rfl)⟩
 ·skip
  have hq4:=JW hc1
  refine cl h2 rfl (cF func40) (AQ hS (Ow hq4 _)) fun _ v3 w6 r3 h29=>?_
  obtain ⟨rfl,s6⟩:=r3
  refine mvs 3 h29 rfl fun _ h30=>so (wn rfl) fun _ hK7=>AO h30 rfl rfl rfl rfl (z:=[ν 0,ν 0,ν 0,ν 0]) (fun _=>rfl) s6 fun _ g2 w7 h31 s7 _ _=>hK7 _ _ ?_
  refine stA h31 s7 0 rfl rfl rfl κ rfl rfl rfl rfl fun _ w8 h32 s8 _=>mv h32 rfl fun _ h33=>h33.sn [9,8,7,6,0,1,2] rfl fun h34=>hK8 _ _<|sq fun _ hK9=>sqr fun _ hK10=>mvs 2 h34 rfl fun _ h35=>h35.sn [17,9,8,7,6,0,1,2] rfl fun h36=>hK10 _ _<|wcT h36 rfl rfl<|h36.sk [9,8,7,6,0,1,2] rfl fun h37=>?_
  refine sqr fun _ hK11=>h37.sk [9,8,7,0,1,2] rfl fun h38=>mv h38 rfl fun _ h39=>h39.sk [6,9,8,0,1,2] rfl fun h40=>mv h40 rfl fun _ h41=>wpList_nil<|hK11 _ _<|wp_ret ?_
  try simp only [Exit.then,Exit.inBlock]
  refine AW (v:=.tuple #[.slice none 0 0,.int .i64 1]) (DK h41 rfl rfl rfl) h41.defs ?_
  exact ⟨none,0,by rw [Cc hq4];unfold ldE;rw [hc1];rfl,by rw [Cc hq4];exact Yh (Sep.tail_un (xs:=[_,_,_]) (s8.pk [1,2,3,4] rfl))⟩
theorem Uw {w:World} {R:List Ch} {mx vx fx:Nat} {K:VolK} {ta:Ω} {tc:Nat} {M:MemM} {P:List PtM} {kd nm:Int} (hS0:Sep w ([Ab vx 66 [π K.tg,π mx,π fx],Ab mx 125 [π K.tg],txP K ta tc M P]++R)) (hM:M.V.length=23168) (h:DI kd nm=true):CallsR prog 34 #[π vx,ν kd,ν nm] w (fun v w'=>∃ a c,v=.tuple #[.slice a (As M P kd nm).length c,ν 0]∧Sep w' ([AG 0 5 1 a ((As M P kd nm)).length c (((As M P kd nm)).map Ad),Ab vx 66 [π K.tg,π mx,π fx],Ab mx 125 [π K.tg],txP K ta tc M P]++R)):=
 Calls.mono (Uv (kd:=kd) (nm:=nm) hS0 hM) fun e w' z=>by rw [show ldE kd nm=0 by unfold ldE;rw [h];rfl] at z;exact z
theorem Ab1 {w:World} {R:List Ch} {mx vx fx:Nat} {K:VolK} {ta:Ω} {tc:Nat} {M:MemM} {P:List PtM} {kd nm:Int} (hS0:Sep w ([Ab vx 66 [π K.tg,π mx,π fx],Ab mx 125 [π K.tg],txP K ta tc M P]++R)) (hM:M.V.length=23168) (h:DI kd nm=false):CallsR prog 34 #[π vx,ν kd,ν nm] w (fun v w'=>∃ a c,v=.tuple #[.slice a (As M P kd nm).length c,ν 1]∧Sep w' ([AG 0 5 1 a ((As M P kd nm)).length c (((As M P kd nm)).map Ad),Ab vx 66 [π K.tg,π mx,π fx],Ab mx 125 [π K.tg],txP K ta tc M P]++R)):=
 Calls.mono (Uv (kd:=kd) (nm:=nm) hS0 hM) fun e w' z=>by rw [show ldE kd nm=1 by unfold ldE;rw [h];rfl] at z;exact z
theorem XJ {w:World} {R:List Ch} {mx vx fx:Nat} {K:VolK} {ta:Ω} {tc:Nat} {M:MemM} {P:List PtM} (hS0:Sep w ([Ab vx 66 [π K.tg,π mx,π fx],Ab mx 125 [π K.tg],txP K ta tc M P]++R)) (hM:M.V.length=23168)  :
  CallsR prog 47 #[π vx] w (fun v w'=>v=.tuple #[ν (hdN M P),ν (hdE M P)]∧Sep w' ([Ab vx 66 [π K.tg,π mx,π fx],Ab mx 125 [π K.tg],txP K ta tc M P]++R)):=by
 have hS:Sep w [Ab vx 66 [π K.tg,π mx,π fx],Ab mx 125 [π K.tg],txP K ta tc M P,Ch.many R]:=Sep.tail_many (xs:=[_,_,_]) hS0;clear hS0
 refine AB func47 rfl (N:=23) ntmps47 (by show 1≤23;decide) [(0,π vx)] rfl fun _ h1=>sqr fun _ hK3=>mvs 2 h1 rfl fun _ h6=>wpList_nil<|hK3 _ _<|sqr fun _ hK8=>mv h6 rfl fun _ h9=>cl h9 rfl (cF func34) (Uw (kd:=1) (nm:=0) hS hM (κ:DI 1 0=true)) fun _ v1 w1 r1 h2=>?_
 obtain ⟨ra_x11,rc_x12,rfl,s1⟩:=r1
 refine mvs 5 h2 rfl fun _ h3=>h3.sn [5,4,3,2,0] rfl fun h4=>hK8 _ _<|sq fun _ hK1=>sqr fun _ hK2=>mv h4 rfl fun _ h5=>bv h5 (z:=.bool false) rfl (cNe _ _ _ _ rfl) fun _ h7=>h7.sn [13,5,4,3,2,0] rfl fun h8=>hK2 _ _<|wcF h8 rfl rfl<|h8.sk [5,4,3,2,0] rfl fun h10=>?_
 refine wp_skip<|hK1 _ _<|sqr fun _ hK4=>mv h10 rfl fun _ h11=>cl h11 rfl (cF func83) (AQ s1 (OV _ _ (As M P 1 0) _ (s1.get 0 rfl:Own _ _ _ _ _ _ _ _).row)) fun _ v2 w2 r2 h12=>?_
 obtain ⟨rfl,s2⟩:=r2
 refine mvs 4 h12 rfl fun _ h13=>h13.sk [6,19,18,15,17,16,4,3,2,0] rfl fun h14=>mv h14 rfl fun _ h15=>h15.sn [5,6,4,3,2,0] rfl fun h16=>hK4 _ _<|sq fun _ hK5=>sqr fun _ hK6=>mv h16 rfl fun _ h17=>bv h17 (z:=.bool (decide (rhE (As M P 1 0)≠0))) rfl (cNe _ _ _ _ rfl) fun _ h18=>h18.sn [21,5,6,4,3,2,0] rfl fun h19=>hK6 _ _ ?_
 rcases bC (decide (rhE (As M P 1 0)≠0)) with hc1 | hc1
 ·skip
  have hp1:rhE (As M P 1 0)≠0:=(dT hc1)
  refine wcT h19 rfl hc1<|h19.sk [5,6,4,3,2,0] rfl fun h20=>sqr fun _ hK7=>h20.sk [5,6,4,3,0] rfl fun h21=>mv h21 rfl fun _ h22=>h22.sk [2,5,6,4,0] rfl fun h23=>mv h23 rfl fun _ h24=>wpList_nil<|hK7 _ _<|wp_ret ?_
  try simp only [Exit.then,Exit.inBlock]
  refine AW (v:=.tuple #[ν 0,ν 36]) (DK h24 rfl rfl rfl) h24.defs ?_
  exact ⟨by unfold hdN hdE;rw [if_pos hp1,if_pos hp1],Sep.tail_un (xs:=[_,_,_]) (s2.pk [1,2,3,4] rfl)⟩
 ·skip
  have hp2:¬ (rhE (As M P 1 0)≠0):=(dF hc1)
  refine wcF h19 rfl hc1<|h19.sk [5,6,4,3,2,0] rfl fun h25=>wp_skip<|hK5 _ _<|sqr fun _ hK9=>mv h25 rfl fun _ h26=>h26.sk [22,5,6,4,3,0] rfl fun h27=>mv h27 rfl fun _ h28=>h28.sk [2,22,5,6,4,0] rfl fun h29=>mv h29 rfl fun _ h30=>h30.sk [3,2,5,6,4,0] rfl fun h31=>?_
  refine wpList_nil<|hK9 _ _<|wp_ret ?_
  try simp only [Exit.then,Exit.inBlock]
  refine AW (v:=.tuple #[ν (rhN (As M P 1 0)),ν 0]) (DK h31 rfl rfl rfl) h31.defs ?_
  exact ⟨by unfold hdN hdE;rw [if_neg hp2,if_neg hp2],Sep.tail_un (xs:=[_,_,_]) (s2.pk [1,2,3,4] rfl)⟩
theorem YY {w:World} {R:List Ch} {mx vx fx:Nat} {K:VolK} {ta:Ω} {tc:Nat} {M:MemM} {P:List PtM} {c:Int} (hS0:Sep w ([Ab vx 66 [π K.tg,π mx,π fx],Ab mx 125 [π K.tg],txP K ta tc M P]++R)) (hM:M.V.length=23168)  :
  CallsR prog 12 #[π vx,ν c] w (fun v w'=>v=.tuple #[.agg (slC (slR M P c)).toArray,ν (slE M P c)]∧Sep w' ([Ab vx 66 [π K.tg,π mx,π fx],Ab mx 125 [π K.tg],txP K ta tc M P]++R)):=by
 have hS:Sep w [Ab vx 66 [π K.tg,π mx,π fx],Ab mx 125 [π K.tg],txP K ta tc M P,Ch.many R]:=Sep.tail_many (xs:=[_,_,_]) hS0;clear hS0
 refine AB func12 rfl (N:=28) ntmps12 (by show 2≤28;decide) [(0,π vx),(1,ν c)] rfl fun _ h1=>sqr fun _ hK3=>so (wn rfl) fun _ hK1=>AO h1 rfl rfl rfl rfl (z:=[ν 0,ν 0,ν 0,ν 0,ν 0,ν 0]) (fun _=>rfl) hS fun _ g4 w7 h5 s8 _ _=>hK1 _ _ ?_
 refine mv h5 rfl fun _ h2=>wpList_nil<|hK3 _ _<|sqr fun _ hK2=>mvs 2 h2 rfl fun _ h3=>?_
 rcases bC (DI 2 c) with hc1 | hc1
 ·skip
  refine cl h3 rfl (cF func34) (Uw (kd:=2) (nm:=c) (s8.pk [1,2,3,0,4] rfl) hM hc1) fun _ v1 w1 r1 h4=>?_
  obtain ⟨ra_x21,rc_x22,rfl,s1⟩:=r1
  refine mvs 5 h4 rfl fun _ h6=>h6.sn [7,6,5,4,0,1] rfl fun h7=>hK2 _ _<|sq fun _ hK4=>sqr fun _ hK5=>mv h7 rfl fun _ h8=>bv h8 (z:=.bool false) rfl (cNe _ _ _ _ rfl) fun _ h9=>h9.sn [16,7,6,5,4,0,1] rfl fun h10=>hK5 _ _<|wcF h10 rfl rfl<|h10.sk [7,6,5,4,0,1] rfl fun h11=>?_
  refine wp_skip<|hK4 _ _<|sqr fun _ hK6=>mv h11 rfl fun _ h12=>cl h12 rfl (cF func35) (YB s1 (s1.get 0 rfl:Own _ _ _ _ _ _ _ _).row) fun _ v2 w2 r2 h13=>?_
  obtain ⟨rfl,s2⟩:=r2
  refine mvs 3 h13 rfl fun _ h14=>so (wn rfl) fun _ hK7=>AO h14 rfl rfl rfl rfl (z:=[ν 0,ν 0,ν 0,ν 0,ν 0,ν 0]) (fun _=>rfl) s2 fun _ g1 w3 h15 s3 _ _=>hK7 _ _ ?_
  refine stA h15 s3 0 rfl rfl rfl κ rfl rfl rfl rfl fun _ w4 h16 s4 _=>h16.sk [8,23,22,19,21,20,6,5,4,0,1] rfl fun h17=>mv h17 rfl fun _ h18=>h18.sn [7,8,6,5,4,0,1] rfl fun h19=>hK6 _ _<|sq fun _ hK8=>sqr fun _ hK9=>mv h19 rfl fun _ h20=>bv h20 (z:=.bool (decide (rsE (As M P 2 c)≠0))) rfl (cNe _ _ _ _ rfl) fun _ h21=>h21.sn [25,7,8,6,5,4,0,1] rfl fun h22=>hK9 _ _ ?_
  rcases bC (decide (rsE (As M P 2 c)≠0)) with hc2 | hc2
  ·skip
   have hp1:rsE (As M P 2 c)≠0:=(dT hc2)
   refine wcT h22 rfl hc2<|h22.sk [7,8,6,5,4,0,1] rfl fun h23=>sqr fun _ hK10=>bu h23 (v:=.agg (slC sl0).toArray) rfl (fun w=>κ) fun _ h24=>stA h24 s4 5 rfl rfl rfl κ rfl rfl rfl rfl fun _ w5 h25 s5 _=>h25.sk [26,7,8,6,4,0,1] rfl fun h26=>mv h26 rfl fun _ h27=>h27.sn [5,7,8,6,4,0,1] rfl fun h28=>hK10 _ _<|wp_ret ?_
   try simp only [Exit.then,Exit.inBlock]
   refine rCt h28 s5 5 υ48 rfl rfl rfl rfl rfl ?_
   exact ⟨by unfold slR slE;rw [if_pos hc1,if_pos hc1,if_pos hp1,if_pos hp1],Sep.tail_un (xs:=[_,_,_]) (s5.pk [2,3,4,6] rfl)⟩
  ·skip
   have hp2:¬ (rsE (As M P 2 c)≠0):=(dF hc2)
   refine wcF h22 rfl hc2<|h22.sk [7,8,6,5,4,0,1] rfl fun h29=>wp_skip<|hK8 _ _<|sqr fun _ hK11=>sw1 h29 rfl (v:=.agg (slC (rdS (As M P 2 c))).toArray) (rld h29 rfl rfl (ldA υ48 rfl (n:=6) κ (s4.get 0 rfl:Blk _ _ _ _) rfl rfl)) fun _ h30=>stA h30 s4 5 rfl rfl rfl κ rfl rfl rfl rfl fun _ w6 h31 s6 _=>h31.sk [27,7,8,6,4,0,1] rfl fun h32=>mv h32 rfl fun _ h33=>h33.sn [5,7,8,6,4,0,1] rfl fun h34=>hK11 _ _ ?_
   refine wp_ret ?_
   try simp only [Exit.then,Exit.inBlock]
   refine rCt h34 s6 5 υ48 rfl rfl rfl rfl rfl ?_
   exact ⟨by unfold slR slE;rw [if_pos hc1,if_pos hc1,if_neg hp2,if_neg hp2],Sep.tail_un (xs:=[_,_,_]) (s6.pk [2,3,4,6] rfl)⟩
 ·skip
  refine cl h3 rfl (cF func34) (Ab1 (kd:=2) (nm:=c) (s8.pk [1,2,3,0,4] rfl) hM hc1) fun _ v3 w8 r3 h35=>?_
  obtain ⟨ra_x122,rc_x123,rfl,s7⟩:=r3
  refine mvs 5 h35 rfl fun _ h36=>h36.sn [7,6,5,4,0,1] rfl fun h37=>hK2 _ _<|sq fun _ hK12=>sqr fun _ hK13=>mv h37 rfl fun _ h38=>bv h38 (z:=.bool true) rfl (cNe _ _ _ _ rfl) fun _ h39=>h39.sn [16,7,6,5,4,0,1] rfl fun h40=>hK13 _ _<|wcT h40 rfl rfl<|h40.sk [7,6,5,4,0,1] rfl fun h41=>?_
  refine sqr fun _ hK14=>bu h41 (v:=.agg (slC sl0).toArray) rfl (fun w=>κ) fun _ h42=>mv h42 rfl fun _ h43=>stA h43 s7 4 rfl rfl rfl κ rfl rfl rfl rfl fun _ w9 h44 s9 _=>h44.sk [18,17,7,6,4,0,1] rfl fun h45=>mv h45 rfl fun _ h46=>h46.sn [5,7,6,4,0,1] rfl fun h47=>hK14 _ _<|wp_ret ?_
  try simp only [Exit.then,Exit.inBlock]
  refine rCt h47 s9 4 υ48 rfl rfl rfl rfl rfl ?_
  exact ⟨by unfold slR slE;rw [if_neg (by rw [hc1];decide),if_neg (by rw [hc1];decide)],Sep.tail_un (xs:=[_,_,_]) (s9.pk [1,2,3,5] rfl)⟩
theorem Af6 {w:World} {R:List Ch} {mx vx fx:Nat} {K:VolK} {ta:Ω} {tc:Nat} {M:MemM} {P:List PtM} (hS0:Sep w ([Ab vx 66 [π K.tg,π mx,π fx],Ab mx 125 [π K.tg],txP K ta tc M P]++R)) (hM:M.V.length=23168)  :
  CallsR prog 18 #[π vx] w (fun v w'=>v=.bool (FP M P)∧Sep w' ([Ab vx 66 [π K.tg,π mx,π fx],Ab mx 125 [π K.tg],txP K ta tc M P]++R)):=by
 have hS:Sep w [Ab vx 66 [π K.tg,π mx,π fx],Ab mx 125 [π K.tg],txP K ta tc M P,Ch.many R]:=Sep.tail_many (xs:=[_,_,_]) hS0;clear hS0
 refine AB func18 rfl (N:=60) ntmps18 (by show 1≤60;decide) [(0,π vx)] rfl fun _ h1=>sqr fun _ hK3=>mv h1 rfl fun _ h4=>wpList_nil<|hK3 _ _<|sq fun _ hK6=>sqr fun _ hK7=>mv h4 rfl fun _ h8=>cl h8 rfl (cF func47) (XJ hS hM) fun _ v1 w1 r1 h2=>?_
 obtain ⟨rfl,s1⟩:=r1
 refine mvs 5 h2 rfl fun _ h3=>h3.sn [4,2,0] rfl fun h5=>hK7 _ _<|sqr fun _ hK1=>mv h5 rfl fun _ h6=>bv h6 (z:=.bool (decide (hdE M P≠0))) rfl (cNe _ _ _ _ rfl) fun _ h7=>h7.sn [19,4,2,0] rfl fun h9=>hK1 _ _ ?_
 rcases bC (decide (hdE M P≠0)) with hc1 | hc1
 ·skip
  have hp1:hdE M P≠0:=(dT hc1)
  refine wcT h9 rfl hc1<|h9.sk [4,2,0] rfl fun h10=>sqr fun _ hK2=>h10.sk [4,0] rfl fun h11=>mv h11 rfl fun _ h12=>wpList_nil<|hK2 _ _<|wp_ret ?_
  try simp only [Exit.then,Exit.inBlock]
  refine AW (v:=.bool false) (Cz h12 rfl rfl) h12.defs ?_
  exact ⟨by rw [Af2 hp1],Sep.tail_un (xs:=[_,_,_]) s1⟩
 ·skip
  have hp2:¬ (hdE M P≠0):=(dF hc1)
  refine wcF h9 rfl hc1<|h9.sk [4,2,0] rfl fun h13=>wp_skip<|hK6 _ _<|sq fun _ hK4=>sqr fun _ hK5=>mv h13 rfl fun _ h14=>wpList_nil<|hK5 _ _<|wp_block ?_
  refine DZ (fun (k:Nat) a' w'=>Kn 60 [(20,ν (k:Int)),(4,ν (hdE M P)),(2,.bool false),(0,π vx)] a'∧Sep w' [Ab vx 66 [π K.tg,π mx,π fx],Ab mx 125 [π K.tg],txP K ta tc M P,Ch.many R]∧(k≤8)∧(∀ q:Nat,q<k→slE M P (((q+1:Nat)):Int)=0)) (fun (k:Nat)=>8-k) 0 ⟨h14.subs rfl,s1,Nat.zero_le _,(fun q hq=>absurd hq (Nat.not_lt_zero _))⟩ ?_
  rintro k1 a1 w2 ⟨h15,s2,hk52,hA53⟩ K1 hK8
  refine sqr fun _ hK9=>bv h15 (z:=.bool (decide ((k1:Int)<8))) rfl (cLt _ _ _ _ rfl) fun _ h16=>wpList_nil<|hK9 _ _<|sq fun _ hK10=>?_
  rcases bC (decide ((k1:Int)<8)) with hc2 | hc2
  ·skip
   have hp3:(k1:Int)<8:=(dT hc2)
   refine wcT h16 rfl hc2<|h16.sk [20,4,2,0] rfl fun h17=>wp_skip<|hK10 _ _<|sq fun _ hK11=>wp_block ?_
   refine sqr fun _ hK12=>mvs 2 h17 rfl fun _ h18=>h18.sn [5,20,4,2,0] rfl fun h19=>hK12 _ _<|sqr fun _ hK13=>mvs 2 h19 rfl fun _ h20=>bv h20 (z:=ν ((k1+1:Nat):Int)) rfl (CT _ _ _ ω ω ω) fun _ h21=>cl h21 rfl (cF func12) (YY (c:=((k1+1:Nat):Int)) s2 hM) fun _ v2 w3 r2 h22=>?_
   obtain ⟨rfl,s3⟩:=r2
   refine mvs 3 h22 rfl fun _ h23=>so (wn rfl) fun _ hK14=>AO h23 rfl rfl rfl rfl (z:=[ν 0,ν 0,ν 0,ν 0,ν 0,ν 0]) (fun _=>rfl) s3 fun _ g1 w4 h24 s4 _ _=>hK14 _ _ ?_
   refine stA h24 s4 0 rfl rfl rfl κ rfl rfl rfl rfl fun _ w5 h25 s5 _=>mv h25 rfl fun _ h26=>h26.sn [7,5,20,4,2,0] rfl fun h27=>hK13 _ _<|sqr fun _ hK15=>mv h27 rfl fun _ h28=>bv h28 (z:=.bool (decide (slE M P ((k1+1:Nat):Int)≠0))) rfl (cNe _ _ _ _ rfl) fun _ h29=>h29.sn [31,7,5,20,4,2,0] rfl fun h30=>hK15 _ _ ?_
   rcases bC (decide (slE M P ((k1+1:Nat):Int)≠0)) with hc3 | hc3
   ·skip
    have hp4:slE M P ((k1+1:Nat):Int)≠0:=(dT hc3)
    refine wcT h30 rfl hc3<|h30.sk [7,5,20,4,2,0] rfl fun h31=>sqr fun _ hK16=>h31.sk [7,5,20,4,0] rfl fun h32=>mv h32 rfl fun _ h33=>wpList_nil<|hK16 _ _<|wp_ret ?_
    try simp only [Exit.then,Exit.inBlock]
    refine AW (v:=.bool false) (Cz h33 rfl rfl) h33.defs ?_
    exact ⟨by rw [Af3 (k:=k1) ω hp4],Sep.tail_un (xs:=[_,_,_]) (s5.pk [1,2,3,4] rfl)⟩
   ·skip
    have hp5:¬ (slE M P ((k1+1:Nat):Int)≠0):=(dF hc3)
    refine wcF h30 rfl hc3<|h30.sk [7,5,20,4,2,0] rfl fun h34=>wp_skip<|hK11 _ _<|wp_region_lit<|bv h34 (z:=ν ((k1+1:Nat):Int)) rfl (CT _ _ _ ω ω ω) fun _ h35=>h35.sk [32,7,5,4,2,0] rfl fun h36=>mv h36 rfl fun _ h37=>h37.sk [20,7,5,4,2,0] rfl fun h38=>wpList_nil ?_
    exact hK8 (k1+1) _ _ ⟨h38.subs rfl,(s5.pk [1,2,3,4] rfl),ω,(Pr hA53 (Classical.not_not.1 hp5))⟩ ω
  ·skip
   have hp6:¬ ((k1:Int)<8):=(dF hc2)
   refine wcF h16 rfl hc2<|h16.sk [20,4,2,0] rfl fun h39=>wp_exit ?_
   refine hK4 _ _ ?_
   refine sq fun _ hK17=>sqr fun _ hK18=>mv h39 rfl fun _ h40=>wpList_nil<|hK18 _ _<|wp_block ?_
   refine DZ (fun (j:Nat) a' w'=>Kn 60 [(33,ν (j:Int)),(20,ν (k1:Int)),(4,ν (hdE M P)),(2,.bool false),(0,π vx)] a'∧Sep w' [Ab vx 66 [π K.tg,π mx,π fx],Ab mx 125 [π K.tg],txP K ta tc M P,Ch.many R]∧(j≤32)∧(∀ q:Nat,q<j→AU M P (((q+1:Nat)):Int)=0)) (fun (j:Nat)=>32-j) 0 ⟨h40.subs rfl,s2,Nat.zero_le _,(fun q hq=>absurd hq (Nat.not_lt_zero _))⟩ ?_
   rintro j140 a2 w6 ⟨h41,s6,hj138,hB139⟩ K2 hK19
   refine sqr fun _ hK20=>bv h41 (z:=.bool (decide ((j140:Int)<32))) rfl (cLt _ _ _ _ rfl) fun _ h42=>wpList_nil<|hK20 _ _<|sq fun _ hK21=>?_
   rcases bC (decide ((j140:Int)<32)) with hc4 | hc4
   ·skip
    have hp7:(j140:Int)<32:=(dT hc4)
    refine wcT h42 rfl hc4<|h42.sk [33,20,4,2,0] rfl fun h43=>wp_skip<|hK21 _ _<|sq fun _ hK22=>wp_block ?_
    refine sqr fun _ hK23=>mvs 2 h43 rfl fun _ h44=>h44.sn [8,33,20,4,2,0] rfl fun h45=>hK23 _ _<|sqr fun _ hK24=>mvs 2 h45 rfl fun _ h46=>fav h46 rfl (fQ 1) fun _ h47=>ldv h47 s6 0 υ42 rfl rfl rfl rfl fun _ h48=>mv h48 rfl fun _ h49=>bv h49 (z:=ν ((j140+1:Nat):Int)) rfl (CT _ _ _ ω ω ω) fun _ h50=>?_
    refine cl h50 rfl (cF func11) (En (i:=((j140+1:Nat):Int)) (s6.pk [1,2,0,3] rfl) hM) fun _ v3 w7 r3 h51=>?_
    obtain ⟨rfl,s7⟩:=r3
    refine mvs 3 h51 rfl fun _ h52=>so (wn rfl) fun _ hK25=>AO h52 rfl rfl rfl rfl (z:=[ν 0,ν 0,ν 0,ν 0,ν 0,ν 0,ν 0,ν 0,ν 0,ν 0,ν 0,ν 0,ν 0,ν 0,ν 0]) (fun _=>rfl) s7 fun _ g2 w8 h53 s8 _ _=>hK25 _ _ ?_
    refine stA h53 s8 0 rfl rfl rfl κ rfl rfl rfl rfl fun _ w9 h54 s9 _=>mv h54 rfl fun _ h55=>h55.sn [10,8,33,20,4,2,0] rfl fun h56=>hK24 _ _<|sqr fun _ hK26=>mv h56 rfl fun _ h57=>bv h57 (z:=.bool (decide (AU M P ((j140+1:Nat):Int)≠0))) rfl (cNe _ _ _ _ rfl) fun _ h58=>h58.sn [47,10,8,33,20,4,2,0] rfl fun h59=>hK26 _ _ ?_
    rcases bC (decide (AU M P ((j140+1:Nat):Int)≠0)) with hc5 | hc5
    ·skip
     have hp8:AU M P ((j140+1:Nat):Int)≠0:=(dT hc5)
     refine wcT h59 rfl hc5<|h59.sk [10,8,33,20,4,2,0] rfl fun h60=>sqr fun _ hK27=>h60.sk [10,8,33,20,4,0] rfl fun h61=>mv h61 rfl fun _ h62=>wpList_nil<|hK27 _ _<|wp_ret ?_
     try simp only [Exit.then,Exit.inBlock]
     refine AW (v:=.bool false) (Cz h62 rfl rfl) h62.defs ?_
     exact ⟨by rw [Af4 (k:=j140) ω hp8],Sep.tail_un (xs:=[_,_,_]) (s9.pk [3,1,2,4] rfl)⟩
    ·skip
     have hp9:¬ (AU M P ((j140+1:Nat):Int)≠0):=(dF hc5)
     refine wcF h59 rfl hc5<|h59.sk [10,8,33,20,4,2,0] rfl fun h63=>wp_skip<|hK22 _ _<|wp_region_lit<|bv h63 (z:=ν ((j140+1:Nat):Int)) rfl (CT _ _ _ ω ω ω) fun _ h64=>h64.sk [48,10,8,20,4,2,0] rfl fun h65=>mv h65 rfl fun _ h66=>h66.sk [33,10,8,20,4,2,0] rfl fun h67=>wpList_nil ?_
     exact hK19 (j140+1) _ _ ⟨h67.subs rfl,(s9.pk [3,1,2,4] rfl),ω,(Pr hB139 (Classical.not_not.1 hp9))⟩ ω
   ·skip
    have hp10:¬ ((j140:Int)<32):=(dF hc4)
    refine wcF h42 rfl hc4<|h42.sk [33,20,4,2,0] rfl fun h68=>wp_exit ?_
    refine hK17 _ _ ?_
    refine sqr fun _ hK28=>mvs 2 h68 rfl fun _ h69=>fav h69 rfl (fQ 1) fun _ h70=>ldv h70 s6 0 υ42 rfl rfl rfl rfl fun _ h71=>cl h71 rfl (cF func11) (En (i:=1) (s6.pk [1,2,0,3] rfl) hM) fun _ v4 w10 r4 h72=>?_
    obtain ⟨rfl,s10⟩:=r4
    refine mvs 3 h72 rfl fun _ h73=>so (wn rfl) fun _ hK29=>AO h73 rfl rfl rfl rfl (z:=[ν 0,ν 0,ν 0,ν 0,ν 0,ν 0,ν 0,ν 0,ν 0,ν 0,ν 0,ν 0,ν 0,ν 0,ν 0]) (fun _=>rfl) s10 fun _ g3 w11 h74 s11 _ _=>hK29 _ _ ?_
    refine stA h74 s11 0 rfl rfl rfl κ rfl rfl rfl rfl fun _ w12 h75 s12 _=>mv h75 rfl fun _ h76=>h76.sn [11,33,20,4,2,0] rfl fun h77=>hK28 _ _<|sqr fun _ hK30=>fav h77 rfl (fQ 0) fun _ h78=>ldv h78 s12 0 υ3 rfl rfl rfl rfl fun _ h79=>bv h79 (z:=.bool (decide ((Aj M P 1).k=2))) rfl (cEq _ _ _ _ rfl) fun _ h80=>h80.sk [59,58,57,11,33,20,4,0] rfl fun h81=>mv h81 rfl fun _ h82=>?_
    refine h82.sn [2,11,33,20,4,0] rfl fun h83=>hK30 _ _<|wp_ret ?_
    try simp only [Exit.then,Exit.inBlock]
    refine AW (v:=.bool (decide ((Aj M P 1).k=2))) (Cz h83 rfl rfl) h83.defs ?_
    exact ⟨by rw [Aci (Classical.not_not.1 hp2) (fun q hq=>hA53 q ω) (fun q hq=>hB139 q ω)],Sep.tail_un (xs:=[_,_,_]) (s12.pk [3,1,2,4] rfl)⟩
theorem YZ {w:World} {R:List Ch} {mx vx fx:Nat} {K:VolK} {ta:Ω} {tc:Nat} {M:MemM} {P:List PtM} {b:Bool} (hS0:Sep w ([Ab vx 66 [π K.tg,π mx,π fx],Ab mx 125 [π K.tg],txP K ta tc M P]++R)) (hM:M.V.length=23168) (h:FP M P=b):CallsR prog 18 #[π vx] w (fun v w'=>v=.bool b∧Sep w' ([Ab vx 66 [π K.tg,π mx,π fx],Ab mx 125 [π K.tg],txP K ta tc M P]++R)):=
 Calls.mono (Af6 hS0 hM) fun e w' z=>by rw [h] at z;exact z
theorem OK {w:World} {R:List Ch} {g v d p:Nat} {M:MemM} (hS0:Sep w ([Ca g v d p M]++R)) (hM:M.V.length=23168)  :
  CallsR prog 15 #[π g] w (fun v_ w'=>∃ lg,v_=.tuple #[π lg,.bool true]∧Sep w' ([DR lg g v d p M]++R)):=by
 have hS:Sep w [Ca g v d p M,Ch.many R]:=Sep.tail_many (xs:=[_]) hS0;clear hS0
 refine AB func15 rfl (N:=24) ntmps15 (by show 1≤24;decide) [(0,π g)] rfl fun _ h1=>sqr fun _ hK3=>mvs 2 h1 rfl fun _ h6=>wpList_nil<|hK3 _ _<|sq fun _ hK8=>sqr fun _ hK9=>mv h6 rfl fun _ h2=>bv h2 (z:=.bool false) rfl (IO _ υ23 _ _ _) fun _ h3=>mv h3 rfl fun _ h4=>sv h4 (wF h4 (E:=false) rfl rfl rfl) rfl rfl rfl (v:=π g) (Au h4 rfl rfl) fun _ h5=>so (wF h5 (E:=false) rfl rfl rfl) fun _ hK1=>BD h5 rfl rfl rfl (xs:=[.tmp 9]) rfl (cF func38) rfl (vs:=[π g]) rfl (args:=#[π g]) rfl (YW hS) fun _ v1 w1 r1 h7=>hK1 _ _ ?_
 obtain ⟨rfl,s1⟩:=r1
 refine so (wF h7 (E:=false) rfl rfl rfl) fun _ hK2=>BD h7 rfl rfl rfl (xs:=[]) rfl (cF func39) rfl (vs:=[]) rfl (args:=#[]) rfl (AQ s1 (Ii _)) fun _ v2 w2 r2 h8=>hK2 _ _ ?_
 obtain ⟨rfl,s2⟩:=r2
 refine sv h8 (wF h8 (E:=false) rfl rfl rfl) rfl rfl rfl (v:=.bool false) (Co h8 rfl rfl rfl (cNe _ _ _ _ (decide_eq_false ω))) fun _ h9=>sv1 h9 rfl (v:=.bool false) (BA h9 rfl rfl rfl) fun _ h10=>h10.sn [13,3,2,0] rfl fun h11=>hK9 _ _<|wcF h11 rfl rfl<|h11.sk [3,2,0] rfl fun h12=>wp_skip<|hK8 _ _<|sqr fun _ hK4=>cl h12 rfl (cF func40) (RU s2) fun _ v3 w3 r3 h13=>?_
 obtain ⟨rfl,s3⟩:=r3
 refine mvs 3 h13 rfl fun _ h14=>so (wn rfl) fun _ hK5=>AO h14 rfl rfl rfl rfl (z:=[ν 0,ν 0,ν 0,ν 0]) (fun _=>rfl) s3 fun _ g1 w4 h15 s4 _ _=>hK5 _ _ ?_
 refine stA h15 s4 0 rfl rfl rfl κ rfl rfl rfl rfl fun _ w5 h16 s5 _=>mv h16 rfl fun _ h17=>h17.sn [4,3,2,0] rfl fun h18=>hK4 _ _<|sqr fun _ hK6=>mv h18 rfl fun _ h19=>fav h19 rfl (fQ 2) fun _ h20=>ldv h20 s5 0 υ3 rfl rfl rfl rfl fun _ h21=>fav h21 rfl (fQ 3) fun _ h22=>ldv h22 s5 0 υ3 rfl rfl rfl rfl fun _ h23=>?_
 refine cl h23 rfl (cF func41) (Adr (s5.pk [1,0,2] rfl) hM) fun _ v4 w6 r4 h24=>?_
 obtain ⟨lgx80,rfl,s6⟩:=r4
 refine h24.sk [23,22,21,20,19,18,4,3,0] rfl fun h25=>mv h25 rfl fun _ h26=>h26.sk [2,23,22,21,20,19,18,4,0] rfl fun h27=>mv h27 rfl fun _ h28=>h28.sn [3,2,4,0] rfl fun h29=>hK6 _ _<|wp_ret ?_
 try simp only [Exit.then,Exit.inBlock]
 refine AW (v:=.tuple #[π lgx80,.bool true]) (DK h29 rfl rfl rfl) h29.defs ?_
 exact ⟨lgx80,rfl,Sep.tail_un (xs:=[_]) (s6.pk [0,2] rfl)⟩
theorem Ua {w:World} {R:List Ch} {g v d p:Nat} {M:MemM} (hS0:Sep w ([Ca g v d p M]++R)) (hM:M.V.length≠23168) :
  CallsR prog 15 #[π g] w (fun v_ w'=>v_=.tuple #[.pointer none,.bool false]∧Sep w' ([Ca g v d p M]++R)):=by
 have hS:Sep w [Ca g v d p M,Ch.many R]:=Sep.tail_many (xs:=[_]) hS0;clear hS0
 refine AB func15 rfl (N:=24) ntmps15 (by show 1≤24;decide) [(0,π g)] rfl fun _ h1=>sqr fun _ hK3=>mvs 2 h1 rfl fun _ h6=>wpList_nil<|hK3 _ _<|sq fun _ hK8=>sqr fun _ hK9=>mv h6 rfl fun _ h2=>bv h2 (z:=.bool false) rfl (IO _ υ23 _ _ _) fun _ h3=>mv h3 rfl fun _ h4=>sv h4 (wF h4 (E:=false) rfl rfl rfl) rfl rfl rfl (v:=π g) (Au h4 rfl rfl) fun _ h5=>so (wF h5 (E:=false) rfl rfl rfl) fun _ hK1=>BD h5 rfl rfl rfl (xs:=[.tmp 9]) rfl (cF func38) rfl (vs:=[π g]) rfl (args:=#[π g]) rfl (YW hS) fun _ v1 w1 r1 h7=>hK1 _ _ ?_
 obtain ⟨rfl,s1⟩:=r1
 refine so (wF h7 (E:=false) rfl rfl rfl) fun _ hK2=>BD h7 rfl rfl rfl (xs:=[]) rfl (cF func39) rfl (vs:=[]) rfl (args:=#[]) rfl (AQ s1 (Ii _)) fun _ v2 w2 r2 h8=>hK2 _ _ ?_
 obtain ⟨rfl,s2⟩:=r2
 refine sv h8 (wF h8 (E:=false) rfl rfl rfl) rfl rfl rfl (v:=.bool true) (Co h8 rfl rfl rfl (cNe _ _ _ _ (decide_eq_true ω))) fun _ h9=>sv1 h9 rfl (v:=.bool true) (BA h9 rfl rfl rfl) fun _ h10=>h10.sn [13,3,2,0] rfl fun h11=>hK9 _ _<|wcT h11 rfl rfl<|h11.sk [3,2,0] rfl fun h12=>sqr fun _ hK4=>h12.sk [3,0] rfl fun h13=>mv h13 rfl fun _ h14=>h14.sk [2,0] rfl fun h15=>?_
 refine mv h15 rfl fun _ h16=>wpList_nil<|hK4 _ _<|wp_ret ?_
 try simp only [Exit.then,Exit.inBlock]
 refine AW (v:=.tuple #[.pointer none,.bool false]) (DK h16 rfl rfl rfl) h16.defs ?_
 exact ⟨rfl,Sep.tail_un (xs:=[_]) s2⟩
theorem Ub {w:World} {R:List Ch} (hS0:Sep w ([]++R)) :
  CallsR prog 15 #[.pointer none] w (fun v w'=>v=.tuple #[.pointer none,.bool false]∧Sep w' ([]++R)):=by
 have hS:Sep w [Ch.many R]:=Sep.tail_many (xs:=[]) hS0;clear hS0
 refine AB func15 rfl (N:=24) ntmps15 (by show 1≤24;decide) [(0,.pointer none)] rfl fun _ h1=>sqr fun _ hK3=>mvs 2 h1 rfl fun _ h6=>wpList_nil<|hK3 _ _<|sq fun _ hK8=>sqr fun _ hK9=>mv h6 rfl fun _ h2=>bv h2 (z:=.bool true) rfl (IO _ υ23 _ _ _) fun _ h3=>mv h3 rfl fun _ h4=>su h4 (wF h4 (E:=true) rfl rfl rfl) rfl rfl rfl fun _ h5=>su h5 (wF h5 (E:=true) rfl rfl rfl) rfl rfl rfl fun _ h7=>?_
 refine su h7 (wF h7 (E:=true) rfl rfl rfl) rfl rfl rfl fun _ h8=>su h8 (wF h8 (E:=true) rfl rfl rfl) rfl rfl rfl fun _ h9=>sv1 h9 rfl (v:=.bool true) (BA h9 rfl rfl rfl) fun _ h10=>h10.sn [13,3,2,0] rfl fun h11=>hK9 _ _<|wcT h11 rfl rfl<|h11.sk [3,2,0] rfl fun h12=>sqr fun _ hK1=>h12.sk [3,0] rfl fun h13=>mv h13 rfl fun _ h14=>?_
 refine h14.sk [2,0] rfl fun h15=>mv h15 rfl fun _ h16=>wpList_nil<|hK1 _ _<|wp_ret ?_
 try simp only [Exit.then,Exit.inBlock]
 refine AW (v:=.tuple #[.pointer none,.bool false]) (DK h16 rfl rfl rfl) h16.defs ?_
 exact ⟨rfl,Sep.tail_un (xs:=[]) hS⟩
theorem Mc {w:World} {R:List Ch} {lg:Nat} {g v d p:Nat} {M:MemM} (hS0:Sep w ([DR lg g v d p M]++R)) (hM:M.V.length=23168)  :
  CallsR prog 17 #[π g,π lg] w (fun v_ w'=>∃ (K:VolK) (mx fx vx:Nat),v_=π vx∧Sep w' ([Ab vx 66 [π K.tg,π mx,π fx],Ab mx 125 [π K.tg],txP K none 0 M []]++R)∧(K.g=g∧K.v=v∧K.d=d∧K.p=p)):=by
 have hS:Sep w [DR lg g v d p M,Ch.many R]:=Sep.tail_many (xs:=[_]) hS0;clear hS0
 refine AB func17 rfl (N:=19) ntmps17 (by show 2≤19;decide) [(0,π g),(1,π lg)] rfl fun _ h1=>sqr fun _ hK3=>mv h1 rfl fun _ h4=>wpList_nil<|hK3 _ _<|sqr fun _ hK6=>mvs 2 h4 rfl fun _ h9=>cl h9 rfl (cF func44) (Adt hS hM) fun _ v1 w1 r1 h2=>?_
 obtain ⟨kk_x11,rfl,s1,hKK16⟩:=r1
 refine mv h2 rfl fun _ h3=>h3.sn [5,4,0,1] rfl fun h5=>hK6 _ _<|sqr fun _ hK1=>mv h5 rfl fun _ h6=>cl h6 rfl (cF func45) (Vw (K:=kk_x11) s1 hM) fun _ v2 w2 r2 h7=>?_
 obtain ⟨mx_x25,rfl,s2⟩:=r2
 refine mv h7 rfl fun _ h8=>h8.sn [6,5,4,0,1] rfl fun h10=>hK1 _ _<|sqr fun _ hK2=>mvs 4 h10 rfl fun _ h11=>cl h11 rfl (cF func46) (RP s2) fun _ v3 w3 r3 h12=>?_
 obtain ⟨fx_x45,rfl,s3⟩:=r3
 refine bu h12 (v:=.agg #[π kk_x11.tg,π mx_x25,π fx_x45]) rfl (fun w=>κ) fun _ h13=>so (wn rfl) fun _ hK4=>JE h13 rfl rfl rfl rfl rfl (z:=[π kk_x11.tg,π mx_x25,π fx_x45]) rfl s3 fun _ g1 w4 h14 s4 _ _=>hK4 _ _ ?_
 refine h14.sk [18,17,16,15,14,13,12,6,5,0,1] rfl fun h15=>mv h15 rfl fun _ h16=>h16.sn [4,6,5,0,1] rfl fun h17=>hK2 _ _<|wp_ret ?_
 try simp only [Exit.then,Exit.inBlock]
 refine AW (v:=π g1) (Cz h17 rfl rfl) h17.defs ?_
 exact ⟨kk_x11,mx_x25,fx_x45,g1,rfl,Sep.tail_un (xs:=[_,_,_]) (s4.pk [0,2,3,4] rfl),hKK16⟩
theorem Jj {w:World} {R:List Ch} {g v d p:Nat} {M:MemM} (hS0:Sep w ([Ca g v d p M]++R)) (hM:M.V.length=23168) (hs:FP (AI M 2688 4096) []=true) :
  CallsR prog 5 #[π g] w (fun v_ w'=>∃ (K:VolK) (mx fx vx:Nat),v_=.tuple #[π vx,ν 0]∧Sep w' ([Ab vx 66 [π K.tg,π mx,π fx],Ab mx 125 [π K.tg],txP K none 0 (AI M 2688 4096) []]++R)∧(K.g=g∧K.v=v∧K.d=d∧K.p=p)):=by
 have hS:Sep w [Ca g v d p M,Ch.many R]:=Sep.tail_many (xs:=[_]) hS0;clear hS0
 have hM2:(AI M 2688 4096).V.length=23168:=by rw [Cp];exact hM
 refine AB func5 rfl (N:=23) ntmps5 (by show 1≤23;decide) [(0,π g)] rfl fun _ h1=>sqr fun _ hK3=>mvs 2 h1 rfl fun _ h6=>wpList_nil<|hK3 _ _<|sqr fun _ hK8=>mv h6 rfl fun _ h9=>cl h9 rfl (cF func15) (OK hS hM) fun _ v1 w1 r1 h2=>?_
 obtain ⟨lg_x11,rfl,s1⟩:=r1
 refine mvs 5 h2 rfl fun _ h3=>h3.sn [5,4,3,2,0] rfl fun h4=>hK8 _ _<|sq fun _ hK1=>sqr fun _ hK2=>mvs 2 h4 rfl fun _ h5=>h5.sn [13,5,4,3,2,0] rfl fun h7=>hK2 _ _<|wcF h7 rfl rfl<|h7.sk [5,4,3,2,0] rfl fun h8=>wp_skip<|hK1 _ _ ?_
 refine sqr fun _ hK4=>mv h8 rfl fun _ h10=>cl h10 rfl (cF func16) (YG s1 hM) fun _ v2 w2 r2 h11=>?_
 obtain ⟨er_x41,rfl,s2⟩:=r2
 refine h11.sn [5,4,3,2,0] rfl fun h12=>hK4 _ _<|sqr fun _ hK5=>mvs 2 h12 rfl fun _ h13=>cl h13 rfl (cF func17) (Mc (M:=(AI M 2688 4096)) s2 hM2) fun _ v3 w3 r3 h14=>?_
 obtain ⟨kk_x55,mx_x56,fx_x57,vx_x58,rfl,s3,hKK63⟩:=r3
 refine mv h14 rfl fun _ h15=>h15.sn [6,5,4,3,2,0] rfl fun h16=>hK5 _ _<|sq fun _ hK6=>sqr fun _ hK7=>mv h16 rfl fun _ h17=>cl h17 rfl (cF func18) (YZ s3 hM2 hs) fun _ v4 w4 r4 h18=>?_
 obtain ⟨rfl,s4⟩:=r4
 refine mv h18 rfl fun _ h19=>h19.sn [21,6,5,4,3,2,0] rfl fun h20=>hK7 _ _<|wcF h20 rfl rfl<|h20.sk [6,5,4,3,2,0] rfl fun h21=>wp_skip<|hK6 _ _<|sqr fun _ hK9=>mv h21 rfl fun _ h22=>h22.sk [22,6,5,4,3,0] rfl fun h23=>mv h23 rfl fun _ h24=>?_
 refine h24.sk [2,22,6,5,4,0] rfl fun h25=>mv h25 rfl fun _ h26=>h26.sn [3,2,6,5,4,0] rfl fun h27=>hK9 _ _<|wp_ret ?_
 try simp only [Exit.then,Exit.inBlock]
 refine AW (v:=.tuple #[π vx_x58,ν 0]) (DK h27 rfl rfl rfl) h27.defs ?_
 exact ⟨kk_x55,mx_x56,fx_x57,vx_x58,rfl,Sep.tail_un (xs:=[_,_,_]) s4,hKK63⟩
theorem Ue {w:World} {R:List Ch} {g v d p:Nat} {M:MemM} (hS0:Sep w ([Ca g v d p M]++R)) (hM:M.V.length=23168) (hs:FP (AI M 2688 4096) []=false) :
  CallsR prog 5 #[π g] w (fun v_ w'=>v_=.tuple #[.pointer none,ν 36]∧Sep w' ([Ca g v d p (AI M 2688 4096)]++R)):=by
 have hS:Sep w [Ca g v d p M,Ch.many R]:=Sep.tail_many (xs:=[_]) hS0;clear hS0
 have hM2:(AI M 2688 4096).V.length=23168:=by rw [Cp];exact hM
 refine AB func5 rfl (N:=23) ntmps5 (by show 1≤23;decide) [(0,π g)] rfl fun _ h1=>sqr fun _ hK3=>mvs 2 h1 rfl fun _ h6=>wpList_nil<|hK3 _ _<|sqr fun _ hK8=>mv h6 rfl fun _ h9=>cl h9 rfl (cF func15) (OK hS hM) fun _ v1 w1 r1 h2=>?_
 obtain ⟨lg_x11,rfl,s1⟩:=r1
 refine mvs 5 h2 rfl fun _ h3=>h3.sn [5,4,3,2,0] rfl fun h4=>hK8 _ _<|sq fun _ hK1=>sqr fun _ hK2=>mvs 2 h4 rfl fun _ h5=>h5.sn [13,5,4,3,2,0] rfl fun h7=>hK2 _ _<|wcF h7 rfl rfl<|h7.sk [5,4,3,2,0] rfl fun h8=>wp_skip<|hK1 _ _ ?_
 refine sqr fun _ hK4=>mv h8 rfl fun _ h10=>cl h10 rfl (cF func16) (YG s1 hM) fun _ v2 w2 r2 h11=>?_
 obtain ⟨er_x41,rfl,s2⟩:=r2
 refine h11.sn [5,4,3,2,0] rfl fun h12=>hK4 _ _<|sqr fun _ hK5=>mvs 2 h12 rfl fun _ h13=>cl h13 rfl (cF func17) (Mc (M:=(AI M 2688 4096)) s2 hM2) fun _ v3 w3 r3 h14=>?_
 obtain ⟨kk_x55,mx_x56,fx_x57,vx_x58,rfl,s3,hKK63⟩:=r3
 refine mv h14 rfl fun _ h15=>h15.sn [6,5,4,3,2,0] rfl fun h16=>hK5 _ _<|sq fun _ hK6=>sqr fun _ hK7=>mv h16 rfl fun _ h17=>cl h17 rfl (cF func18) (YZ s3 hM2 hs) fun _ v4 w4 r4 h18=>?_
 obtain ⟨rfl,s4⟩:=r4
 refine mv h18 rfl fun _ h19=>h19.sn [21,6,5,4,3,2,0] rfl fun h20=>hK7 _ _<|wcT h20 rfl rfl<|h20.sk [6,5,4,3,2,0] rfl fun h21=>sqr fun _ hK9=>h21.sk [6,5,4,3,0] rfl fun h22=>mv h22 rfl fun _ h23=>h23.sk [2,6,5,4,0] rfl fun h24=>mv h24 rfl fun _ h25=>?_
 refine wpList_nil<|hK9 _ _<|wp_ret ?_
 try simp only [Exit.then,Exit.inBlock]
 refine AW (v:=.tuple #[.pointer none,ν 36]) (DK h25 rfl rfl rfl) h25.defs ?_
 exact ⟨rfl,Kj (Sep.tail_un (xs:=[_]) (s4.pk [2,3] rfl)) hKK63⟩
theorem Aar {w:World} {R:List Ch} {g v d p:Nat} {M:MemM} (hS0:Sep w ([Ca g v d p M]++R)) (hM:M.V.length≠23168) :
  CallsR prog 5 #[π g] w (fun v_ w'=>v_=.tuple #[.pointer none,ν 1]∧Sep w' ([Ca g v d p M]++R)):=by
 have hS:Sep w [Ca g v d p M,Ch.many R]:=Sep.tail_many (xs:=[_]) hS0;clear hS0
 refine AB func5 rfl (N:=23) ntmps5 (by show 1≤23;decide) [(0,π g)] rfl fun _ h1=>sqr fun _ hK3=>mvs 2 h1 rfl fun _ h6=>wpList_nil<|hK3 _ _<|sqr fun _ hK8=>mv h6 rfl fun _ h9=>cl h9 rfl (cF func15) (Ua hS hM) fun _ v1 w1 r1 h2=>?_
 obtain ⟨rfl,s1⟩:=r1
 refine mvs 5 h2 rfl fun _ h3=>h3.sn [5,4,3,2,0] rfl fun h4=>hK8 _ _<|sq fun _ hK1=>sqr fun _ hK2=>mvs 2 h4 rfl fun _ h5=>h5.sn [13,5,4,3,2,0] rfl fun h7=>hK2 _ _<|wcT h7 rfl rfl<|h7.sk [5,4,3,2,0] rfl fun h8=>sq fun _ hK4=>wp_region_lit ?_
 refine h8.sk [5,4,3,0] rfl fun h10=>mv h10 rfl fun _ h11=>h11.sk [2,5,4,0] rfl fun h12=>mv h12 rfl fun _ h13=>wpList_nil<|hK4 _ _<|wp_ret ?_
 try simp only [Exit.then,Exit.inBlock]
 refine AW (v:=.tuple #[.pointer none,ν 1]) (DK h13 rfl rfl rfl) h13.defs ?_
 exact ⟨rfl,Sep.tail_un (xs:=[_]) s1⟩
theorem Xx {w:World} {R:List Ch} {g v d p:Nat} {M:MemM} (hS0:Sep w ([Ca g v d p M]++R)) (hM:M.V.length≠23168) :
  CallsR prog 6 #[π g] w (fun v_ w'=>v_=ν 1∧Sep w' ([Ca g v d p M]++R)):=by
 have hS:Sep w [Ca g v d p M,Ch.many R]:=Sep.tail_many (xs:=[_]) hS0;clear hS0
 refine AB func6 rfl (N:=32) ntmps6 (by show 1≤32;decide) [(0,π g)] rfl fun _ h1=>sqr fun _ hK3=>mv h1 rfl fun _ h4=>wpList_nil<|hK3 _ _<|sqr fun _ hK6=>mv h4 rfl fun _ h7=>cl h7 rfl (cF func15) (Ua hS hM) fun _ v1 w1 r1 h9=>?_
 obtain ⟨rfl,s1⟩:=r1
 refine mvs 5 h9 rfl fun _ h2=>h2.sn [4,3,2,0] rfl fun h3=>hK6 _ _<|sq fun _ hK1=>sqr fun _ hK2=>mvs 2 h3 rfl fun _ h5=>h5.sn [13,4,3,2,0] rfl fun h6=>hK2 _ _<|wcT h6 rfl rfl<|h6.sk [4,3,2,0] rfl fun h8=>sq fun _ hK4=>wp_region_lit ?_
 refine h8.sk [4,3,0] rfl fun h10=>mv h10 rfl fun _ h11=>wpList_nil<|hK4 _ _<|wp_ret ?_
 try simp only [Exit.then,Exit.inBlock]
 refine AW (v:=ν 1) (Cz h11 rfl rfl) h11.defs ?_
 exact ⟨rfl,Sep.tail_un (xs:=[_]) s1⟩
theorem Aas {w:World} {R:List Ch} (hS0:Sep w ([]++R))  :
  CallsR prog 5 #[.pointer none] w (fun v_ w'=>v_=.tuple #[.pointer none,ν 1]∧Sep w' ([]++R)):=by
 have hS:Sep w [Ch.many R]:=Sep.tail_many (xs:=[]) hS0;clear hS0
 refine AB func5 rfl (N:=23) ntmps5 (by show 1≤23;decide) [(0,.pointer none)] rfl fun _ h1=>sqr fun _ hK3=>mvs 2 h1 rfl fun _ h6=>wpList_nil<|hK3 _ _<|sqr fun _ hK8=>mv h6 rfl fun _ h9=>cl h9 rfl (cF func15) (Ub hS) fun _ v1 w1 r1 h2=>?_
 obtain ⟨rfl,s1⟩:=r1
 refine mvs 5 h2 rfl fun _ h3=>h3.sn [5,4,3,2,0] rfl fun h4=>hK8 _ _<|sq fun _ hK1=>sqr fun _ hK2=>mvs 2 h4 rfl fun _ h5=>h5.sn [13,5,4,3,2,0] rfl fun h7=>hK2 _ _<|wcT h7 rfl rfl<|h7.sk [5,4,3,2,0] rfl fun h8=>sq fun _ hK4=>wp_region_lit ?_
 refine h8.sk [5,4,3,0] rfl fun h10=>mv h10 rfl fun _ h11=>h11.sk [2,5,4,0] rfl fun h12=>mv h12 rfl fun _ h13=>wpList_nil<|hK4 _ _<|wp_ret ?_
 try simp only [Exit.then,Exit.inBlock]
 refine AW (v:=.tuple #[.pointer none,ν 1]) (DK h13 rfl rfl rfl) h13.defs ?_
 exact ⟨rfl,Sep.tail_un (xs:=[]) s1⟩
theorem Xz {w:World} {R:List Ch} (hS0:Sep w ([]++R))  :
  CallsR prog 6 #[.pointer none] w (fun v_ w'=>v_=ν 1∧Sep w' ([]++R)):=by
 have hS:Sep w [Ch.many R]:=Sep.tail_many (xs:=[]) hS0;clear hS0
 refine AB func6 rfl (N:=32) ntmps6 (by show 1≤32;decide) [(0,.pointer none)] rfl fun _ h1=>sqr fun _ hK3=>mv h1 rfl fun _ h4=>wpList_nil<|hK3 _ _<|sqr fun _ hK6=>mv h4 rfl fun _ h7=>cl h7 rfl (cF func15) (Ub hS) fun _ v1 w1 r1 h9=>?_
 obtain ⟨rfl,s1⟩:=r1
 refine mvs 5 h9 rfl fun _ h2=>h2.sn [4,3,2,0] rfl fun h3=>hK6 _ _<|sq fun _ hK1=>sqr fun _ hK2=>mvs 2 h3 rfl fun _ h5=>h5.sn [13,4,3,2,0] rfl fun h6=>hK2 _ _<|wcT h6 rfl rfl<|h6.sk [4,3,2,0] rfl fun h8=>sq fun _ hK4=>wp_region_lit ?_
 refine h8.sk [4,3,0] rfl fun h10=>mv h10 rfl fun _ h11=>wpList_nil<|hK4 _ _<|wp_ret ?_
 try simp only [Exit.then,Exit.inBlock]
 refine AW (v:=ν 1) (Cz h11 rfl rfl) h11.defs ?_
 exact ⟨rfl,Sep.tail_un (xs:=[]) s1⟩
theorem LH {w:World} {R:List Ch} {g v d p:Nat} (hS0:Sep w ([Ca g v d p (EV 23168)]++R))  :
  CallsR prog 6 #[π g] w (fun v_ w'=>∃ M':MemM,v_=ν 0∧Sep w' ([Ca g v d p M']++R)∧Vst M' [] sAS 0 0 (fun _=>AK)∧(AI M' 2688 4096).V=M'.V):=by
 have hS:Sep w [Ca g v d p (EV 23168),Ch.many R]:=Sep.tail_many (xs:=[_]) hS0;clear hS0
 refine AB func6 rfl (N:=32) ntmps6 (by show 1≤32;decide) [(0,π g)] rfl fun _ h1=>sqr fun _ hK3=>mv h1 rfl fun _ h4=>wpList_nil<|hK3 _ _<|sqr fun _ hK6=>mv h4 rfl fun _ h7=>cl h7 rfl (cF func15) (OK hS LU) fun _ v1 w1 r1 h2=>?_
 obtain ⟨lg_x9,rfl,s1⟩:=r1
 refine mvs 5 h2 rfl fun _ h3=>h3.sn [4,3,2,0] rfl fun h5=>hK6 _ _<|sq fun _ hK1=>sqr fun _ hK2=>mvs 2 h5 rfl fun _ h6=>h6.sn [13,4,3,2,0] rfl fun h8=>hK2 _ _<|wcF h8 rfl rfl<|h8.sk [4,3,2,0] rfl fun h9=>wp_skip<|hK1 _ _ ?_
 refine sqr fun _ hK4=>mv h9 rfl fun _ h10=>cl h10 rfl (cF func19) (WU s1) fun _ v2 w2 r2 h11=>?_
 obtain ⟨cv_x39,rfl,s2⟩:=r2
 refine h11.sn [4,3,2,0] rfl fun h12=>hK4 _ _<|sqr fun _ hK5=>mvs 2 h12 rfl fun _ h13=>cl h13 rfl (cF func17) (Mc (M:=(Dn (EV 23168) 2688 0)) s2 Oe.m) fun _ v3 w3 r3 h14=>?_
 obtain ⟨kk_x53,mx_x54,fx_x55,vx_x56,rfl,s3,hKK61⟩:=r3
 refine mv h14 rfl fun _ h15=>h15.sn [5,4,3,2,0] rfl fun h16=>hK5 _ _<|sq fun _ hK7=>sqr fun _ hK8=>mvs 2 h16 rfl fun _ h17=>fav h17 rfl (fQ 1) fun _ h18=>ldv h18 s3 0 υ42 rfl rfl rfl rfl fun _ h19=>cl h19 rfl (cF func20) (Vh (s3.pk [1,2,0,3] rfl) Oe.m (KX Oe).1) fun _ v4 w4 r4 h20=>?_
 obtain ⟨tax77,tcx78,rfl,s4⟩:=r4
 refine mv h20 rfl fun _ h21=>h21.sn [6,5,4,3,2,0] rfl fun h22=>hK8 _ _<|sqr fun _ hK9=>mv h22 rfl fun _ h23=>bv h23 (z:=.bool false) rfl (cNe _ _ _ _ rfl) fun _ h24=>h24.sn [25,6,5,4,3,2,0] rfl fun h25=>hK9 _ _<|wcF h25 rfl rfl<|h25.sk [6,5,4,3,2,0] rfl fun h26=>?_
 refine wp_skip<|hK7 _ _<|sqr fun _ hK10=>mvs 2 h26 rfl fun _ h27=>fav h27 rfl (fQ 0) fun _ h28=>ldv h28 s4 2 υ63 rfl rfl rfl rfl fun _ h29=>?_
 have hvc:=(KX Oe).2.com (by decide)
 obtain ⟨M',hM'⟩:∃ M',M'=cmM (Dn (EV 23168) 2688 0) (CV (Dn (EV 23168) 2688 0) [] 8):=⟨_,rfl⟩
 rw [← hM'] at hvc
 refine cl h29 rfl (cF func21) (Ko (s4.pk [1,0,2,3] rfl) hvc.1 hvc.2.1 hM') fun _ v5 w5 r5 h30=>?_
 obtain ⟨tax105,tcx106,rfl,s5⟩:=r5
 refine h30.sk [31,30,29,28,27,6,5,4,3,0] rfl fun h31=>mv h31 rfl fun _ h32=>h32.sn [2,6,5,4,3,0] rfl fun h33=>hK10 _ _<|wp_ret ?_
 try simp only [Exit.then,Exit.inBlock]
 refine AW (v:=ν 0) (Cz h33 rfl rfl) h33.defs ?_
 exact ⟨M',rfl,Kj (Sep.tail_un (xs:=[_]) (s5.pk [0,3] rfl)) hKK61,hvc.2.2,by rw [hM'];exact WW (KX Oe).2.v (by decide) (fun e9=>by have z9:=(KX Oe).2.v.l;rw [e9] at z9;cases z9)⟩
end
section
abbrev vbC (vx mx fx:Nat) (K:VolK):Ch:=Ab vx 66 [π K.tg,π mx,π fx]
section
variable {M:MemM} {P:List PtM} {s:BW} {n:Nat} {hd:Int} {sl:Int→Λ}
theorem Vst.hdk (T:Vst M P s n hd sl) (h:btw hd 1152921504606846976=true):hdN M P=hd∧hdE M P=0:=by
  have z:=VV h
  unfold hdN hdE;rw [T.h,z.1,z.2];exact ⟨rfl,rfl⟩
theorem Vst.slk (T:Vst M P s n hd sl) {c:Int} (h1:1≤c) (h2:c≤8) (h:rsE (sl c)=0):slR M P c=rdS (sl c)∧slE M P c=0:=by
  have hp:DI 2 c=true:=by
    have z:=(Ac8 ⟨c.toNat-1,ω⟩).1
    rwa [show (((c.toNat-1+1:Nat)):Int)=c by omega] at z
  unfold slR slE;rw [if_pos hp,if_pos hp,T.s2 c h1 h2,h];exact ⟨rfl,rfl⟩
theorem Abq:∀ j:Fin 32,Dz sAS (((j.val+1:Nat)):Int)=0:=by decide +kernel
theorem Wb:(DA sAS 1).k=2:=by decide +kernel
theorem YX:rsE AK=0:=by decide +kernel
theorem Vst.snd (T:Vst M P sAS n 0 (fun _=>AK)):FP M P=true:=by
  rw [Aci (T.hdk (by decide)).2 (fun k hk=>(T.slk ω ω YX).2) (fun k hk=>(Gt T.v _).trans (Abq ⟨k,hk⟩)),Hb T.v,decide_eq_true Wb]
end
end
section
theorem TV {w:World} {R:List Ch} {mx vx fx:Nat} {K:VolK} {ta:Ω} {tc:Nat} {M:MemM} {P:List PtM} {a b:Int} (hS0:Sep w ([Ab vx 66 [π K.tg,π mx,π fx],Ab mx 125 [π K.tg],txP K ta tc M P]++R)) (hM:M.V.length=23168) (h:hdN M P=a∧hdE M P=b):CallsR prog 47 #[π vx] w (fun v w'=>v=.tuple #[ν a,ν b]∧Sep w' ([Ab vx 66 [π K.tg,π mx,π fx],Ab mx 125 [π K.tg],txP K ta tc M P]++R)):=
 Calls.mono (XJ hS0 hM) fun e w' z=>by rw [h.1,h.2] at z;exact z
theorem Ph {w:World} {R:List Ch} {mx vx fx:Nat} {K:VolK} {ta:Ω} {tc:Nat} {M:MemM} {P:List PtM} {c:Int} {z:SlT} {b:Int} (hS0:Sep w ([Ab vx 66 [π K.tg,π mx,π fx],Ab mx 125 [π K.tg],txP K ta tc M P]++R)) (hM:M.V.length=23168) (h:slR M P c=z∧slE M P c=b):CallsR prog 12 #[π vx,ν c] w (fun v w'=>v=.tuple #[.agg (slC z).toArray,ν b]∧Sep w' ([Ab vx 66 [π K.tg,π mx,π fx],Ab mx 125 [π K.tg],txP K ta tc M P]++R)):=
 Calls.mono (YY (c:=c) hS0 hM) fun e w' q=>by rw [h.1,h.2] at q;exact q
theorem WN {n m:Int} (h:btw n m=true):0≤n∧n≤m:=by unfold btw at h;simp at h;exact h
theorem Abb {w:World} {R:List Ch} {n:Int} (hS:Sep w R) (h:btw n 1152921504606846976=true):CallsR prog 53 #[ν n] w (fun v w'=>∃ a c,v=.tuple #[.slice a (Bz n).length c,ν 0]∧Sep w' (AG 0 5 1 a (Bz n).length c ((Bz n).map Ad)::R)):=
 Calls.mono (FB n w (by have:=WN h;omega)) fun e w' ⟨a,c,e1,o,b⟩=>⟨_,e1,a,c,by rw [if_pos h],hS.push b (c:=AG 0 5 1 a _ c _) (Own.low o (Nat.zero_le _)) fun k hk=>(World.ownsRow.lt o k hk).1⟩
theorem Vc {w:World} {R:List Ch} (hS:Sep w R):CallsR prog 40 #[ν 1,ν 0] w (fun v w'=>v=.tuple #[.agg #[ν 1,ν 0,ν 0,ν 64],.bool true]∧Sep w' R):=
 AQ hS (Hx (k:=1) (n:=0) (a:=0) (s:=64) κ _)
def slB (z:SlT):Λ:=GK z.e z.h z.r z.er z.i z.wr
def Qg (z:SlT):Bool:=Kc z.e z.h z.r z.er z.i z.wr
def KM (z:SlT):SlT:={ z with e:=z.e+1,h:=0 }
theorem Le {z:SlT} (h:Qg z=true):(slB z).length=64:=by
 unfold slB GK;unfold Qg at h;rw [if_pos h]
 have l:=QW z.e z.h z.r z.er z.i z.wr
 unfold DW;simp [Fx,Ay];omega
theorem Abe {w:World} {R:List Ch} {z:SlT} (hS:Sep w R) (h:Qg z=true):CallsR prog 52 #[.agg (slC z).toArray] w (fun v w'=>∃ a c,v=.tuple #[.slice a (slB z).length c,ν 0]∧Sep w' (AG 0 5 1 a (slB z).length c ((slB z).map Ad)::R)):=
 Calls.mono (Mo z.e z.h z.r z.er z.i z.wr w) fun e w' ⟨a,c,e1,o,b⟩=>⟨_,e1,a,c,by have h2:Kc z.e z.h z.r z.er z.i z.wr=true:=h;rw [if_pos h2];rfl,hS.push b (c:=AG 0 5 1 a _ c _) (Own.low o (Nat.zero_le _)) fun k hk=>(World.ownsRow.lt o k hk).1⟩
section
variable {M:MemM} {P:List PtM} {s:BW} {n:Nat} {hd:Int} {sl:Int→Λ} {w:World} {R:List Ch} {K:VolK} {ta:Ω} {tc:Nat}
theorem Wi (T:Vst M P s n hd sl) (hb1:btw (hd+1) 1152921504606846976=true) (hn:n<64) (hS:Sep w (txP K ta tc M P::R)) {a:Ω} {c:Nat} (hr:RowB w a c (Bz (hd+1))):CallsR prog 69 #[pG K.tg,ν 0,.slice a (Bz (hd+1)).length c] w (fun x w'=>∃ ta' tc',x=ν 0∧Sep w' (txP K ta' tc' M (stP M P 1 0 (Bz (hd+1)))::R)):=by
 have l:=JY hb1
 have z:=(T.count hb1 l hn).1
 unfold stE at z;rw [Aac] at z
 refine Calls.mono (Pl hS hr (by unfold Ec;omega) ω) fun e w' q=>?_
 rw [l,show Ly M P 0 64=0 from z] at q
 unfold stP;rw [Aac];exact q
theorem Wj (T:Vst M P s n hd sl) {c:Int} {q:PartT} {z:SlT} (hq:AT 2 c=some q) (hm:Qg z=true) (hn:n<64) (hS:Sep w (txP K ta tc M P::R)) {a:Ω} {c':Nat} (hr:RowB w a c' (slB z)):CallsR prog 69 #[pG K.tg,ν q.a,.slice a (slB z).length c'] w (fun x w'=>∃ ta' tc',x=ν 0∧Sep w' (txP K ta' tc' M (stP M P 2 c (slB z))::R)):=by
 have l:=Le hm
 have y:=(T.slot hq l hn).1
 have hi:=Dq hq
 unfold stE at y;rw [hq] at y
 refine Calls.mono (Pl hS hr (by unfold Ec;omega) ω) fun e w' x=>?_
 rw [l,show Ly M P q.a 64=0 from y] at x
 unfold stP;rw [hq];exact x
theorem SK (hS:Sep w (txP K ta tc M P::R)) (hl:P.length=n):CallsR prog 62 #[π K.tg] w (fun v w'=>∃ la lc,v=.slice la n lc∧Sep w' (txP K ta tc M P::R)):=by
 subst hl
 have h:VolP w K ta tc M P:=hS.get 0 rfl
 exact Calls.mono (Qw h.b h.o.row (Nat.le_trans h.k.n ω)) fun e w' ⟨la,lc,e1,_,b⟩=>⟨_,e1,la,lc,rfl,hS.mono b⟩
def vcM (M:MemM) (P:List PtM) (hd:Int):MemM:=cmM M (stP M P 1 0 (Bz (hd+1)))
theorem Vst.vc (T:Vst M P s n hd sl) (hb1:btw (hd+1) 1152921504606846976=true) (hn:n≤49):Vst (vcM M P hd) [] s 0 (hd+1) sl:=((T.count hb1 (JY hb1) ω).2.com ω).2.2
end
theorem JK {w:World} {R:List Ch} {mx vx fx:Nat} {K:VolK} {ta:Ω} {tc:Nat} {M:MemM} {P:List PtM} {s:BW} {n:Nat} {hd:Int} {sl:Int→Λ} (hS0:Sep w ([Ab vx 66 [π K.tg,π mx,π fx],Ab mx 125 [π K.tg],txP K ta tc M P]++R)) (T:Vst M P s n hd sl) (hb:btw hd 1152921504606846976=true)  :
  CallsR prog 29 #[π vx] w (fun v w'=>v=ν hd∧Sep w' ([Ab vx 66 [π K.tg,π mx,π fx],Ab mx 125 [π K.tg],txP K ta tc M P]++R)):=by
 have hS:Sep w [Ab vx 66 [π K.tg,π mx,π fx],Ab mx 125 [π K.tg],txP K ta tc M P,Ch.many R]:=Sep.tail_many (xs:=[_,_,_]) hS0;clear hS0
 have hM:=T.v.m
 refine AB func29 rfl (N:=11) ntmps29 (by show 1≤11;decide) [(0,π vx)] rfl fun _ h1=>sqr fun _ hK3=>mv h1 rfl fun _ h4=>wpList_nil<|hK3 _ _<|sqr fun _ hK6=>mv h4 rfl fun _ h7=>cl h7 rfl (cF func47) (TV hS hM (T.hdk hb)) fun _ v1 w1 r1 h9=>?_
 obtain ⟨rfl,s1⟩:=r1
 refine mvs 5 h9 rfl fun _ h2=>h2.sn [3,2,0] rfl fun h3=>hK6 _ _<|sqr fun _ hK1=>mv h3 rfl fun _ h5=>h5.sk [10,3,0] rfl fun h6=>mv h6 rfl fun _ h8=>h8.sn [2,3,0] rfl fun h10=>hK1 _ _<|wp_ret ?_
 try simp only [Exit.then,Exit.inBlock]
 refine AW (v:=ν hd) (Cz h10 rfl rfl) h10.defs ?_
 exact ⟨rfl,Sep.tail_un (xs:=[_,_,_]) s1⟩
theorem ZH {w:World} {R:List Ch} {mx vx fx:Nat} {K:VolK} {ta:Ω} {tc:Nat} {M:MemM} {P:List PtM} {s:BW} {n:Nat} {hd:Int} {sl:Int→Λ} (hS0:Sep w ([Ab vx 66 [π K.tg,π mx,π fx],Ab mx 125 [π K.tg],txP K ta tc M P]++R)) (T:Vst M P s n hd sl) (hb:btw hd 1152921504606846976=true) (hb1:btw (hd+1) 1152921504606846976=true) (hn:n<64) :
  CallsR prog 63 #[π vx] w (fun v w'=>∃ ta' tc',v=ν 0∧Sep w' ([Ab vx 66 [π K.tg,π mx,π fx],Ab mx 125 [π K.tg],txP K ta' tc' M (stP M P 1 0 (Bz (hd+1)))]++R)):=by
 have hS:Sep w [Ab vx 66 [π K.tg,π mx,π fx],Ab mx 125 [π K.tg],txP K ta tc M P,Ch.many R]:=Sep.tail_many (xs:=[_,_,_]) hS0;clear hS0
 have hM:=T.v.m
 have hbq:=WN hb
 obtain ⟨hbq1,hbq2⟩:=hbq
 refine AB func63 rfl (N:=37) ntmps63 (by show 1≤37;decide) [(0,π vx)] rfl fun _ h1=>sqr fun _ hK3=>mv h1 rfl fun _ h4=>wpList_nil<|hK3 _ _<|sqr fun _ hK6=>mv h4 rfl fun _ h7=>cl h7 rfl (cF func47) (TV hS hM (T.hdk hb)) fun _ v1 w2 r1 h9=>?_
 obtain ⟨rfl,s1⟩:=r1
 refine mvs 5 h9 rfl fun _ h2=>h2.sn [4,3,2,0] rfl fun h3=>hK6 _ _<|sq fun _ hK1=>sqr fun _ hK2=>mv h3 rfl fun _ h5=>bv h5 (z:=.bool false) rfl (cNe _ _ _ _ rfl) fun _ h6=>h6.sn [14,4,3,2,0] rfl fun h8=>hK2 _ _<|wcF h8 rfl rfl<|h8.sk [4,3,2,0] rfl fun h10=>?_
 refine wp_skip<|hK1 _ _<|sqr fun _ hK4=>mv h10 rfl fun _ h11=>bv h11 (z:=ν (hd+1)) rfl (CT _ _ _ ω ω ω) fun _ h12=>cl h12 rfl (cF func53) (Abb s1 hb1) fun _ v2 w3 r2 h13=>?_
 obtain ⟨pa_x40,pc_x41,rfl,s2⟩:=r2
 refine mvs 4 h13 rfl fun _ h14=>h14.sk [5,21,20,16,19,18,17,3,2,0] rfl fun h15=>mv h15 rfl fun _ h16=>h16.sn [4,5,3,2,0] rfl fun h17=>hK4 _ _<|sq fun _ hK5=>sqr fun _ hK7=>mv h17 rfl fun _ h18=>bv h18 (z:=.bool false) rfl (cNe _ _ _ _ rfl) fun _ h19=>h19.sn [23,4,5,3,2,0] rfl fun h20=>hK7 _ _ ?_
 refine wcF h20 rfl rfl<|h20.sk [4,5,3,2,0] rfl fun h21=>wp_skip<|hK5 _ _<|sqr fun _ hK8=>cl h21 rfl (cF func40) (Vc s2) fun _ v3 w4 r3 h22=>?_
 obtain ⟨rfl,s3⟩:=r3
 refine mvs 3 h22 rfl fun _ h23=>so (wn rfl) fun _ hK9=>AO h23 rfl rfl rfl rfl (z:=[ν 0,ν 0,ν 0,ν 0]) (fun _=>rfl) s3 fun _ g1 w5 h24 s4 _ _=>hK9 _ _ ?_
 refine stA h24 s4 0 rfl rfl rfl κ rfl rfl rfl rfl fun _ w6 h25 s5 _=>mv h25 rfl fun _ h26=>h26.sn [6,4,5,3,2,0] rfl fun h27=>hK8 _ _<|sq fun _ hK10=>?_
 have s6:=s5.drew
 refine wp_region_held_drew (S:=fun w'=>Sep w' [Ab g1 82 [ν 1,ν 0,ν 0,ν 64],AG 0 5 1 pa_x40 ((Bz (hd+1))).length pc_x41 (((Bz (hd+1))).map Ad),Ab vx 66 [π K.tg,π mx,π fx],Ab mx 125 [π K.tg],Ch.many R]) κ (s6.pk [0,1,2,3,5] rfl) (fun hq1=>?_)
 refine tv1 hq1 h27 0 rfl rfl (v:=π vx) (fun w1 _=>(Au h27 rfl rfl) w1) fun _ h28=>?_
 refine tv1 hq1 h28 1 rfl rfl (v:=π vx) (fun w1 _=>(Hl h28 rfl rfl) w1) fun _ h29=>?_
 refine tv1 hq1 h29 2 rfl rfl (v:=π vx) (fun w1 _=>(rfa h29 rfl rfl (fQ 0)) w1) fun _ h30=>?_
 refine tv1 hq1 h30 3 rfl rfl (v:=π K.tg) (fun w1 hSw=>(rld h30 rfl rfl (ldB υ63 rfl (hSw.get 2 rfl:Blk _ _ _ _) rfl))) fun _ h31=>?_
 refine tv1 hq1 h31 4 rfl rfl (v:=.pointer (some ⟨g1,2,none⟩)) (fun w1 _=>(rfa h31 rfl rfl (fQ 2)) w1) fun _ h32=>?_
 refine tv1 hq1 h32 5 rfl rfl (v:=ν 0) (fun w1 hSw=>(rld h32 rfl rfl (ldB υ3 rfl (hSw.get 0 rfl:Blk _ _ _ _) rfl))) fun _ h33=>?_
 refine tv1 hq1 h33 6 rfl rfl (v:=.slice pa_x40 ((Bz (hd+1)).length) pc_x41) (fun w1 _=>(Au h33 rfl rfl) w1) fun _ h34=>?_
 refine to_ 7 rfl (wn rfl) κ fun _ hK11=>BD h34 rfl rfl rfl (xs:=[.tmp 32,.tmp 34,.tmp 35]) rfl (cF func69) rfl (vs:=[π K.tg,ν 0,.slice pa_x40 ((Bz (hd+1)).length) pc_x41]) rfl (args:=#[π K.tg,ν 0,.slice pa_x40 ((Bz (hd+1)).length) pc_x41]) rfl (Wi T hb1 hn (s6.pk [4,0,1,2,3,5] rfl) ((s6.get 1 rfl:Own _ _ _ _ _ _ _ _).row)) fun _ v4 w7 r4 h35=>?_
 obtain ⟨tax118,tcx119,rfl,s7⟩:=r4
 refine hK11 _ _ (s7.pk [1,2,3,4,5] rfl) fun hq2=>h35.sk [36,35,34,33,32,31,30,29,6,4,5,3,0] rfl fun h36=>?_
 refine tv1 hq2 h36 8 rfl rfl (v:=ν 0) (fun w1 _=>(Bv h36 rfl rfl) w1) fun _ h37=>?_
 refine h37.sk [2,6,4,5,3,0] rfl fun h38=>?_
 refine wpAnyH_done κ ?_ _
 refine hK10 _ _ ?_
 refine wp_ret ?_
 try simp only [Exit.then,Exit.inBlock]
 refine AW (v:=ν 0) (Cz h38 rfl rfl) h38.defs ?_
 exact ⟨tax118,tcx119,rfl,Sep.tail_un (xs:=[_,_,_]) (s7.pk [3,4,0,5] rfl)⟩
theorem PA {w:World} {R:List Ch} {mx vx fx:Nat} {K:VolK} {ta:Ω} {tc:Nat} {M:MemM} {P:List PtM} {s:BW} {n:Nat} {hd:Int} {sl:Int→Λ} (hS0:Sep w ([Ab vx 66 [π K.tg,π mx,π fx],Ab mx 125 [π K.tg],txP K ta tc M P]++R)) (T:Vst M P s n hd sl) (hb:btw hd 1152921504606846976=true) (hb1:btw (hd+1) 1152921504606846976=true) (hn1:1≤n) (hn:n≤49) :
  CallsR prog 24 #[π vx] w (fun v w'=>∃ ta' tc',v=ν 0∧Sep w' ([Ab vx 66 [π K.tg,π mx,π fx],Ab mx 125 [π K.tg],txP K ta' tc' (vcM M P hd) []]++R)):=by
 have hS:Sep w [Ab vx 66 [π K.tg,π mx,π fx],Ab mx 125 [π K.tg],txP K ta tc M P,Ch.many R]:=Sep.tail_many (xs:=[_,_,_]) hS0;clear hS0
 have hM:=T.v.m
 have hvc:=(T.count hb1 (JY hb1) ω).2.com ω
 refine AB func24 rfl (N:=25) ntmps24 (by show 1≤25;decide) [(0,π vx)] rfl fun _ h1=>sqr fun _ hK3=>mv h1 rfl fun _ h4=>wpList_nil<|hK3 _ _<|sq fun _ hK6=>sqr fun _ hK7=>mvs 2 h4 rfl fun _ h2=>fav h2 rfl (fQ 0) fun _ h3=>ldv h3 hS 0 υ63 rfl rfl rfl rfl fun _ h5=>cl h5 rfl (cF func62) (SK (hS.pk [2,0,1,3] rfl) T.v.l) fun _ v1 w1 r1 h6=>?_
 obtain ⟨pa_x16,pc_x17,rfl,s1⟩:=r1
 refine sv1 h6 rfl (v:=ν (n:Int)) (Jt h6 rfl rfl υ89) fun _ h7=>bv h7 (z:=.bool false) rfl (cEq _ _ _ _ (decide_eq_false ω)) fun _ h8=>h8.sn [10,2,0] rfl fun h9=>hK7 _ _<|wcF h9 rfl rfl<|h9.sk [2,0] rfl fun h10=>wp_skip<|hK6 _ _<|sqr fun _ hK1=>mv h10 rfl fun _ h11=>cl h11 rfl (cF func63) (ZH (s1.pk [1,2,0,3] rfl) T hb hb1 ω) fun _ v2 w2 r2 h12=>?_
 obtain ⟨tax34,tcx35,rfl,s2⟩:=r2
 refine mv h12 rfl fun _ h13=>h13.sn [3,2,0] rfl fun h14=>hK1 _ _<|sq fun _ hK2=>sqr fun _ hK4=>mv h14 rfl fun _ h15=>bv h15 (z:=.bool true) rfl (cEq _ _ _ _ rfl) fun _ h16=>h16.sn [14,3,2,0] rfl fun h17=>hK4 _ _<|wcT h17 rfl rfl<|h17.sk [3,2,0] rfl fun h18=>?_
 refine wp_region_lit<|mvs 2 h18 rfl fun _ h19=>fav h19 rfl (fQ 0) fun _ h20=>ldv h20 s2 0 υ63 rfl rfl rfl rfl fun _ h21=>cl h21 rfl (cF func21) (Ko (s2.pk [2,0,1,3] rfl) hvc.1 hvc.2.1 rfl) fun _ v3 w3 r3 h22=>?_
 obtain ⟨tax62,tcx63,rfl,s3⟩:=r3
 refine h22.sk [19,18,17,16,15,2,0] rfl fun h23=>mv h23 rfl fun _ h24=>h24.sn [3,2,0] rfl fun h25=>hK2 _ _<|sq fun _ hK5=>sqr fun _ hK8=>mv h25 rfl fun _ h26=>bv h26 (z:=.bool false) rfl (cNe _ _ _ _ rfl) fun _ h27=>h27.sn [21,3,2,0] rfl fun h28=>hK8 _ _<|wcF h28 rfl rfl ?_
 refine h28.sk [3,2,0] rfl fun h29=>wp_skip<|hK5 _ _<|sqr fun _ hK9=>mv h29 rfl fun _ h30=>h30.sk [24,3,0] rfl fun h31=>mv h31 rfl fun _ h32=>h32.sn [2,3,0] rfl fun h33=>hK9 _ _<|wp_ret ?_
 try simp only [Exit.then,Exit.inBlock]
 refine AW (v:=ν 0) (Cz h33 rfl rfl) h33.defs ?_
 exact ⟨tax62,tcx63,rfl,Sep.tail_un (xs:=[_,_,_]) (s3.pk [1,2,0,3] rfl)⟩
theorem NT {w:World} {R:List Ch} {mx vx fx:Nat} {K:VolK} {ta:Ω} {tc:Nat} {M:MemM} {P:List PtM} {s:BW} {n:Nat} {hd:Int} {sl:Int→Λ} {c:Int} {q:PartT} {z:SlT} (hS0:Sep w ([Ab vx 66 [π K.tg,π mx,π fx],Ab mx 125 [π K.tg],txP K ta tc M P]++R)) (T:Vst M P s n hd sl) (hq:AT 2 c=some q) (hm:Qg z=true) (hn:n<64) :
  CallsR prog 30 #[π vx,ν c,.agg (slC z).toArray] w (fun v w'=>∃ ta' tc',v=ν 0∧Sep w' ([Ab vx 66 [π K.tg,π mx,π fx],Ab mx 125 [π K.tg],txP K ta' tc' M (stP M P 2 c (slB z))]++R)):=by
 have hS:Sep w [Ab vx 66 [π K.tg,π mx,π fx],Ab mx 125 [π K.tg],txP K ta tc M P,Ch.many R]:=Sep.tail_many (xs:=[_,_,_]) hS0;clear hS0
 have hM:=T.v.m
 refine AB func30 rfl (N:=35) ntmps30 (by show 3≤35;decide) [(0,π vx),(1,ν c),(2,.agg (slC z).toArray)] rfl fun _ h1=>sqr fun _ hK3=>so (wn rfl) fun _ hK1=>JE h1 rfl rfl rfl rfl rfl (z:=(slC z)) rfl hS fun _ g4 w7 h5 s8 _ _=>hK1 _ _ ?_
 refine mv h5 rfl fun _ h2=>wpList_nil<|hK3 _ _<|sqr fun _ hK2=>mv h2 rfl fun _ h3=>cl h3 rfl (cF func40) (AQ s8 (Hx (k:=q.k) (n:=q.n) (a:=q.a) (s:=q.s) hq _)) fun _ v1 w2 r1 h4=>?_
 obtain ⟨rfl,s1⟩:=r1
 refine mvs 3 h4 rfl fun _ h6=>so (wn rfl) fun _ hK4=>AO h6 rfl rfl rfl rfl (z:=[ν 0,ν 0,ν 0,ν 0]) (fun _=>rfl) s1 fun _ g1 w3 h7 s2 _ _=>hK4 _ _ ?_
 refine stA h7 s2 0 rfl rfl rfl κ rfl rfl rfl rfl fun _ w4 h8 s3 _=>mv h8 rfl fun _ h9=>h9.sn [8,7,6,5,0,1,2] rfl fun h10=>hK2 _ _<|sqr fun _ hK5=>sw1 h10 rfl (v:=.agg (slC z).toArray) (rld h10 rfl rfl (ldA υ48 rfl (n:=6) κ (s3.get 1 rfl:Blk _ _ _ _) rfl rfl)) fun _ h11=>cl h11 rfl (cF func52) (Abe s3 hm) fun _ v2 w5 r2 h12=>?_
 obtain ⟨pa_x50,pc_x51,rfl,s4⟩:=r2
 refine mvs 5 h12 rfl fun _ h13=>h13.sn [10,9,8,7,6,5,0,1,2] rfl fun h14=>hK5 _ _<|sq fun _ hK6=>sqr fun _ hK7=>mvs 3 h14 rfl fun _ h15=>sv h15 (wF h15 (E:=false) rfl rfl rfl) rfl rfl rfl (v:=ν 0) (Au h15 rfl rfl) fun _ h16=>sv h16 (wF h16 (E:=false) rfl rfl rfl) rfl rfl rfl (v:=.bool false) (Co h16 rfl rfl rfl (cNe _ _ _ _ rfl)) fun _ h17=>sv1 h17 rfl (v:=.bool false) (BA h17 rfl rfl rfl) fun _ h18=>h18.sn [26,10,9,8,7,6,5,0,1,2] rfl fun h19=>hK7 _ _ ?_
 refine wcF h19 rfl rfl<|h19.sk [10,9,8,7,6,5,0,1,2] rfl fun h20=>wp_skip<|hK6 _ _<|sq fun _ hK8=>?_
 have s5:=s4.drew
 refine wp_region_held_drew (S:=fun w'=>Sep w' [AG 0 5 1 pa_x50 ((slB z)).length pc_x51 (((slB z)).map Ad),Ab g1 82 [ν q.k,ν q.n,ν q.a,ν q.s],Ab g4 48 (slC z),Ab vx 66 [π K.tg,π mx,π fx],Ab mx 125 [π K.tg],Ch.many R]) κ (s5.pk [0,1,2,3,4,6] rfl) (fun hq1=>?_)
 refine tv1 hq1 h20 0 rfl rfl (v:=π vx) (fun w1 _=>(Au h20 rfl rfl) w1) fun _ h21=>?_
 refine tv1 hq1 h21 1 rfl rfl (v:=π vx) (fun w1 _=>(Hl h21 rfl rfl) w1) fun _ h22=>?_
 refine tv1 hq1 h22 2 rfl rfl (v:=π vx) (fun w1 _=>(rfa h22 rfl rfl (fQ 0)) w1) fun _ h23=>?_
 refine tv1 hq1 h23 3 rfl rfl (v:=π K.tg) (fun w1 hSw=>(rld h23 rfl rfl (ldB υ63 rfl (hSw.get 3 rfl:Blk _ _ _ _) rfl))) fun _ h24=>?_
 refine tv1 hq1 h24 4 rfl rfl (v:=.pointer (some ⟨g1,2,none⟩)) (fun w1 _=>(rfa h24 rfl rfl (fQ 2)) w1) fun _ h25=>?_
 refine tv1 hq1 h25 5 rfl rfl (v:=ν q.a) (fun w1 hSw=>(rld h25 rfl rfl (ldB υ3 rfl (hSw.get 1 rfl:Blk _ _ _ _) rfl))) fun _ h26=>?_
 refine tv1 hq1 h26 6 rfl rfl (v:=.slice pa_x50 ((slB z).length) pc_x51) (fun w1 _=>(Au h26 rfl rfl) w1) fun _ h27=>?_
 refine to_ 7 rfl (wn rfl) κ fun _ hK9=>BD h27 rfl rfl rfl (xs:=[.tmp 30,.tmp 32,.tmp 33]) rfl (cF func69) rfl (vs:=[π K.tg,ν q.a,.slice pa_x50 ((slB z).length) pc_x51]) rfl (args:=#[π K.tg,ν q.a,.slice pa_x50 ((slB z).length) pc_x51]) rfl (Wj T hq hm hn (s5.pk [5,0,1,2,3,4,6] rfl) ((s5.get 0 rfl:Own _ _ _ _ _ _ _ _).row)) fun _ v3 w6 r3 h28=>?_
 obtain ⟨tax104,tcx105,rfl,s6⟩:=r3
 refine hK9 _ _ (s6.pk [1,2,3,4,5,6] rfl) fun hq2=>h28.sk [34,33,32,31,30,29,28,27,10,9,8,7,5,0,1,2] rfl fun h29=>?_
 refine tv1 hq2 h29 8 rfl rfl (v:=ν 0) (fun w1 _=>(Bv h29 rfl rfl) w1) fun _ h30=>?_
 refine h30.sk [6,10,9,8,7,5,0,1,2] rfl fun h31=>?_
 refine wpAnyH_done κ ?_ _
 refine hK8 _ _ ?_
 refine wp_ret ?_
 try simp only [Exit.then,Exit.inBlock]
 refine AW (v:=ν 0) (Cz h31 rfl rfl) h31.defs ?_
 exact ⟨tax104,tcx105,rfl,Sep.tail_un (xs:=[_,_,_]) (s6.pk [4,5,0,6] rfl)⟩
theorem Oo {w:World} {R:List Ch} {mx vx fx:Nat} {K:VolK} {ta:Ω} {tc:Nat} {M:MemM} {P:List PtM} {s:BW} {n:Nat} {hd:Int} {sl:Int→Λ} {c:Int} {q:PartT} {z:SlT} (hS0:Sep w ([Ab vx 66 [π K.tg,π mx,π fx],Ab mx 125 [π K.tg],txP K ta tc M P]++R)) (T:Vst M P s n hd sl) (hb:btw hd 1152921504606846976=true) (hb1:btw (hd+1) 1152921504606846976=true) (hq:AT 2 c=some q) (hm:Qg z=true) (hn:n≤48) :
  CallsR prog 70 #[π vx,ν c,.agg (slC z).toArray] w (fun v w'=>∃ ta' tc',v=ν 0∧Sep w' ([Ab vx 66 [π K.tg,π mx,π fx],Ab mx 125 [π K.tg],txP K ta' tc' (vcM M (stP M P 2 c (slB z)) hd) []]++R)):=by
 have hS:Sep w [Ab vx 66 [π K.tg,π mx,π fx],Ab mx 125 [π K.tg],txP K ta tc M P,Ch.many R]:=Sep.tail_many (xs:=[_,_,_]) hS0;clear hS0
 have hM:=T.v.m
 have hvs:=(T.slot hq (Le hm) ω).2
 refine AB func70 rfl (N:=19) ntmps70 (by show 3≤19;decide) [(0,π vx),(1,ν c),(2,.agg (slC z).toArray)] rfl fun _ h1=>sqr fun _ hK3=>so (wn rfl) fun _ hK1=>JE h1 rfl rfl rfl rfl rfl (z:=(slC z)) rfl hS fun _ g4 w7 h5 s8 _ _=>hK1 _ _ ?_
 refine mv h5 rfl fun _ h2=>wpList_nil<|hK3 _ _<|sq fun _ hK2=>sqr fun _ hK4=>mvs 2 h2 rfl fun _ h3=>sw1 h3 rfl (v:=.agg (slC z).toArray) (rld h3 rfl rfl (ldA υ48 rfl (n:=6) κ (s8.get 0 rfl:Blk _ _ _ _) rfl rfl)) fun _ h4=>cl h4 rfl (cF func30) (NT (z:=z) (s8.pk [1,2,3,0,4] rfl) T hq hm ω) fun _ v1 w1 r1 h6=>?_
 obtain ⟨tax22,tcx23,rfl,s1⟩:=r1
 refine mv h6 rfl fun _ h7=>h7.sn [7,6,5,0,1,2] rfl fun h8=>hK4 _ _<|sqr fun _ hK5=>mv h8 rfl fun _ h9=>bv h9 (z:=.bool false) rfl (cNe _ _ _ _ rfl) fun _ h10=>h10.sn [13,7,6,5,0,1,2] rfl fun h11=>hK5 _ _<|wcF h11 rfl rfl<|h11.sk [7,6,5,0,1,2] rfl fun h12=>?_
 refine wp_skip<|hK2 _ _<|sqr fun _ hK6=>mv h12 rfl fun _ h13=>cl h13 rfl (cF func24) (PA s1 hvs hb hb1 ω ω) fun _ v2 w2 r2 h14=>?_
 obtain ⟨tax44,tcx45,rfl,s2⟩:=r2
 refine h14.sk [18,17,7,5,0,1,2] rfl fun h15=>mv h15 rfl fun _ h16=>h16.sn [6,7,5,0,1,2] rfl fun h17=>hK6 _ _<|wp_ret ?_
 try simp only [Exit.then,Exit.inBlock]
 refine AW (v:=ν 0) (Cz h17 rfl rfl) h17.defs ?_
 exact ⟨tax44,tcx45,rfl,Sep.tail_un (xs:=[_,_,_]) (s2.pk [0,1,2,4] rfl)⟩
theorem ZR {w:World} {R:List Ch} {mx vx fx:Nat} {K:VolK} {ta:Ω} {tc:Nat} {M:MemM} {P:List PtM} {s:BW} {n:Nat} {hd:Int} {sl:Int→Λ} {c:Int} {q:PartT} {z:SlT} (hS0:Sep w ([Ab vx 66 [π K.tg,π mx,π fx],Ab mx 125 [π K.tg],txP K ta tc M P]++R)) (T:Vst M P s n hd sl) (hb:btw hd 1152921504606846976=true) (hb1:btw (hd+1) 1152921504606846976=true) (hq:AT 2 c=some q) (hsl:slR M P c=z∧slE M P c=0) (he:0≤z.e∧z.e≤1000) (hm:Qg (KM z)=true) (hn:n≤48) :
  CallsR prog 31 #[π vx,ν c] w (fun v w'=>∃ ta' tc',v=ν 0∧Sep w' ([Ab vx 66 [π K.tg,π mx,π fx],Ab mx 125 [π K.tg],txP K ta' tc' (vcM M (stP M P 2 c (slB (KM z))) hd) []]++R)):=by
 have hS:Sep w [Ab vx 66 [π K.tg,π mx,π fx],Ab mx 125 [π K.tg],txP K ta tc M P,Ch.many R]:=Sep.tail_many (xs:=[_,_,_]) hS0;clear hS0
 have hM:=T.v.m
 refine AB func31 rfl (N:=28) ntmps31 (by show 2≤28;decide) [(0,π vx),(1,ν c)] rfl fun _ h1=>sqr fun _ hK3=>mv h1 rfl fun _ h4=>wpList_nil<|hK3 _ _<|sqr fun _ hK6=>mvs 2 h4 rfl fun _ h9=>cl h9 rfl (cF func12) (Ph hS hM hsl) fun _ v1 w1 r1 h2=>?_
 obtain ⟨rfl,s1⟩:=r1
 refine mvs 3 h2 rfl fun _ h3=>so (wn rfl) fun _ hK1=>AO h3 rfl rfl rfl rfl (z:=[ν 0,ν 0,ν 0,ν 0,ν 0,ν 0]) (fun _=>rfl) s1 fun _ g1 w2 h5 s2 _ _=>hK1 _ _ ?_
 refine stA h5 s2 0 rfl rfl rfl κ rfl rfl rfl rfl fun _ w3 h6 s3 _=>mv h6 rfl fun _ h7=>h7.sn [6,5,4,0,1] rfl fun h8=>hK6 _ _<|sq fun _ hK2=>sqr fun _ hK4=>mv h8 rfl fun _ h10=>bv h10 (z:=.bool false) rfl (cNe _ _ _ _ rfl) fun _ h11=>h11.sn [14,6,5,4,0,1] rfl fun h12=>hK4 _ _<|wcF h12 rfl rfl ?_
 refine h12.sk [6,5,4,0,1] rfl fun h13=>wp_skip<|hK2 _ _<|sq fun _ hK5=>sqr fun _ hK7=>fav h13 rfl (fQ 0) fun _ h14=>ldv h14 s3 0 υ3 rfl rfl rfl rfl fun _ h15=>bv h15 (z:=.bool false) rfl (cGe _ _ _ _ (decide_eq_false ω)) fun _ h16=>h16.sn [18,6,5,4,0,1] rfl fun h17=>hK7 _ _<|wcF h17 rfl rfl<|h17.sk [6,5,4,0,1] rfl fun h18=>?_
 refine wp_skip<|hK5 _ _<|sqr fun _ hK8=>fav h18 rfl (fQ 0) fun _ h19=>ldv h19 s3 0 υ3 rfl rfl rfl rfl fun _ h20=>bv h20 (z:=ν (z.e+1)) rfl (CT _ _ _ ω ω ω) fun _ h21=>fav h21 rfl (fQ 0) fun _ h22=>st1 h22 s3 0 rfl rfl κ rfl rfl rfl rfl fun _ w4 h23 s4 _=>fav h23 rfl (fQ 1) fun _ h24=>st1 h24 s4 0 rfl rfl κ rfl rfl rfl rfl fun _ w5 h25 s5 _=>h25.sk [6,5,4,0,1] rfl fun h26=>?_
 refine wpList_nil<|hK8 _ _<|sqr fun _ hK9=>mvs 2 h26 rfl fun _ h27=>sw1 h27 rfl (v:=.agg (slC (⟨z.e+1,0,z.r,z.er,z.i,z.wr⟩:SlT)).toArray) (rld h27 rfl rfl (ldA υ48 rfl (n:=6) κ (s5.get 0 rfl:Blk _ _ _ _) rfl rfl)) fun _ h28=>cl h28 rfl (cF func70) (Oo (z:=(KM z)) (s5.pk [1,2,3,0,4] rfl) T hb hb1 hq hm ω) fun _ v2 w6 r2 h29=>?_
 obtain ⟨tax90,tcx91,rfl,s6⟩:=r2
 refine h29.sk [27,26,25,24,6,5,0,1] rfl fun h30=>mv h30 rfl fun _ h31=>h31.sn [4,6,5,0,1] rfl fun h32=>hK9 _ _<|wp_ret ?_
 try simp only [Exit.then,Exit.inBlock]
 refine AW (v:=ν 0) (Cz h32 rfl rfl) h32.defs ?_
 exact ⟨tax90,tcx91,rfl,Sep.tail_un (xs:=[_,_,_]) (s6.pk [0,1,2,4] rfl)⟩
theorem Uu {w:World} {R:List Ch} {mx vx fx:Nat} {K:VolK} (hS0:Sep w ([Ab vx 66 [π K.tg,π mx,π fx]]++R))  :
  CallsR prog 10 #[π vx] w (fun v w'=>v=π mx∧Sep w' ([Ab vx 66 [π K.tg,π mx,π fx]]++R)):=by
 have hS:Sep w [Ab vx 66 [π K.tg,π mx,π fx],Ch.many R]:=Sep.tail_many (xs:=[_]) hS0;clear hS0
 refine AB func10 rfl (N:=7) ntmps10 (by show 1≤7;decide) [(0,π vx)] rfl fun _ h1=>sqr fun _ hK3=>mv h1 rfl fun _ h4=>wpList_nil<|hK3 _ _<|sqr fun _ hK6=>mvs 2 h4 rfl fun _ h9=>fav h9 rfl (fQ 1) fun _ h2=>ldv h2 hS 0 υ42 rfl rfl rfl rfl fun _ h3=>h3.sk [6,5,4,3,0] rfl fun h5=>mv h5 rfl fun _ h6=>?_
 refine h6.sn [2,0] rfl fun h7=>hK6 _ _<|wp_ret ?_
 try simp only [Exit.then,Exit.inBlock]
 refine AW (v:=π mx) (Cz h7 rfl rfl) h7.defs ?_
 exact ⟨rfl,Sep.tail_un (xs:=[_]) hS⟩
theorem Zj {w:World} {R:List Ch} {mx vx fx:Nat} {K:VolK} (hS0:Sep w ([Ab vx 66 [π K.tg,π mx,π fx]]++R))  :
  CallsR prog 22 #[π vx] w (fun v w'=>v=π fx∧Sep w' ([Ab vx 66 [π K.tg,π mx,π fx]]++R)):=by
 have hS:Sep w [Ab vx 66 [π K.tg,π mx,π fx],Ch.many R]:=Sep.tail_many (xs:=[_]) hS0;clear hS0
 refine AB func22 rfl (N:=7) ntmps22 (by show 1≤7;decide) [(0,π vx)] rfl fun _ h1=>sqr fun _ hK3=>mv h1 rfl fun _ h4=>wpList_nil<|hK3 _ _<|sqr fun _ hK6=>mvs 2 h4 rfl fun _ h9=>fav h9 rfl (fQ 2) fun _ h2=>ldv h2 hS 0 υ64 rfl rfl rfl rfl fun _ h3=>h3.sk [6,5,4,3,0] rfl fun h5=>mv h5 rfl fun _ h6=>?_
 refine h6.sn [2,0] rfl fun h7=>hK6 _ _<|wp_ret ?_
 try simp only [Exit.then,Exit.inBlock]
 refine AW (v:=π fx) (Cz h7 rfl rfl) h7.defs ?_
 exact ⟨rfl,Sep.tail_un (xs:=[_]) hS⟩
end
section
theorem SP {W w:World} {B:Nat} {a:Ω} {c:Nat} {xs:Λ} (h:RowB W a c xs) (b:Below B W w∧B≤W.heap.size) (hB:B=W.heap.size):RowB w a c xs:=by subst hB;exact Row.mono h b.1
theorem Rb {M:MemM} {k:Nat} {b:Λ} (hM:M.V.length=23168) (h:k+b.length≤23168):(FQ M k b).V.length=23168:=by
 have e:(FQ M k b).V=splice M.V k b:=rfl
 rw [e];unfold splice
 rw [List.length_append,List.length_append,List.length_take,List.length_drop];omega
theorem TW {M:MemM} {a n:Int} (h:M.V.length=23168) (hz:0≤a∧0≤n∧a≤23168-n):inM M a n=true:=by unfold inM;rw [decide_eq_true_iff,h];exact hz
theorem Zc {w:World} {R:List Ch} {g v d p:Nat} {M:MemM} (hS:Sep w (Ca g v d p M::R)) {k n:Nat} {a:Ω} {c:Nat} {b:Λ} (hr:RowB w a c b) (hn:b.length=n) (hM:M.V.length=23168) (h:k+n≤23168) :
  CallsR prog 26 #[pG g,ν (k:Int),.slice a n c] w (fun x w'=>x=ν 0∧Sep w' (Ca g v d p (FQ M k b)::R)):=by
 subst hn
 exact Abx hS hr (TW hM ω) (by unfold Ec;omega)
structure N17 where
 sa:Ω
 sc:Nat
 la:Ω
 lc:Nat
 L:List Value
theorem Abs (z:SlT):(slC z).length=6:=rfl
def idV (x:Value):List Value:=[x]
theorem OD (x:Value):(idV x).length=1:=rfl
theorem Aem:ElemT prog 115 48 6 48:=Lv υ115 (z:=.agg #[ν 0,ν 0,ν 0,ν 0,ν 0,ν 0]) κ rfl ω
theorem WE:ElemT prog 116 22 1 24:=Lv υ116 (z:=.slice none 0 0) κ rfl ω
theorem Agl {k:Nat} (h:k<4):btw (k:Int) 1152921504606846976=true:=by unfold btw;simp;omega
theorem Aev {k:Nat} (h:k<4):btw ((k:Int)+1) 1152921504606846976=true:=by unfold btw;simp;omega
theorem Nl {w:World} {R:List Ch} {mx vx fx:Nat} {K:VolK} {ta:Ω} {tc:Nat} {M:MemM} {P:List PtM} {s:BW} {n:Nat} {hd:Int} {sl:Int→Λ} {M':MemM} (hS0:Sep w ([Ab vx 66 [π K.tg,π mx,π fx],Ab mx 125 [π K.tg],txP K ta tc M P]++R)) (T:Vst M P s n hd sl) (hb:btw hd 1152921504606846976=true) (hb1:btw (hd+1) 1152921504606846976=true) (hn1:1≤n) (hn:n≤49) (hM':M'=vcM M P hd):CallsR prog 24 #[π vx] w (fun v w'=>∃ ta' tc',v=ν 0∧Sep w' ([Ab vx 66 [π K.tg,π mx,π fx],Ab mx 125 [π K.tg],txP K ta' tc' M' []]++R)):=by
 subst hM';exact PA hS0 T hb hb1 hn1 hn
theorem Xp {w:World} {R:List Ch} {mx vx fx:Nat} {K:VolK} {ta:Ω} {tc:Nat} {M:MemM} {P:List PtM} {s:BW} {n:Nat} {hd:Int} {sl:Int→Λ} {c:Int} {q:PartT} {z:SlT} {M':MemM} (hS0:Sep w ([Ab vx 66 [π K.tg,π mx,π fx],Ab mx 125 [π K.tg],txP K ta tc M P]++R)) (T:Vst M P s n hd sl) (hb:btw hd 1152921504606846976=true) (hb1:btw (hd+1) 1152921504606846976=true) (hq:AT 2 c=some q) (hsl:slR M P c=z∧slE M P c=0) (he:0≤z.e∧z.e≤1000) (hm:Qg (KM z)=true) (hn:n≤48) (hM':M'=vcM M (stP M P 2 c (slB (KM z))) hd):CallsR prog 31 #[π vx,ν c] w (fun v w'=>∃ ta' tc',v=ν 0∧Sep w' ([Ab vx 66 [π K.tg,π mx,π fx],Ab mx 125 [π K.tg],txP K ta' tc' M' []]++R)):=by
 subst hM';exact ZR hS0 T hb hb1 hq hsl he hm hn
def Ea:SlT:=⟨1,0,0,0,0,0⟩
theorem Aal:AT 2 1=some ⟨2,1,64,64⟩:=κ
theorem Acb:rdS ((fun d=>if d=(1:Int) then slB Ea else (fun _=>AK) d) 1)=Ea∧rsE ((fun d=>if d=(1:Int) then slB Ea else (fun _=>AK) d) 1)=0:=⟨κ,by decide +kernel⟩
theorem Acc:rdS ((fun d=>if d=(1:Int) then slB (KM Ea) else (fun d=>if d=(1:Int) then slB Ea else (fun _=>AK) d) d) 1)=KM Ea∧rsE ((fun d=>if d=(1:Int) then slB (KM Ea) else (fun d=>if d=(1:Int) then slB Ea else (fun _=>AK) d) d) 1)=0:=⟨κ,by decide +kernel⟩
theorem Vp {W w:World} {R:List Ch} {px vx rp:Nat} {g v d p:Nat} {M:MemM} {a0:Ω} {c0 n9 k:Nat} {xs:Λ} (hS0:Sep w ([Dh W W.heap.size,Ab px 35 [π g,π vx,π rp],Ca g v d p M]++R)) (hM:M.V.length=23168) (hrow:RowB W a0 c0 xs) (hxn:xs.length=n9) (hk:k+n9≤23168) :
  CallsR prog 8 #[π px,ν (k:Int),.slice a0 n9 c0] w (fun v_ w'=>∃ M':MemM,v_=.tuple #[]∧Sep w' ([Dh W W.heap.size,Ab px 35 [π g,π vx,π rp],Ca g v d p M']++R)∧M'.V.length=23168):=by
 have hS:Sep w [Dh W W.heap.size,Ab px 35 [π g,π vx,π rp],Ca g v d p M,Ch.many R]:=Sep.tail_many (xs:=[_,_,_]) hS0;clear hS0
 have hM1:(FQ M k xs).V.length=23168:=Rb hM ω
 refine AB func8 rfl (N:=26) ntmps8 (by show 3≤26;decide) [(0,π px),(1,ν (k:Int)),(2,.slice a0 n9 c0)] rfl fun _ h1=>sqr fun _ hK3=>mvs 2 h1 rfl fun _ h6=>fav h6 rfl (fQ 0) fun _ h8=>ldv h8 hS 1 υ23 rfl rfl rfl rfl fun _ h2=>mvs 2 h2 rfl fun _ h3=>cl h3 rfl (cF func26) (Zc (hS.pk [2,0,1,3] rfl) (SP hrow (hS.get 0 rfl:Below _ _ _∧_) rfl) hxn hM ω) fun _ v1 w1 r1 h4=>?_
 obtain ⟨rfl,s1⟩:=r1
 refine h4.sn [0,1,2] rfl fun h5=>hK3 _ _<|sqr fun _ hK1=>mvs 2 h5 rfl fun _ h7=>fav h7 rfl (fQ 0) fun _ h9=>ldv h9 s1 2 υ23 rfl rfl rfl rfl fun _ h10=>mvs 2 h10 rfl fun _ h11=>sv1 h11 rfl (v:=ν (n9:Int)) (Jt h11 rfl rfl υ22) fun _ h12=>cl h12 rfl (cF func27) (ZX s1 (TW hM1 ω) (by unfold Ec;omega) (by unfold Ec;omega)) fun _ v2 w2 r2 h13=>?_
 obtain ⟨rfl,s2⟩:=r2
 refine h13.sn [0,1,2] rfl fun h14=>hK1 _ _<|wp_region_lit<|mvs 2 h14 rfl fun _ h15=>fav h15 rfl (fQ 0) fun _ h16=>ldv h16 s2 2 υ23 rfl rfl rfl rfl fun _ h17=>cl h17 rfl (cF func28) (ZS s2) fun _ v3 w3 r3 h18=>?_
 obtain ⟨fv_x55,rfl,s3⟩:=r3
 refine h18.sk [0,1,2] rfl fun h19=>wpList_nil ?_
 refine Agq (v:=.tuple #[]) (fun _=>Ag5 rfl _) h19.defs ?_
 exact ⟨_,rfl,Sep.tail_un (xs:=[_,_,_]) (s3.pk [1,2,0,3] rfl),hM1⟩
theorem Aau {w:World} {R:List Ch} {hd0:Int} (hS0:Sep w ([]++R)) :
  CallsR prog 25 #[ν hd0] w (fun v w'=>∃ rp,v=π rp∧Sep w' ([]++R)):=by
 have hS:Sep w [Ch.many R]:=Sep.tail_many (xs:=[]) hS0;clear hS0
 refine AB func25 rfl (N:=34) ntmps25 (by show 1≤34;decide) [(0,ν hd0)] rfl fun _ h1=>sqr fun _ hK3=>mv h1 rfl fun _ h4=>wpList_nil<|hK3 _ _<|sqr fun _ hK6=>mv h4 rfl fun _ h7=>so (wn rfl) fun _ hK1=>Cw h7 rfl rfl rfl (E:=9) (xs:=[(0,.const (σ [])),(1,.const (σ [])),(2,.const (σ [])),(3,.const (σ []))]) rfl (vs:=[(0,σ []),(1,σ []),(2,σ []),(3,σ [])]) rfl (z:=[σ [],σ [],σ [],σ []]) (fun _=>κ) hS fun _ g9 w2 h2 s1 _ _=>hK1 _ _ ?_
 refine bu h2 (v:=.agg #[.slice none 0 0,ν hd0,.slice (some ⟨g9,0,none⟩) 4 4,.slice none 0 0]) rfl (fun w=>κ) fun _ h3=>so (wn rfl) fun _ hK2=>JE h3 rfl rfl rfl rfl rfl (z:=[.slice none 0 0,ν hd0,.slice (some ⟨g9,0,none⟩) 4 4,.slice none 0 0]) rfl s1 fun _ g1 w3 h5 s2 _ _=>hK2 _ _ ?_
 refine mv h5 rfl fun _ h6=>h6.sn [3,2,0] rfl fun h8=>hK6 _ _<|sq fun _ hK4=>sqr fun _ hK5=>mv h8 rfl fun _ h9=>wpList_nil<|hK5 _ _<|wp_block ?_
 have s3:=(s2.ownNil 0 48 6).ownNil 0 22 1
 refine Rm (fun (k:Nat) (V:N17) a' w'=>Kn 34 [(4,ν (k:Int)),(3,π g1),(2,.pointer none),(0,ν hd0)] a'∧Sep w' [AG 0 22 1 V.la V.L.length V.lc (V.L.flatMap idV),AG 0 48 6 V.sa (List.replicate k sl0).length V.sc ((List.replicate k sl0).flatMap slC),Ab g1 118 [.slice V.sa ((List.replicate k sl0).length) V.sc,ν hd0,.slice (some ⟨g9,0,none⟩) 4 4,.slice V.la V.L.length V.lc],Ab g9 9 [σ [],σ [],σ [],σ []],Ch.many R]∧(k≤8)∧(V.L.length=k)) (fun (k:Nat) (V:N17)=>8-k) 0 ⟨none,0,none,0,[]⟩ ⟨h9.subs rfl,(show Sep _ [AG 0 22 1 none ([]:List Value).length 0 (([]:List Value).flatMap idV),AG 0 48 6 none (List.replicate 0 sl0).length 0 ((List.replicate 0 sl0).flatMap slC),Ab g1 118 [.slice none 0 0,ν hd0,.slice (some ⟨g9,0,none⟩) 4 4,.slice none 0 0],Ab g9 9 [σ [],σ [],σ [],σ []],Ch.many R] from s3),Nat.zero_le _,rfl⟩ ?_
 rintro k1 V43 a1 w4 ⟨h10,s4,hk40,hl41⟩ K1 hK7
 refine sq fun _ hK8=>sqr fun _ hK9=>mv h10 rfl fun _ h11=>bv h11 (z:=.bool (decide ((k1:Int)<8))) rfl (cLt _ _ _ _ rfl) fun _ h12=>h12.sn [10,4,3,2,0] rfl fun h13=>hK9 _ _ ?_
 rcases bC (decide ((k1:Int)<8)) with hc1 | hc1
 ·skip
  have hp1:(k1:Int)<8:=(dT hc1)
  refine wcT h13 rfl hc1<|h13.sk [4,3,2,0] rfl fun h14=>wp_skip<|hK8 _ _<|sq fun _ hK10=>wp_block ?_
  refine sqr fun _ hK11=>mvs 3 h14 rfl fun _ h15=>fav h15 rfl (fQ 0) fun _ h16=>ldv h16 s4 2 υ115 rfl rfl rfl rfl fun _ h17=>bu h17 (v:=.agg (slC sl0).toArray) rfl (fun w=>κ) fun _ h18=>so (wn rfl) fun _ hK12=>Cw h18 rfl rfl rfl (E:=48) (xs:=[(0,.tmp 18)]) rfl (vs:=[(0,.agg (slC sl0).toArray)]) rfl (z:=[ν 0,ν 0,ν 0,ν 0,ν 0,ν 0]) (fun _=>κ) s4 fun _ g2 w5 h19 s5 _ _=>hK12 _ _ ?_
  refine so (wn rfl) fun _ hK13=>UA Abs h19 rfl rfl rfl rfl Aem s5 2 rfl rfl 0 (y:=sl0) rfl rfl rfl (by decide) (by first | (rw [List.length_replicate];omega) | omega) (L':=List.replicate (k1+1) sl0) (by rw [List.replicate_succ']) fun _ p76 c77 w6 h20 s6=>hK13 _ _ ?_
  have s7:Sep w6 [AG 0 22 1 V43.la V43.L.length V43.lc (V43.L.flatMap idV),AG 0 48 6 p76 (List.replicate (k1+1) sl0).length c77 ((List.replicate (k1+1) sl0).flatMap slC),Ab g1 118 [.slice V43.sa ((List.replicate k1 sl0).length) V43.sc,ν hd0,.slice (some ⟨g9,0,none⟩) 4 4,.slice V43.la V43.L.length V43.lc],Ab g9 9 [σ [],σ [],σ [],σ []],Ch.many R]:=s6.pk [1,2,3,4,5] rfl;clear s6
  refine mv h20 rfl fun _ h21=>fav h21 rfl (fQ 0) fun _ h22=>st1 h22 s7 2 rfl rfl κ rfl rfl rfl rfl fun _ w7 h23 s8 _=>h23.sn [4,3,2,0] rfl fun h24=>hK11 _ _ ?_
  have s9:=s8.drew
  refine wp_region_held_drew (S:=fun w'=>Sep w' [AG 0 48 6 p76 (List.replicate (k1+1) sl0).length c77 ((List.replicate (k1+1) sl0).flatMap slC),Ab g9 9 [σ [],σ [],σ [],σ []],Ch.many R]) κ (s9.pk [1,3,4] rfl) (fun hq1=>?_)
  refine tv1 hq1 h24 0 rfl rfl (v:=π g1) (fun w1 _=>(Au h24 rfl rfl) w1) fun _ h25=>?_
  refine tv1 hq1 h25 1 rfl rfl (v:=π g1) (fun w1 _=>(Au h25 rfl rfl) w1) fun _ h26=>?_
  refine tv1 hq1 h26 2 rfl rfl (v:=π g1) (fun w1 _=>(Hl h26 rfl rfl) w1) fun _ h27=>?_
  refine tv1 hq1 h27 3 rfl rfl (v:=.pointer (some ⟨g1,3,none⟩)) (fun w1 _=>(rfa h27 rfl rfl (fQ 3)) w1) fun _ h28=>?_
  refine wpAnyH_ready (rs:=[4,5]) κ (by simp) (toc rfl (wn rfl) (fun K2 hK14=>?_) (toc rfl (wn rfl) (fun K2 hK14=>?_) AllReadyH.nil))
  ·skip
   refine Ne h28 rfl rfl rfl (v:=.slice V43.la V43.L.length V43.lc) (w':=w7.drew) ((rld h28 rfl rfl (ldB υ116 rfl (s9.get 2 rfl:Blk _ _ _ _) rfl))) fun _ h29=>hK14 _ _ (s9.pk [1,3,4] rfl) fun hq2=>?_
   refine to_ 5 rfl (wn rfl) κ fun _ hK15=>IN Eg (by decide) h29 rfl rfl rfl rfl υ22 (z:=.int .u8 0) (n:=1024) κ (m:=(0:UInt8)) rfl rfl rfl (by decide) s9 fun _ g3 w8 h30 s10 _ _=>?_
   refine hK15 _ _ (s10.pk [2,4,5] rfl) fun hq3=>?_
   refine to_ 6 rfl (wn rfl) κ fun _ hK16=>Cw h30 rfl rfl rfl (E:=22) (xs:=[(0,.tmp 28)]) rfl (vs:=[(0,.slice (some ⟨g3,0,none⟩) 1024 1024)]) rfl (z:=[.slice (some ⟨g3,0,none⟩) 1024 1024]) (fun _=>κ) s10 fun _ g4 w9 h31 s11 _ _=>?_
   refine hK16 _ _ (s11.pk [3,5,6] rfl) fun hq4=>?_
   refine to_ 7 rfl (wn rfl) κ fun _ hK17=>UA OD h31 rfl rfl rfl rfl WE s11 2 rfl rfl 0 (y:=(Value.slice (some ⟨g3,0,none⟩) 1024 1024)) rfl rfl rfl (by decide) (by first | (rw [List.length_replicate];omega) | omega) (L':=V43.L++[(Value.slice (some ⟨g3,0,none⟩) 1024 1024)]) rfl fun _ p128 c129 w10 h32 s12=>?_
   have s13:Sep w10 [Ab g3 5 ((List.replicate 1024 (0:UInt8)).flatMap In),AG 0 22 1 p128 (V43.L++[(Value.slice (some ⟨g3,0,none⟩) 1024 1024)]).length c129 ((V43.L++[(Value.slice (some ⟨g3,0,none⟩) 1024 1024)]).flatMap idV),AG 0 48 6 p76 (List.replicate (k1+1) sl0).length c77 ((List.replicate (k1+1) sl0).flatMap slC),Ab g1 118 [.slice p76 ((List.replicate (k1+1) sl0).length) c77,ν hd0,.slice (some ⟨g9,0,none⟩) 4 4,.slice V43.la V43.L.length V43.lc],Ab g9 9 [σ [],σ [],σ [],σ []],Ch.many R]:=s12.pk [1,2,3,4,5,6] rfl;clear s12
   refine hK17 _ _ (s13.pk [2,4,5] rfl) fun hq5=>?_
   refine tv1 hq5 h32 8 rfl rfl (v:=π g1) (fun w1 _=>(Hl h32 rfl rfl) w1) fun _ h33=>?_
   refine tv1 hq5 h33 9 rfl rfl (v:=.pointer (some ⟨g1,3,none⟩)) (fun w1 _=>(rfa h33 rfl rfl (fQ 3)) w1) fun _ h34=>?_
   refine to_ 10 rfl (wn rfl) κ fun _ hK18=>FS h34 rfl rfl s13 3 rfl rfl rfl [.slice p128 ((V43.L++[(Value.slice (some ⟨g3,0,none⟩) 1024 1024)]).length) c129] rfl κ rfl (by show 3+1≤4;decide) (L':=[.slice p76 ((List.replicate (k1+1) sl0).length) c77,ν hd0,.slice (some ⟨g9,0,none⟩) 4 4,.slice p128 ((V43.L++[(Value.slice (some ⟨g3,0,none⟩) 1024 1024)]).length) c129]) rfl (cs':=[Ab g3 5 ((List.replicate 1024 (0:UInt8)).flatMap In),AG 0 22 1 p128 (V43.L++[(Value.slice (some ⟨g3,0,none⟩) 1024 1024)]).length c129 ((V43.L++[(Value.slice (some ⟨g3,0,none⟩) 1024 1024)]).flatMap idV),AG 0 48 6 p76 (List.replicate (k1+1) sl0).length c77 ((List.replicate (k1+1) sl0).flatMap slC),Ab g1 118 [.slice p76 ((List.replicate (k1+1) sl0).length) c77,ν hd0,.slice (some ⟨g9,0,none⟩) 4 4,.slice p128 ((V43.L++[(Value.slice (some ⟨g3,0,none⟩) 1024 1024)]).length) c129],Ab g9 9 [σ [],σ [],σ [],σ []],Ch.many R]) rfl fun _ w11 h35 s14 _=>?_
   refine hK18 _ _ (s14.pk [2,4,5] rfl) fun hq6=>h35.sk [4,3,2,0] rfl fun h36=>?_
   refine wpAnyH_done κ ?_ _
   refine hK10 _ _ ?_
   refine wp_region_lit<|mv h36 rfl fun _ h37=>bv h37 (z:=ν ((k1+1:Nat):Int)) rfl (CT _ _ _ ω ω ω) fun _ h38=>h38.sk [12,11,3,2,0] rfl fun h39=>mv h39 rfl fun _ h40=>h40.sk [4,3,2,0] rfl fun h41=>wpList_nil ?_
   have hl9:(V43.L++[(Value.slice (some ⟨g3,0,none⟩) 1024 1024)]).length=k1+1:=by rw [List.length_append,hl41];rfl
   have hl8:(List.replicate (k1+1) sl0).length=k1+1:=List.length_replicate
   exact hK7 (k1+1) (⟨p76,c77,p128,c129,V43.L++[(Value.slice (some ⟨g3,0,none⟩) 1024 1024)]⟩:N17) _ _ ⟨h41.subs rfl,(show Sep _ [AG 0 22 1 p128 (V43.L++[(Value.slice (some ⟨g3,0,none⟩) 1024 1024)]).length c129 ((V43.L++[(Value.slice (some ⟨g3,0,none⟩) 1024 1024)]).flatMap idV),AG 0 48 6 p76 (List.replicate (k1+1) sl0).length c77 ((List.replicate (k1+1) sl0).flatMap slC),Ab g1 118 [.slice p76 ((List.replicate (k1+1) sl0).length) c77,ν hd0,.slice (some ⟨g9,0,none⟩) 4 4,.slice p128 ((V43.L++[(Value.slice (some ⟨g3,0,none⟩) 1024 1024)]).length) c129],Ab g9 9 [σ [],σ [],σ [],σ []],Ch.many R] from (s14.pk [1,2,3,4,5] rfl)),ω,hl9⟩ ω
  ·skip
   refine IN Eg (by decide) h28 rfl rfl rfl rfl υ22 (z:=.int .u8 0) (n:=1024) κ (m:=(0:UInt8)) rfl rfl rfl (by decide) s9 fun _ g5 w12 h42 s15 _ _=>hK14 _ _ (s15.pk [2,4,5] rfl) fun hq7=>?_
   refine wpAnyH_ready (rs:=[4,6]) κ (by simp) (toc rfl (wn rfl) (fun K3 hK19=>?_) (toc rfl (wn rfl) (fun K3 hK19=>?_) AllReadyH.nil))
   ·skip
    refine Ne h42 rfl rfl rfl (v:=.slice V43.la V43.L.length V43.lc) (w':=w12) ((rld h42 rfl rfl (ldB υ116 rfl (s15.get 3 rfl:Blk _ _ _ _) rfl))) fun _ h43=>hK19 _ _ (s15.pk [2,4,5] rfl) fun hq8=>?_
    refine to_ 6 rfl (wn rfl) κ fun _ hK20=>Cw h43 rfl rfl rfl (E:=22) (xs:=[(0,.tmp 28)]) rfl (vs:=[(0,.slice (some ⟨g5,0,none⟩) 1024 1024)]) rfl (z:=[.slice (some ⟨g5,0,none⟩) 1024 1024]) (fun _=>κ) s15 fun _ g6 w13 h44 s16 _ _=>?_
    refine hK20 _ _ (s16.pk [3,5,6] rfl) fun hq9=>?_
    refine to_ 7 rfl (wn rfl) κ fun _ hK21=>UA OD h44 rfl rfl rfl rfl WE s16 2 rfl rfl 0 (y:=(Value.slice (some ⟨g5,0,none⟩) 1024 1024)) rfl rfl rfl (by decide) (by first | (rw [List.length_replicate];omega) | omega) (L':=V43.L++[(Value.slice (some ⟨g5,0,none⟩) 1024 1024)]) rfl fun _ p178 c179 w14 h45 s17=>?_
    have s18:Sep w14 [Ab g5 5 ((List.replicate 1024 (0:UInt8)).flatMap In),AG 0 22 1 p178 (V43.L++[(Value.slice (some ⟨g5,0,none⟩) 1024 1024)]).length c179 ((V43.L++[(Value.slice (some ⟨g5,0,none⟩) 1024 1024)]).flatMap idV),AG 0 48 6 p76 (List.replicate (k1+1) sl0).length c77 ((List.replicate (k1+1) sl0).flatMap slC),Ab g1 118 [.slice p76 ((List.replicate (k1+1) sl0).length) c77,ν hd0,.slice (some ⟨g9,0,none⟩) 4 4,.slice V43.la V43.L.length V43.lc],Ab g9 9 [σ [],σ [],σ [],σ []],Ch.many R]:=s17.pk [1,2,3,4,5,6] rfl;clear s17
    refine hK21 _ _ (s18.pk [2,4,5] rfl) fun hq10=>?_
    refine tv1 hq10 h45 8 rfl rfl (v:=π g1) (fun w1 _=>(Hl h45 rfl rfl) w1) fun _ h46=>?_
    refine tv1 hq10 h46 9 rfl rfl (v:=.pointer (some ⟨g1,3,none⟩)) (fun w1 _=>(rfa h46 rfl rfl (fQ 3)) w1) fun _ h47=>?_
    refine to_ 10 rfl (wn rfl) κ fun _ hK22=>FS h47 rfl rfl s18 3 rfl rfl rfl [.slice p178 ((V43.L++[(Value.slice (some ⟨g5,0,none⟩) 1024 1024)]).length) c179] rfl κ rfl (by show 3+1≤4;decide) (L':=[.slice p76 ((List.replicate (k1+1) sl0).length) c77,ν hd0,.slice (some ⟨g9,0,none⟩) 4 4,.slice p178 ((V43.L++[(Value.slice (some ⟨g5,0,none⟩) 1024 1024)]).length) c179]) rfl (cs':=[Ab g5 5 ((List.replicate 1024 (0:UInt8)).flatMap In),AG 0 22 1 p178 (V43.L++[(Value.slice (some ⟨g5,0,none⟩) 1024 1024)]).length c179 ((V43.L++[(Value.slice (some ⟨g5,0,none⟩) 1024 1024)]).flatMap idV),AG 0 48 6 p76 (List.replicate (k1+1) sl0).length c77 ((List.replicate (k1+1) sl0).flatMap slC),Ab g1 118 [.slice p76 ((List.replicate (k1+1) sl0).length) c77,ν hd0,.slice (some ⟨g9,0,none⟩) 4 4,.slice p178 ((V43.L++[(Value.slice (some ⟨g5,0,none⟩) 1024 1024)]).length) c179],Ab g9 9 [σ [],σ [],σ [],σ []],Ch.many R]) rfl fun _ w15 h48 s19 _=>?_
    refine hK22 _ _ (s19.pk [2,4,5] rfl) fun hq11=>h48.sk [4,3,2,0] rfl fun h49=>?_
    refine wpAnyH_done κ ?_ _
    refine hK10 _ _ ?_
    refine wp_region_lit<|mv h49 rfl fun _ h50=>bv h50 (z:=ν ((k1+1:Nat):Int)) rfl (CT _ _ _ ω ω ω) fun _ h51=>h51.sk [12,11,3,2,0] rfl fun h52=>mv h52 rfl fun _ h53=>h53.sk [4,3,2,0] rfl fun h54=>wpList_nil ?_
    have hl9:(V43.L++[(Value.slice (some ⟨g5,0,none⟩) 1024 1024)]).length=k1+1:=by rw [List.length_append,hl41];rfl
    have hl8:(List.replicate (k1+1) sl0).length=k1+1:=List.length_replicate
    exact hK7 (k1+1) (⟨p76,c77,p178,c179,V43.L++[(Value.slice (some ⟨g5,0,none⟩) 1024 1024)]⟩:N17) _ _ ⟨h54.subs rfl,(show Sep _ [AG 0 22 1 p178 (V43.L++[(Value.slice (some ⟨g5,0,none⟩) 1024 1024)]).length c179 ((V43.L++[(Value.slice (some ⟨g5,0,none⟩) 1024 1024)]).flatMap idV),AG 0 48 6 p76 (List.replicate (k1+1) sl0).length c77 ((List.replicate (k1+1) sl0).flatMap slC),Ab g1 118 [.slice p76 ((List.replicate (k1+1) sl0).length) c77,ν hd0,.slice (some ⟨g9,0,none⟩) 4 4,.slice p178 ((V43.L++[(Value.slice (some ⟨g5,0,none⟩) 1024 1024)]).length) c179],Ab g9 9 [σ [],σ [],σ [],σ []],Ch.many R] from (s19.pk [1,2,3,4,5] rfl)),ω,hl9⟩ ω
   ·skip
    refine Cw h42 rfl rfl rfl (E:=22) (xs:=[(0,.tmp 28)]) rfl (vs:=[(0,.slice (some ⟨g5,0,none⟩) 1024 1024)]) rfl (z:=[.slice (some ⟨g5,0,none⟩) 1024 1024]) (fun _=>κ) s15 fun _ g7 w16 h55 s20 _ _=>hK19 _ _ (s20.pk [3,5,6] rfl) fun hq12=>?_
    refine to_ 4 rfl (wn rfl) κ fun _ hK23=>Ne h55 rfl rfl rfl (v:=.slice V43.la V43.L.length V43.lc) (w':=w16) ((rld h55 rfl rfl (ldB υ116 rfl (s20.get 4 rfl:Blk _ _ _ _) rfl))) fun _ h56=>hK23 _ _ (s20.pk [3,5,6] rfl) fun hq13=>?_
    refine to_ 7 rfl (wn rfl) κ fun _ hK24=>UA OD h56 rfl rfl rfl rfl WE s20 2 rfl rfl 0 (y:=(Value.slice (some ⟨g5,0,none⟩) 1024 1024)) rfl rfl rfl (by decide) (by first | (rw [List.length_replicate];omega) | omega) (L':=V43.L++[(Value.slice (some ⟨g5,0,none⟩) 1024 1024)]) rfl fun _ p219 c220 w17 h57 s21=>?_
    have s22:Sep w17 [Ab g5 5 ((List.replicate 1024 (0:UInt8)).flatMap In),AG 0 22 1 p219 (V43.L++[(Value.slice (some ⟨g5,0,none⟩) 1024 1024)]).length c220 ((V43.L++[(Value.slice (some ⟨g5,0,none⟩) 1024 1024)]).flatMap idV),AG 0 48 6 p76 (List.replicate (k1+1) sl0).length c77 ((List.replicate (k1+1) sl0).flatMap slC),Ab g1 118 [.slice p76 ((List.replicate (k1+1) sl0).length) c77,ν hd0,.slice (some ⟨g9,0,none⟩) 4 4,.slice V43.la V43.L.length V43.lc],Ab g9 9 [σ [],σ [],σ [],σ []],Ch.many R]:=s21.pk [1,2,3,4,5,6] rfl;clear s21
    refine hK24 _ _ (s22.pk [2,4,5] rfl) fun hq14=>?_
    refine tv1 hq14 h57 8 rfl rfl (v:=π g1) (fun w1 _=>(Hl h57 rfl rfl) w1) fun _ h58=>?_
    refine tv1 hq14 h58 9 rfl rfl (v:=.pointer (some ⟨g1,3,none⟩)) (fun w1 _=>(rfa h58 rfl rfl (fQ 3)) w1) fun _ h59=>?_
    refine to_ 10 rfl (wn rfl) κ fun _ hK25=>FS h59 rfl rfl s22 3 rfl rfl rfl [.slice p219 ((V43.L++[(Value.slice (some ⟨g5,0,none⟩) 1024 1024)]).length) c220] rfl κ rfl (by show 3+1≤4;decide) (L':=[.slice p76 ((List.replicate (k1+1) sl0).length) c77,ν hd0,.slice (some ⟨g9,0,none⟩) 4 4,.slice p219 ((V43.L++[(Value.slice (some ⟨g5,0,none⟩) 1024 1024)]).length) c220]) rfl (cs':=[Ab g5 5 ((List.replicate 1024 (0:UInt8)).flatMap In),AG 0 22 1 p219 (V43.L++[(Value.slice (some ⟨g5,0,none⟩) 1024 1024)]).length c220 ((V43.L++[(Value.slice (some ⟨g5,0,none⟩) 1024 1024)]).flatMap idV),AG 0 48 6 p76 (List.replicate (k1+1) sl0).length c77 ((List.replicate (k1+1) sl0).flatMap slC),Ab g1 118 [.slice p76 ((List.replicate (k1+1) sl0).length) c77,ν hd0,.slice (some ⟨g9,0,none⟩) 4 4,.slice p219 ((V43.L++[(Value.slice (some ⟨g5,0,none⟩) 1024 1024)]).length) c220],Ab g9 9 [σ [],σ [],σ [],σ []],Ch.many R]) rfl fun _ w18 h60 s23 _=>?_
    refine hK25 _ _ (s23.pk [2,4,5] rfl) fun hq15=>h60.sk [4,3,2,0] rfl fun h61=>?_
    refine wpAnyH_done κ ?_ _
    refine hK10 _ _ ?_
    refine wp_region_lit<|mv h61 rfl fun _ h62=>bv h62 (z:=ν ((k1+1:Nat):Int)) rfl (CT _ _ _ ω ω ω) fun _ h63=>h63.sk [12,11,3,2,0] rfl fun h64=>mv h64 rfl fun _ h65=>h65.sk [4,3,2,0] rfl fun h66=>wpList_nil ?_
    have hl9:(V43.L++[(Value.slice (some ⟨g5,0,none⟩) 1024 1024)]).length=k1+1:=by rw [List.length_append,hl41];rfl
    have hl8:(List.replicate (k1+1) sl0).length=k1+1:=List.length_replicate
    exact hK7 (k1+1) (⟨p76,c77,p219,c220,V43.L++[(Value.slice (some ⟨g5,0,none⟩) 1024 1024)]⟩:N17) _ _ ⟨h66.subs rfl,(show Sep _ [AG 0 22 1 p219 (V43.L++[(Value.slice (some ⟨g5,0,none⟩) 1024 1024)]).length c220 ((V43.L++[(Value.slice (some ⟨g5,0,none⟩) 1024 1024)]).flatMap idV),AG 0 48 6 p76 (List.replicate (k1+1) sl0).length c77 ((List.replicate (k1+1) sl0).flatMap slC),Ab g1 118 [.slice p76 ((List.replicate (k1+1) sl0).length) c77,ν hd0,.slice (some ⟨g9,0,none⟩) 4 4,.slice p219 ((V43.L++[(Value.slice (some ⟨g5,0,none⟩) 1024 1024)]).length) c220],Ab g9 9 [σ [],σ [],σ [],σ []],Ch.many R] from (s23.pk [1,2,3,4,5] rfl)),ω,hl9⟩ ω
 ·skip
  have hp2:¬ ((k1:Int)<8):=(dF hc1)
  refine wcF h13 rfl hc1<|h13.sk [4,3,2,0] rfl fun h67=>wp_exit ?_
  refine hK4 _ _ ?_
  refine sqr fun _ hK26=>mv h67 rfl fun _ h68=>h68.sk [33,4,3,0] rfl fun h69=>mv h69 rfl fun _ h70=>h70.sn [2,4,3,0] rfl fun h71=>hK26 _ _<|wp_ret ?_
  try simp only [Exit.then,Exit.inBlock]
  refine AW (v:=π g1) (Cz h71 rfl rfl) h71.defs ?_
  exact ⟨g1,rfl,Sep.tail_un (xs:=[]) (s4.pk [4] rfl)⟩
theorem UH {w:World} {R:List Ch} (hS0:Sep w ([]++R)) :
  CallsR prog 7 #[] w (fun v_ w'=>∃ (g v d p:Nat) (M:MemM) (px vx rp:Nat),v_=π px∧Sep w' ([Ab px 35 [π g,π vx,π rp],Ca g v d p M]++R)∧M.V.length=23168):=by
 have hS:Sep w [Ch.many R]:=Sep.tail_many (xs:=[]) hS0;clear hS0
 refine AB func7 rfl (N:=69) ntmps7 (by show 0≤69;decide) [] rfl fun _ h1=>sqr fun _ hK3=>mv h1 rfl fun _ h4=>wpList_nil<|hK3 _ _<|sqr fun _ hK6=>cl h4 rfl (cF func4) (Yf hS) fun _ v1 w1 r1 h2=>?_
 obtain ⟨pgx7,pv_x8,pdx9,ppx10,rfl,s1⟩:=r1
 refine mv h2 rfl fun _ h3=>h3.sn [1,0] rfl fun h5=>hK6 _ _<|sq fun _ hK1=>sqr fun _ hK2=>mv h5 rfl fun _ h6=>bv h6 (z:=.bool false) rfl (IO _ υ23 _ _ _) fun _ h7=>mv h7 rfl fun _ h8=>sv h8 (wF h8 (E:=false) rfl rfl rfl) rfl rfl rfl (v:=π pgx7) (Au h8 rfl rfl) fun _ h9=>so (wF h9 (E:=false) rfl rfl rfl) fun _ hK4=>BD h9 rfl rfl rfl (xs:=[.tmp 13]) rfl (cF func6) rfl (vs:=[π pgx7]) rfl (args:=#[π pgx7]) rfl (LH s1) fun _ v2 w2 r2 h10=>hK4 _ _ ?_
 obtain ⟨M_x31,rfl,s2,hVs36,hRd36⟩:=r2
 have hT0:=Ack hVs36 hRd36;have hM0:=hVs36.v.m
 refine sv h10 (wF h10 (E:=false) rfl rfl rfl) rfl rfl rfl (v:=.bool false) (Co h10 rfl rfl rfl (cNe _ _ _ _ rfl)) fun _ h11=>sv1 h11 rfl (v:=.bool false) (BA h11 rfl rfl rfl) fun _ h12=>h12.sn [16,1,0] rfl fun h13=>hK2 _ _<|wcF h13 rfl rfl<|h13.sk [1,0] rfl fun h14=>wp_skip<|hK1 _ _<|sqr fun _ hK5=>mv h14 rfl fun _ h15=>cl h15 rfl (cF func5) (Jj s2 hM0 hT0.snd) fun _ v3 w3 r3 h16=>?_
 obtain ⟨kk_x48,mx_x49,fx_x50,vx_x51,rfl,s3,hKK56⟩:=r3
 refine mvs 5 h16 rfl fun _ h17=>h17.sn [3,2,1,0] rfl fun h18=>hK5 _ _<|sq fun _ hK7=>sqr fun _ hK8=>mv h18 rfl fun _ h19=>bv h19 (z:=.bool false) rfl (IO _ υ25 _ _ _) fun _ h20=>mv h20 rfl fun _ h21=>sv h21 (wF h21 (E:=false) rfl rfl rfl) rfl rfl rfl (v:=ν 0) (Au h21 rfl rfl) fun _ h22=>sv h22 (wF h22 (E:=false) rfl rfl rfl) rfl rfl rfl (v:=.bool false) (Co h22 rfl rfl rfl (cNe _ _ _ _ rfl)) fun _ h23=>sv1 h23 rfl (v:=.bool false) (BA h23 rfl rfl rfl) fun _ h24=>?_
 refine h24.sn [27,3,2,1,0] rfl fun h25=>hK8 _ _<|wcF h25 rfl rfl<|h25.sk [3,2,1,0] rfl fun h26=>wp_skip<|hK7 _ _<|sqr fun _ hK9=>mv h26 rfl fun _ h27=>cl h27 rfl (cF func10) (Uu s3) fun _ v4 w4 r4 h28=>?_
 obtain ⟨rfl,s4⟩:=r4
 refine mv h28 rfl fun _ h29=>h29.sn [4,3,2,1,0] rfl fun h30=>hK9 _ _<|sq fun _ hK10=>sqr fun _ hK11=>mv h30 rfl fun _ h31=>bv h31 (z:=.bool false) rfl (IO _ υ42 _ _ _) fun _ h32=>mv h32 rfl fun _ h33=>sv h33 (wF h33 (E:=false) rfl rfl rfl) rfl rfl rfl (v:=π vx_x51) (Au h33 rfl rfl) fun _ h34=>so (wF h34 (E:=false) rfl rfl rfl) fun _ hK12=>BD h34 rfl rfl rfl (xs:=[.tmp 33]) rfl (cF func22) rfl (vs:=[π vx_x51]) rfl (args:=#[π vx_x51]) rfl (Zj s4) fun _ v5 w5 r5 h35=>hK12 _ _ ?_
 obtain ⟨rfl,s5⟩:=r5
 refine sv h35 (wF h35 (E:=false) rfl rfl rfl) rfl rfl rfl (v:=.bool false) (Co h35 rfl rfl rfl (IO _ υ64 _ _ _)) fun _ h36=>sv1 h36 rfl (v:=.bool false) (BA h36 rfl rfl rfl) fun _ h37=>h37.sn [36,4,3,2,1,0] rfl fun h38=>hK11 _ _<|wcF h38 rfl rfl<|h38.sk [4,3,2,1,0] rfl fun h39=>wp_skip<|hK10 _ _<|sqr fun _ hK13=>so (wn rfl) fun _ hK14=>Cw h39 rfl rfl rfl (E:=9) (xs:=[(0,.const (σ [47,97])),(1,.const (σ [47,98])),(2,.const (σ [47,99])),(3,.const (σ [47,100]))]) rfl (vs:=[(0,σ [47,97]),(1,σ [47,98]),(2,σ [47,99]),(3,σ [47,100])]) rfl (z:=[σ [47,97],σ [47,98],σ [47,99],σ [47,100]]) (fun _=>κ) s5 fun _ g1 w6 h40 s6 _ _=>hK14 _ _ ?_
 refine mv h40 rfl fun _ h41=>h41.sn [5,4,3,2,1,0] rfl fun h42=>hK13 _ _<|sq fun _ hK15=>sqr fun _ hK16=>mv h42 rfl fun _ h43=>wpList_nil<|hK16 _ _<|wp_block ?_
 refine JB (fun (k:Nat) (ta2:Ω) (tc2:Nat) (M2:MemM) a' w'=>Kn 69 [(6,ν (k:Int)),(5,.slice (some ⟨g1,0,none⟩) 4 4),(4,π mx_x49),(3,ν 0),(2,π vx_x51),(1,π pgx7),(0,.pointer none)] a'∧Sep w' [Ab g1 9 [σ [47,97],σ [47,98],σ [47,99],σ [47,100]],Ab vx_x51 66 [π kk_x48.tg,π mx_x49,π fx_x50],Ab mx_x49 125 [π kk_x48.tg],txP kk_x48 ta2 tc2 M2 [],Ch.many R]∧(k≤4)∧(Vst M2 [] (sKS k) 0 (k:Int) (fun _=>AK))) (fun (k:Nat) (ta2:Ω) (tc2:Nat) (M2:MemM)=>4-k) 0 none 0 (AI M_x31 2688 4096) ⟨h43.subs rfl,s6,Nat.zero_le _,hT0⟩ ?_
 rintro k1 ta2146 tc2147 M2148 a1 w7 ⟨h44,s7,hk143,hvk144⟩ K1 hK17
 refine sq fun _ hK18=>sqr fun _ hK19=>mv h44 rfl fun _ h45=>bv h45 (z:=.bool (decide ((k1:Int)<4))) rfl (cLt _ _ _ _ rfl) fun _ h46=>h46.sn [39,6,5,4,3,2,1,0] rfl fun h47=>hK19 _ _ ?_
 rcases bC (decide ((k1:Int)<4)) with hc1 | hc1
 ·skip
  have hp1:(k1:Int)<4:=(dT hc1)
  refine wcT h47 rfl hc1<|h47.sk [6,5,4,3,2,1,0] rfl fun h48=>wp_skip<|hK18 _ _<|sq fun _ hK20=>wp_block ?_
  refine sqr fun _ hK21=>mvs 3 h48 rfl fun _ h49=>sv1 h49 rfl (v:=.pointer (some ⟨g1,0+k1,none⟩)) (Eo h49 rfl rfl rfl (fun w=>ixO υ69 κ (sz:=1) rfl (j:=k1) rfl ω ω w)) fun _ h50=>sw1 h50 rfl (v:=σ (Ad0 k1)) (rld h50 rfl rfl (ldB υ9 rfl (s7.get 0 rfl:Blk _ _ _ _) (Ad1 ω))) fun _ h51=>?_
  obtain ⟨P171,c172,hT173,hb174,hb175,ho176⟩:=Aa3 (k:=k1) ω hvk144
  refine cl h51 rfl (cF func23) (ho176 (s7.pk [2,3,0,1,4] rfl)) fun _ v6 w8 r6 h52=>?_
  obtain ⟨tax177,tcx178,rfl,s8⟩:=r6
  refine mvs 5 h52 rfl fun _ h53=>h53.sn [8,7,6,5,4,3,2,1,0] rfl fun h54=>hK21 _ _<|sqr fun _ hK22=>mvs 2 h54 rfl fun _ h55=>bv h55 (z:=ν ((k1+2:Nat):Int)) rfl (CT _ _ _ ω ω ω) fun _ h56=>bv h56 (z:=.bool false) rfl (cNe _ _ _ _ (decide_eq_false (fun h=>h rfl))) fun _ h57=>mv h57 rfl fun _ h58=>sv h58 (wF h58 (E:=false) rfl rfl rfl) rfl rfl rfl (v:=ν 0) (Au h58 rfl rfl) fun _ h59=>sv h59 (wF h59 (E:=false) rfl rfl rfl) rfl rfl rfl (v:=.bool false) (Co h59 rfl rfl rfl (cNe _ _ _ _ rfl)) fun _ h60=>?_
  refine sv1 h60 rfl (v:=.bool false) (BA h60 rfl rfl rfl) fun _ h61=>mv h61 rfl fun _ h62=>sv h62 (wF h62 (E:=false) rfl rfl rfl) rfl rfl rfl (v:=π vx_x51) (Au h62 rfl rfl) fun _ h63=>?_
  have hbk:=Agl (k:=k1) ω;have hbk1:=Aev (k:=k1) ω
  obtain ⟨M218,he9⟩:∃ M',M'=vcM M2148 P171 (k1:Int):=⟨_,rfl⟩
  have hT219:=Vst.vc hT173 hbk1 ω;rw [← he9] at hT219
  refine so (wF h63 (E:=false) rfl rfl rfl) fun _ hK23=>BD h63 rfl rfl rfl (xs:=[.tmp 60]) rfl (cF func24) rfl (vs:=[π vx_x51]) rfl (args:=#[π vx_x51]) rfl (Nl (s8.pk [3,0,1,2,4] rfl) hT173 hbk hbk1 ω ω he9) fun _ v7 w9 r7 h64=>hK23 _ _ ?_
  obtain ⟨tax220,tcx221,rfl,s9⟩:=r7
  refine sv h64 (wF h64 (E:=false) rfl rfl rfl) rfl rfl rfl (v:=.bool false) (Co h64 rfl rfl rfl (cNe _ _ _ _ rfl)) fun _ h65=>sv1 h65 rfl (v:=.bool false) (BA h65 rfl rfl rfl) fun _ h66=>h66.sn [63,8,7,6,5,4,3,2,1,0] rfl fun h67=>hK22 _ _<|wcF h67 rfl rfl<|h67.sk [8,7,6,5,4,3,2,1,0] rfl fun h68=>wp_skip<|hK20 _ _<|wp_region_lit<|mv h68 rfl fun _ h69=>bv h69 (z:=ν ((k1+1:Nat):Int)) rfl (CT _ _ _ ω ω ω) fun _ h70=>?_
  refine h70.sk [41,40,8,7,5,4,3,2,1,0] rfl fun h71=>mv h71 rfl fun _ h72=>h72.sk [6,8,7,5,4,3,2,1,0] rfl fun h73=>wpList_nil ?_
  exact hK17 (k1+1) tax220 tcx221 M218 _ _ ⟨h73.subs rfl,(s9.pk [3,0,1,2,4] rfl),ω,hT219⟩ ω
 ·skip
  have hp2:¬ ((k1:Int)<4):=(dF hc1)
  refine wcF h47 rfl hc1<|h47.sk [6,5,4,3,2,1,0] rfl fun h74=>wp_exit ?_
  refine hK15 _ _ ?_
  refine sqr fun _ hK24=>mvs 2 h74 rfl fun _ h75=>cl h75 rfl (cF func25) (Aau s7) fun _ v8 w10 r8 h76=>?_
  obtain ⟨rp_x250,rfl,s10⟩:=r8
  refine bu h76 (v:=.agg #[π pgx7,π vx_x51,π rp_x250]) rfl (fun w=>κ) fun _ h77=>so (wn rfl) fun _ hK25=>JE h77 rfl rfl rfl rfl rfl (z:=[π pgx7,π vx_x51,π rp_x250]) rfl s10 fun _ g2 w11 h78 s11 _ _=>hK25 _ _ ?_
  refine h78.sk [68,67,66,65,64,6,5,4,3,2,1] rfl fun h79=>mv h79 rfl fun _ h80=>h80.sn [0,6,5,4,3,2,1] rfl fun h81=>hK24 _ _<|wp_ret ?_
  try simp only [Exit.then,Exit.inBlock]
  refine AW (v:=π g2) (Cz h81 rfl rfl) h81.defs ?_
  exact ⟨pgx7,pv_x8,pdx9,ppx10,M2148,g2,vx_x51,rp_x250,rfl,Sep.tail_un (xs:=[_,_]) ((Sep.tail_many (xs:=[_,_]) (Kj (Sep.tail_un (xs:=[_,_]) (s11.pk [4,0,5] rfl)) hKK56)).pk [1,0,2] rfl),hvk144.v.m⟩
theorem Nz {w:World} {R:List Ch} (hS0:Sep w ([]++R)) :
  CallsR prog 9 #[] w (fun v w'=>v=.bool true∧Sep w' ([]++R)):=by
 have hS:Sep w [Ch.many R]:=Sep.tail_many (xs:=[]) hS0;clear hS0
 refine AB func9 rfl (N:=80) ntmps9 (by show 0≤80;decide) [] rfl fun _ h1=>sqr fun _ hK3=>mv h1 rfl fun _ h4=>wpList_nil<|hK3 _ _<|sqr fun _ hK6=>cl h4 rfl (cF func4) (Yf hS) fun _ v1 w1 r1 h2=>?_
 obtain ⟨pgx7,pv_x8,pdx9,ppx10,rfl,s1⟩:=r1
 refine mv h2 rfl fun _ h3=>h3.sn [1,0] rfl fun h5=>hK6 _ _<|sq fun _ hK1=>sqr fun _ hK2=>mv h5 rfl fun _ h6=>bv h6 (z:=.bool false) rfl (IO _ υ23 _ _ _) fun _ h7=>h7.sn [14,1,0] rfl fun h8=>hK2 _ _<|wcF h8 rfl rfl<|h8.sk [1,0] rfl fun h9=>?_
 refine wp_skip<|hK1 _ _<|sqr fun _ hK4=>mv h9 rfl fun _ h10=>cl h10 rfl (cF func6) (LH s1) fun _ v2 w2 r2 h11=>?_
 obtain ⟨M_x32,rfl,s2,hVs37,hRd37⟩:=r2
 have hT0:=Ack hVs37 hRd37;have hM0:=hVs37.v.m
 refine mv h11 rfl fun _ h12=>h12.sn [2,1,0] rfl fun h13=>hK4 _ _<|sqr fun _ hK5=>mv h13 rfl fun _ h14=>cl h14 rfl (cF func5) (Jj s2 hM0 hT0.snd) fun _ v3 w3 r3 h15=>?_
 obtain ⟨kk_x46,mx_x47,fx_x48,vx_x49,rfl,s3,hKK54⟩:=r3
 refine mvs 5 h15 rfl fun _ h16=>h16.sn [4,3,2,1,0] rfl fun h17=>hK5 _ _<|sq fun _ hK7=>sqr fun _ hK8=>mv h17 rfl fun _ h18=>bv h18 (z:=.bool false) rfl (IO _ υ25 _ _ _) fun _ h19=>h19.sn [23,4,3,2,1,0] rfl fun h20=>hK8 _ _<|wcF h20 rfl rfl<|h20.sk [4,3,2,1,0] rfl fun h21=>?_
 refine wp_skip<|hK7 _ _<|sqr fun _ hK9=>mv h21 rfl fun _ h22=>cl h22 rfl (cF func29) (JK (hd:=0) s3 hT0 (by decide)) fun _ v4 w4 r4 h23=>?_
 obtain ⟨rfl,s4⟩:=r4
 refine mv h23 rfl fun _ h24=>h24.sn [5,4,3,2,1,0] rfl fun h25=>hK9 _ _<|sqr fun _ hK10=>mv h25 rfl fun _ h26=>bu h26 (v:=.agg (slC (⟨1,0,0,0,0,0⟩:SlT)).toArray) rfl (fun w=>κ) fun _ h27=>?_
 have hT1:=(hT0.slot Aal (Le (z:=Ea) (by decide)) (by decide)).2
 refine cl h27 rfl (cF func30) (NT (z:=Ea) s4 hT0 Aal (by decide) (by decide)) fun _ v5 w5 r5 h28=>?_
 obtain ⟨tax94,tcx95,rfl,s5⟩:=r5
 refine mv h28 rfl fun _ h29=>h29.sn [6,5,4,3,2,1,0] rfl fun h30=>hK10 _ _<|sqr fun _ hK11=>mv h30 rfl fun _ h31=>?_
 obtain ⟨M5,hM5⟩:∃ M',M'=vcM (AI M_x32 2688 4096) (stP (AI M_x32 2688 4096) [] 2 1 (slB Ea)) 0:=⟨_,rfl⟩
 have hT2:=hT1.vc (by decide) (by decide);rw [← hM5] at hT2
 refine cl h31 rfl (cF func24) (Nl (hd:=0) s5 hT1 (by decide) (by decide) (by decide) (by decide) hM5) fun _ v6 w6 r6 h32=>?_
 obtain ⟨tax109,tcx110,rfl,s6⟩:=r6
 refine mv h32 rfl fun _ h33=>h33.sn [7,6,5,4,3,2,1,0] rfl fun h34=>hK11 _ _<|sqr fun _ hK12=>mv h34 rfl fun _ h35=>cl h35 rfl (cF func29) (JK (hd:=1) s6 hT2 (by decide)) fun _ v7 w7 r7 h36=>?_
 obtain ⟨rfl,s7⟩:=r7
 refine mv h36 rfl fun _ h37=>h37.sn [8,7,6,5,4,3,2,1,0] rfl fun h38=>hK12 _ _<|sqr fun _ hK13=>mv h38 rfl fun _ h39=>?_
 have hsl1:=hT2.slk (c:=1) (by decide) (by decide) Acb.2;rw [show rdS ((fun d=>if d=(1:Int) then slB Ea else (fun _=>AK) d) 1)=Ea from Acb.1] at hsl1
 have hT3:=(hT2.slot Aal (Le (z:=KM Ea) (by decide)) (by decide)).2
 obtain ⟨M6,hM6⟩:∃ M',M'=vcM M5 (stP M5 [] 2 1 (slB (KM Ea))) 1:=⟨_,rfl⟩
 have hT4:=Vst.vc (hd:=1) hT3 (by decide) (by decide);rw [← hM6] at hT4
 refine cl h39 rfl (cF func31) (Xp (hd:=1) (z:=Ea) s7 hT2 (by decide) (by decide) Aal hsl1 (by decide) (by decide) (by decide) hM6) fun _ v8 w8 r8 h40=>?_
 obtain ⟨tax137,tcx138,rfl,s8⟩:=r8
 refine mv h40 rfl fun _ h41=>h41.sn [9,8,7,6,5,4,3,2,1,0] rfl fun h42=>hK13 _ _<|sqr fun _ hK14=>mv h42 rfl fun _ h43=>?_
 have hsl2:=hT4.slk (c:=1) (by decide) (by decide) Acc.2;rw [show rdS ((fun d=>if d=(1:Int) then slB (KM Ea) else (fun d=>if d=(1:Int) then slB Ea else (fun _=>AK) d) d) 1)=KM Ea from Acc.1] at hsl2
 refine cl h43 rfl (cF func12) (Ph s8 hT4.v.m hsl2) fun _ v9 w9 r9 h44=>?_
 obtain ⟨rfl,s9⟩:=r9
 refine mvs 3 h44 rfl fun _ h45=>so (wn rfl) fun _ hK15=>AO h45 rfl rfl rfl rfl (z:=[ν 0,ν 0,ν 0,ν 0,ν 0,ν 0]) (fun _=>rfl) s9 fun _ g1 w10 h46 s10 _ _=>hK15 _ _ ?_
 refine stA h46 s10 0 rfl rfl rfl κ rfl rfl rfl rfl fun _ w11 h47 s11 _=>mv h47 rfl fun _ h48=>h48.sn [11,10,9,8,7,6,5,4,3,2,1,0] rfl fun h49=>hK14 _ _<|sqr fun _ hK16=>mv h49 rfl fun _ h50=>bv h50 (z:=.bool true) rfl (cEq _ _ _ _ rfl) fun _ h51=>mv h51 rfl fun _ h52=>sv h52 (wT h52 (E:=true) rfl rfl rfl) rfl rfl rfl (v:=ν 0) (Au h52 rfl rfl) fun _ h53=>sv h53 (wT h53 (E:=true) rfl rfl rfl) rfl rfl rfl (v:=.bool true) (Co h53 rfl rfl rfl (cEq _ _ _ _ rfl)) fun _ h54=>?_
 refine sv1 h54 rfl (v:=.bool true) (BA h54 rfl rfl rfl) fun _ h55=>mv h55 rfl fun _ h56=>sv h56 (wT h56 (E:=true) rfl rfl rfl) rfl rfl rfl (v:=ν 0) (Au h56 rfl rfl) fun _ h57=>sv h57 (wT h57 (E:=true) rfl rfl rfl) rfl rfl rfl (v:=.bool true) (Co h57 rfl rfl rfl (cEq _ _ _ _ rfl)) fun _ h58=>sv1 h58 rfl (v:=.bool true) (BA h58 rfl rfl rfl) fun _ h59=>mv h59 rfl fun _ h60=>sv h60 (wT h60 (E:=true) rfl rfl rfl) rfl rfl rfl (v:=ν 0) (Au h60 rfl rfl) fun _ h61=>sv h61 (wT h61 (E:=true) rfl rfl rfl) rfl rfl rfl (v:=.bool true) (Co h61 rfl rfl rfl (cEq _ _ _ _ rfl)) fun _ h62=>sv1 h62 rfl (v:=.bool true) (BA h62 rfl rfl rfl) fun _ h63=>mv h63 rfl fun _ h64=>?_
 refine sv h64 (wT h64 (E:=true) rfl rfl rfl) rfl rfl rfl (v:=ν 0) (Au h64 rfl rfl) fun _ h65=>sv h65 (wT h65 (E:=true) rfl rfl rfl) rfl rfl rfl (v:=.bool true) (Co h65 rfl rfl rfl (cEq _ _ _ _ rfl)) fun _ h66=>sv1 h66 rfl (v:=.bool true) (BA h66 rfl rfl rfl) fun _ h67=>mv h67 rfl fun _ h68=>sv h68 (wT h68 (E:=true) rfl rfl rfl) rfl rfl rfl (v:=ν 1) (Au h68 rfl rfl) fun _ h69=>sv h69 (wT h69 (E:=true) rfl rfl rfl) rfl rfl rfl (v:=.bool true) (Co h69 rfl rfl rfl (cEq _ _ _ _ rfl)) fun _ h70=>sv1 h70 rfl (v:=.bool true) (BA h70 rfl rfl rfl) fun _ h71=>mv h71 rfl fun _ h72=>sv h72 (wT h72 (E:=true) rfl rfl rfl) rfl rfl rfl (v:=ν 0) (Au h72 rfl rfl) fun _ h73=>sv h73 (wT h73 (E:=true) rfl rfl rfl) rfl rfl rfl (v:=.bool true) (Co h73 rfl rfl rfl (cEq _ _ _ _ rfl)) fun _ h74=>?_
 refine sv1 h74 rfl (v:=.bool true) (BA h74 rfl rfl rfl) fun _ h75=>mv h75 rfl fun _ h76=>sv h76 (wT h76 (E:=true) rfl rfl rfl) rfl rfl rfl (v:=π g1) (rfa h76 rfl rfl (fQ 0)) fun _ h77=>sw h77 (wT h77 (E:=true) rfl rfl rfl) rfl rfl rfl (v:=ν 2) (rld h77 rfl rfl (ldB υ3 rfl (s11.get 0 rfl:Blk _ _ _ _) rfl)) fun _ h78=>sv h78 (wT h78 (E:=true) rfl rfl rfl) rfl rfl rfl (v:=.bool true) (Co h78 rfl rfl rfl (cEq _ _ _ _ rfl)) fun _ h79=>sv1 h79 rfl (v:=.bool true) (BA h79 rfl rfl rfl) fun _ h80=>mv h80 rfl fun _ h81=>sv h81 (wT h81 (E:=true) rfl rfl rfl) rfl rfl rfl (v:=ν 0) (Au h81 rfl rfl) fun _ h82=>sv h82 (wT h82 (E:=true) rfl rfl rfl) rfl rfl rfl (v:=.bool true) (Co h82 rfl rfl rfl (cEq _ _ _ _ rfl)) fun _ h83=>sv1 h83 rfl (v:=.bool true) (BA h83 rfl rfl rfl) fun _ h84=>?_
 refine mv h84 rfl fun _ h85=>sv h85 (wT h85 (E:=true) rfl rfl rfl) rfl rfl rfl (v:=π vx_x49) (Au h85 rfl rfl) fun _ h86=>so (wT h86 (E:=true) rfl rfl rfl) fun _ hK17=>BD h86 rfl rfl rfl (xs:=[.tmp 76]) rfl (cF func29) rfl (vs:=[π vx_x49]) rfl (args:=#[π vx_x49]) rfl (JK (hd:=2) (s11.pk [1,2,3,0,4] rfl) hT4 (by decide)) fun _ v10 w12 r10 h87=>hK17 _ _ ?_
 obtain ⟨rfl,s12⟩:=r10
 refine sv h87 (wT h87 (E:=true) rfl rfl rfl) rfl rfl rfl (v:=.bool true) (Co h87 rfl rfl rfl (cEq _ _ _ _ rfl)) fun _ h88=>sv1 h88 rfl (v:=.bool true) (BA h88 rfl rfl rfl) fun _ h89=>h89.sk [79,78,77,76,75,74,73,72,71,70,69,68,67,66,65,64,63,62,61,60,59,58,57,56,55,54,53,52,51,50,49,48,47,46,45,44,43,42,41,40,11,10,9,8,7,6,5,4,3,2,1] rfl fun h90=>mv h90 rfl fun _ h91=>h91.sn [0,11,10,9,8,7,6,5,4,3,2,1] rfl fun h92=>hK16 _ _<|wp_ret ?_
 try simp only [Exit.then,Exit.inBlock]
 refine AW (v:=.bool true) (Cz h92 rfl rfl) h92.defs ?_
 exact ⟨congrArg Value.bool rfl,Sep.tail_un (xs:=[]) (s12.pk [4] rfl)⟩
end
end Go.Proofs.YtpnknncmacjdkaaGreatDoor
