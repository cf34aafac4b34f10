/- Merged: AwA AwB AwM. -/
import Derived.Test.YtpdjnefgkcmdnaaGreatDoorPyO
import Derived.Test.YtpdjnefgkcmdnaaGreatDoorPxZ
import Derived.Test.YtpdjnefgkcmdnaaGreatDoorSxU
import Derived.Deep.Slices
import Derived.Deep.Fields
import Derived.ChangeSame
/- stage 25: equal, ascending, fits, over a past world (sx/aw.py) -/
namespace Go.Proofs.YtpdjnefgkcmdnaaGreatDoor
open Go.RowKit
set_option linter.unusedSimpArgs false
set_option linter.unusedVariables false
set_option maxRecDepth 100000

/-- are replies the same, as audit compares them? -/
def eqA (r s:RepM):Bool:=((((decide (r.e=s.e)&&decide (r.fd=s.fd))&&decide (r.data=s.data))&&(decide (r.kind=s.kind)&&(decide (r.links=s.links)&&decide (r.size=s.size))))&&decide (r.names=s.names))
theorem eqA_iff {r s:RepM}:eqA r s=true↔r=s:=by
 obtain ⟨a1,a2,a3,a4,a5,a6,a7⟩:=r;obtain ⟨b1,b2,b3,b4,b5,b6,b7⟩:=s
 simp only [eqA,Bool.and_eq_true,decide_eq_true_eq,RepM.mk.injEq]
 constructor
 ·rintro ⟨⟨⟨⟨h1,h2⟩,h3⟩,h4,h5,h6⟩,h7⟩;exact ⟨h1,h2,h3,h7,h4,h5,h6⟩
 ·rintro ⟨h1,h2,h3,h7,h4,h5,h6⟩;exact ⟨⟨⟨⟨h1,h2⟩,h3⟩,h4,h5,h6⟩,h7⟩
def cmpI (x y:Int):Int:=if x<y then -1 else if x>y then 1 else 0
theorem asc_step {x y z:Int} {i:Nat} (h:decide ([x,y,z].getD i 0 < [x,y,z].getD (i-1) 0)=false) (hi:0<i):[x,y,z].getD (i-1) 0≤[x,y,z].getD i 0:=Int.not_lt.1 (dF h)
theorem asc_not {x y z:Int} {i:Nat} (hi:0<i∧i≤2) (h:[x,y,z].getD i 0 < [x,y,z].getD (i-1) 0):¬ (x≤y∧y≤z):=by
 rintro ⟨h1,h2⟩
 rcases (show i=1∨i=2 by omega) with rfl | rfl
 ·exact absurd (show y<x from h) (by omega)
 ·exact absurd (show z<y from h) (by omega)

/-- an event; where its reply's names lie -/
structure EvM where
 cl:Int
 num:Int
 x:CallM
 asked:Int
 done:Int
 told:Int
 r:RepM
 na:Option Addr
 nc:Nat
def nilEv:EvM:=⟨0,0,⟨0,[],[],0,0,0,0,[]⟩,0,0,0,⟨0,0,[],[],0,0,0⟩,none,0⟩
def evC (x:EvM):List Value:=[.int .i64 x.cl,.int .i64 x.num,.int .i64 x.x.kind,.string (strB x.x.p1),.string (strB x.x.p2),.int .i64 x.x.fl,.int .i64 x.x.fd,.int .i64 x.x.off,.int .i64 x.x.n,.string (strB x.x.data),.int .i64 x.asked,.int .i64 x.done,.int .i64 x.told,.int .i64 x.r.e,.int .i64 x.r.fd,.string (strB x.r.data),.slice x.na x.r.names.length x.nc,.int .i64 x.r.kind,.int .i64 x.r.links,.int .i64 x.r.size]
theorem evC_len (x:EvM):(evC x).length=20:=rfl
/-- does an event fit, where r is the answer? -/
def fitB (ev:EvM) (r:RepM):Bool:=!decide (ev.told>0)||(eqA r ev.r&&decide (ev.asked≤ev.done∧ev.done≤ev.told))
theorem fitB_no {ev:EvM} {r:RepM} (h:¬ ev.told>0):fitB ev r=true:=by unfold fitB;rw [decide_eq_false h];rfl
theorem fitB_bad {ev:EvM} {r:RepM} (h:ev.told>0) (he:eqA r ev.r=false):fitB ev r=false:=by unfold fitB;rw [decide_eq_true h,he];rfl
theorem fitB_is {ev:EvM} {r:RepM} (h:ev.told>0) (he:eqA r ev.r=true):fitB ev r=decide (ev.asked≤ev.done∧ev.done≤ev.told):=by unfold fitB;rw [decide_eq_true h,he];rfl

set_option maxHeartbeats 4000000 in
theorem eqS_api_Info_x2_in (x0:Int) (x1:Int) (x2:Int) (y0:Int) (y1:Int) (y2:Int) (w:World):(Op.equalIn 10000 26 (.agg #[.int .i64 x0,.int .i64 x1,.int .i64 x2]) (.agg #[.int .i64 y0,.int .i64 y1,.int .i64 y2])).run Tryz.prog w=.ok (decide (x0=y0)&&(decide (x1=y1)&&decide (x2=y2))) w:=by
 have u3:=Tryz.underlying3
 have a3:=Tryz.isAgg3
 have z3:=Tryz.sizeOf3
 have hS:Tryz.prog.underlying 26=some (.struct (Tryz.prog.fieldsOf 26)):=by kernel_rfl
 have hp:Tryz.prog.stoodInHeld 26=false:=by kernel_rfl
 rw [show (10000:Nat)=9999+1 from rfl,run_equalIn_agg w 9999 26 _ _ hS hp]
 simp only [Program.fieldsOf,Tryz.underlying26]
 go_simp
 by_cases h0:x0=y0
 case neg=>simp [h0]
 by_cases h1:x1=y1
 case neg=>simp [h0,h1]
 by_cases h2:x2=y2
 case neg=>simp [h0,h1,h2]
 simp [h0,h1,h2]
theorem eqS_api_Info_x2_eql (o p:Operand) (x0:Int) (x1:Int) (x2:Int) (y0:Int) (y1:Int) (y2:Int) (w:World):(do eqGuard .eql 26 o p (.agg #[.int .i64 x0,.int .i64 x1,.int .i64 x2]) (.agg #[.int .i64 y0,.int .i64 y1,.int .i64 y2]);binOp .eql 26 (.agg #[.int .i64 x0,.int .i64 x1,.int .i64 x2]) (.agg #[.int .i64 y0,.int .i64 y1,.int .i64 y2]):Sem Value).run Tryz.prog w=.ok (.bool ((decide (x0=y0)&&(decide (x1=y1)&&decide (x2=y2))))) w:=by
 have e:(Op.equal 26 (.agg #[.int .i64 x0,.int .i64 x1,.int .i64 x2]) (.agg #[.int .i64 y0,.int .i64 y1,.int .i64 y2])).run Tryz.prog w=.ok (decide (x0=y0)&&(decide (x1=y1)&&decide (x2=y2))) w:=eqS_api_Info_x2_in x0 x1 x2 y0 y1 y2 w
 rw [Sem.run_bind,run_eqGuard_agg (P:=Tryz.prog) w .eql 26 o p _ _ (by kernel_rfl)]
 show (binOp .eql 26 _ _).run Tryz.prog w=_
 simp only [binOp,Sem.run_bind,e]
 rfl
theorem cp_slices_Equal_string_string_x2 (args:Array Value) (w:World):(callFunc 50 args).run Tryz.prog w=.ok (.enter 50 args) w:=by
 have h:=Tryz.func50
 go_simp
theorem cp_cmp_isNaN_int_z4 (args:Array Value) (w:World):(callFunc 49 args).run Tryz.prog w=.ok (.enter 49 args) w:=by
 have h:=Tryz.func49
 go_simp
theorem cp_cmp_isNaN_int_z5 (args:Array Value) (w:World):(callFunc 49 args).run Tryz.prog w=.ok (.enter 49 args) w:=by
 have h:=Tryz.func49
 go_simp
theorem cp_cmp_Less_int_z6 (args:Array Value) (w:World):(callFunc 68 args).run Tryz.prog w=.ok (.enter 68 args) w:=by
 have h:=Tryz.func68
 go_simp
theorem cp_slices_IsSorted_int_int_z7 (args:Array Value) (w:World):(callFunc 52 args).run Tryz.prog w=.ok (.enter 52 args) w:=by
 have h:=Tryz.func52
 go_simp
theorem fa_api_Event_x3_5 (g off:Nat) (w:World):(Instr.fieldAt 35 (.pointer (some ⟨g,off,none⟩)) 5).run Tryz.prog w=.ok (.pointer (some ⟨g,off+12,none⟩)) w:=rfl
theorem fa_api_Event_x3_6 (g off:Nat) (w:World):(Instr.fieldAt 35 (.pointer (some ⟨g,off,none⟩)) 6).run Tryz.prog w=.ok (.pointer (some ⟨g,off+13,none⟩)) w:=rfl
theorem fa_api_Event_x3_0 (g off:Nat) (w:World):(Instr.fieldAt 35 (.pointer (some ⟨g,off,none⟩)) 0).run Tryz.prog w=.ok (.pointer (some ⟨g,off+0,none⟩)) w:=rfl
theorem fa_api_Event_x3_2 (g off:Nat) (w:World):(Instr.fieldAt 35 (.pointer (some ⟨g,off,none⟩)) 2).run Tryz.prog w=.ok (.pointer (some ⟨g,off+2,none⟩)) w:=rfl
theorem cp_audit_equal_x3 (args:Array Value) (w:World):(callFunc 43 args).run Tryz.prog w=.ok (.enter 43 args) w:=by
 have h:=Tryz.func43
 go_simp
theorem fa_api_Event_x3_3 (g off:Nat) (w:World):(Instr.fieldAt 35 (.pointer (some ⟨g,off,none⟩)) 3).run Tryz.prog w=.ok (.pointer (some ⟨g,off+10,none⟩)) w:=rfl
theorem fa_api_Event_x3_4 (g off:Nat) (w:World):(Instr.fieldAt 35 (.pointer (some ⟨g,off,none⟩)) 4).run Tryz.prog w=.ok (.pointer (some ⟨g,off+11,none⟩)) w:=rfl
theorem cp_audit_ascending_x3 (args:Array Value) (w:World):(callFunc 45 args).run Tryz.prog w=.ok (.enter 45 args) w:=by
 have h:=Tryz.func45
 go_simp

set_option maxHeartbeats 4000000 in
theorem equalSX_s {w:World} {R:List Ch} {W1:World} {a b:Option Addr} {c c2:Nat} {L M:List ByteArray} (hS0:Sep w ([ownC 0 9 1 a L.length c (L.flatMap sE),oldC W1 W1.heap.size]++R)) (hx:ExtA W1 b M.length c2 1 (fun k=>[.string (M.getD k noNm)])) (hL:L.length≤100000) :
  CallsR Tryz.prog 50 #[.slice a L.length c,.slice b M.length c2] w (fun v w'=>v=.bool (decide (L=M))∧Sep w' ([ownC 0 9 1 a L.length c (L.flatMap sE),oldC W1 W1.heap.size]++R)):=by
 have hS:Sep w [ownC 0 9 1 a L.length c (L.flatMap sE),oldC W1 W1.heap.size,Ch.many R]:=Sep.tail_many (xs:=[_,_]) hS0;clear hS0
 obtain ⟨bN,oN,hN⟩:=hx.at
 refine enterR Tryz.func50 rfl (N:=26) Tryz.ntmps50 (by show 2≤26;decide) [(0,.slice a L.length c),(1,.slice b M.length c2)] rfl fun _ h1=>sqr fun _ hK3=>mv h1 rfl fun _ h4=>wpList_nil<|hK3 _ _<|sq fun _ hK6=>sqr fun _ hK7=>mv h4 rfl fun _ h8=>sv1 h8 rfl (v:=.int .i64 (L.length:Int)) (rlenS h8 rfl rfl Tryz.underlying24) fun _ h2=>mv h2 rfl fun _ h3=>sv1 h3 rfl (v:=.int .i64 (M.length:Int)) (rlenS h3 rfl rfl Tryz.underlying24) fun _ h5=>bv h5 (z:=.bool (decide ((L.length:Int)≠(M.length:Int)))) rfl (cNe _ _ _ _ rfl) fun _ h6=>?_
 refine h6.sn [10,4,0,1] rfl fun h7=>hK7 _ _ ?_
 rcases bC (decide ((L.length:Int)≠(M.length:Int))) with hc1 | hc1
 ·skip
  have hp1:(L.length:Int)≠(M.length:Int):=(dT hc1)
  refine wcT h7 rfl hc1<|h7.sk [4,0,1] rfl fun h9=>sqr fun _ hK1=>h9.sk [0,1] rfl fun h10=>mv h10 rfl fun _ h11=>wpList_nil<|hK1 _ _<|wp_ret ?_
  try simp only [Exit.then,Exit.inBlock]
  refine retR (v:=.bool false) (res1 h11 rfl rfl) h11.defs ?_
  exact ⟨congrArg Value.bool (decide_eq_false (fun q=>absurd (congrArg List.length q) (by omega))).symm,Sep.tail_un (xs:=[_,_]) hS⟩
 ·skip
  have hp2:¬ ((L.length:Int)≠(M.length:Int)):=(dF hc1)
  refine wcF h7 rfl hc1<|h7.sk [4,0,1] rfl fun h12=>wp_skip<|hK6 _ _<|sq fun _ hK2=>sqr fun _ hK4=>mv h12 rfl fun _ h13=>sv1 h13 rfl (v:=.int .i64 (L.length:Int)) (rlenS h13 rfl rfl Tryz.underlying24) fun _ h14=>mv h14 rfl fun _ h15=>h15.sn [13,12,4,0,1] rfl fun h16=>hK4 _ _<|wp_block ?_
  refine wp_loop1 (fun (i:Nat) a' w'=>Kn 26 [(13,.int .i64 (i:Int)),(12,.int .i64 (L.length:Int)),(4,.bool false),(0,.slice a L.length c),(1,.slice b M.length c2)] a'∧Sep w' [ownC 0 9 1 a L.length c (L.flatMap sE),oldC W1 W1.heap.size,Ch.many R]∧(L.take i=M.take i)) (fun (i:Nat)=>L.length-i) 0 ⟨h16.subs rfl,hS,rfl⟩ ?_
  rintro i1 a1 w2 ⟨h17,s1,ht42⟩ K1 hK5
  refine sqr fun _ hK8=>bv h17 (z:=.bool (decide ((i1:Int)<(L.length:Int)))) rfl (cLt _ _ _ _ rfl) fun _ h18=>wpList_nil<|hK8 _ _<|sq fun _ hK9=>?_
  rcases bC (decide ((i1:Int)<(L.length:Int))) with hc2 | hc2
  ·skip
   have hp3:(i1:Int)<(L.length:Int):=(dT hc2)
   refine wcT h18 rfl hc2<|h18.sk [13,12,4,0,1] rfl fun h19=>wp_skip<|hK9 _ _<|sq fun _ hK10=>wp_block ?_
   refine sqr fun _ hK11=>mvs 2 h19 rfl fun _ h20=>h20.sn [5,13,12,4,0,1] rfl fun h21=>hK11 _ _<|sq fun _ hK12=>?_
   have s2:=s1.drew
   refine wp_region_held_drew (S:=fun w'=>Sep w' [ownC 0 9 1 a L.length c (L.flatMap sE),oldC W1 W1.heap.size,Ch.many R]) (by kernel_rfl) s2 (fun hq1=>?_)
   refine tv1 hq1 h21 0 rfl rfl (v:=.slice a L.length c) (fun w1 _=>(rmove h21 rfl rfl) w1) fun _ h22=>?_
   refine tv1 hq1 h22 1 rfl rfl (v:=.int .i64 (i1:Int)) (fun w1 _=>(rmove h22 rfl rfl) w1) fun _ h23=>?_
   obtain ⟨q65,hq2⟩:=own_addr (s2.get 0 rfl:Own _ _ _ _ _ _ _ _)
   refine tv1 hq1 h23 2 rfl rfl (v:=.pointer (some ⟨q65,i1,none⟩)) (fun w1 _=>(rindexA h23 rfl rfl rfl (fun w=>ixO Tryz.underlying24 (by kernel_rfl) (sz:=1) (hq2 (by omega)) (j:=i1) rfl (by omega) (by omega) w)) w1) fun _ h24=>?_
   refine tv1 hq1 h24 3 rfl rfl (v:=.string (L.getD i1 noNm)) (fun w1 hSw=>(rld h24 rfl rfl (ldOSc sE_len Tryz.underlying9 rfl (hSw.get 0 rfl:Own _ _ _ _ _ _ _ _) (hq2 (by omega)) noNm (j:=i1) (f:=0) (by omega) (by decide) (by omega) rfl))) fun _ h25=>?_
   refine tv1 hq1 h25 4 rfl rfl (v:=.slice b M.length c2) (fun w1 _=>(rmove h25 rfl rfl) w1) fun _ h26=>?_
   refine tv1 hq1 h26 5 rfl rfl (v:=.int .i64 (i1:Int)) (fun w1 _=>(rmove h26 rfl rfl) w1) fun _ h27=>?_
   refine tv1 hq1 h27 6 rfl rfl (v:=.pointer (some ⟨bN,oN+i1*1,none⟩)) (fun w1 _=>(rindexA h27 rfl rfl rfl (fun w=>ixO Tryz.underlying24 (by kernel_rfl) (sz:=1) (hN (by omega)).1 (j:=i1) rfl (by omega) rfl w)) w1) fun _ h28=>?_
   refine tv1 hq1 h28 7 rfl rfl (v:=.string (M.getD i1 noNm)) (fun w1 hSw=>(rld h28 rfl rfl (ldXc (sz:=1) (n:=M.length) (f:=(fun k=>[.string (M.getD k noNm)])) Tryz.underlying9 rfl (hN (by omega)).2 (Nat.le_refl _) (hSw.get 1 rfl:Below _ _ _∧_) (j:=i1) (i:=0) (by omega) rfl rfl))) fun _ h29=>?_
   refine tv1 hq1 h29 8 rfl rfl (v:=.bool (decide ((L.getD i1 noNm)≠(M.getD i1 noNm)))) (fun w1 _=>(rbin h29 rfl rfl rfl (bStrNeB _ _ _ (L.getD i1 noNm) (M.getD i1 noNm) rfl)) w1) fun _ h30=>?_
   refine h30.sk [24,5,13,12,4,0,1] rfl fun h31=>?_
   refine wpAnyH_done (by kernel_rfl) ?_ _
   refine hK12 _ _ ?_
   rcases bC (decide ((L.getD i1 noNm)≠(M.getD i1 noNm))) with hc3 | hc3
   ·skip
    have hp4:(L.getD i1 noNm)≠(M.getD i1 noNm):=(dT hc3)
    refine wcT h31 rfl hc3<|h31.sk [5,13,12,4,0,1] rfl fun h32=>sqr fun _ hK13=>h32.sk [5,13,12,0,1] rfl fun h33=>mv h33 rfl fun _ h34=>wpList_nil<|hK13 _ _<|wp_ret ?_
    try simp only [Exit.then,Exit.inBlock]
    refine retR (v:=.bool false) (res1 h34 rfl rfl) h34.defs ?_
    exact ⟨congrArg Value.bool (decide_eq_false (fun q=>dT hc3 (by rw [q]))).symm,Sep.tail_un (xs:=[_,_]) s2⟩
   ·skip
    have hp5:¬ ((L.getD i1 noNm)≠(M.getD i1 noNm)):=(dF hc3)
    refine wcF h31 rfl hc3<|h31.sk [5,13,12,4,0,1] rfl fun h35=>wp_skip<|hK10 _ _<|wp_region_lit<|bv h35 (z:=.int .i64 ((i1+1:Nat):Int)) rfl (bAdd _ _ _ (by omega) (by omega) (by omega)) fun _ h36=>h36.sk [25,5,12,4,0,1] rfl fun h37=>mv h37 rfl fun _ h38=>h38.sk [13,5,12,4,0,1] rfl fun h39=>wpList_nil ?_
    exact hK5 (i1+1) _ _ ⟨h39.subs rfl,s2,(take_both (by omega) (by omega) ht42 (Classical.not_not.1 (dF hc3)))⟩ (by omega)
  ·skip
   have hp6:¬ ((i1:Int)<(L.length:Int)):=(dF hc2)
   refine wcF h18 rfl hc2<|h18.sk [13,12,4,0,1] rfl fun h40=>wp_exit ?_
   refine hK2 _ _ ?_
   refine sqr fun _ hK14=>h40.sk [13,12,0,1] rfl fun h41=>mv h41 rfl fun _ h42=>wpList_nil<|hK14 _ _<|wp_ret ?_
   try simp only [Exit.then,Exit.inBlock]
   refine retR (v:=.bool true) (res1 h42 rfl rfl) h42.defs ?_
   exact ⟨congrArg Value.bool (decide_eq_true (take_end ht42 (by omega) (by omega))).symm,Sep.tail_un (xs:=[_,_]) s1⟩

set_option maxHeartbeats 4000000 in
theorem equalX_s {w:World} {R:List Ch} {W1:World} {a b:Option Addr} {c c2:Nat} {r s:RepM} (hS0:Sep w ([ownC 0 9 1 a r.names.length c (r.names.flatMap sE),oldC W1 W1.heap.size]++R)) (hx:ExtA W1 b s.names.length c2 1 (fun k=>[.string (s.names.getD k noNm)])) (hr:r.names.length≤100000) :
  CallsR Tryz.prog 43 #[.agg #[.int .i64 r.e,.int .i64 r.fd,.string (strB r.data),.slice a r.names.length c,.int .i64 r.kind,.int .i64 r.links,.int .i64 r.size],.agg #[.int .i64 s.e,.int .i64 s.fd,.string (strB s.data),.slice b s.names.length c2,.int .i64 s.kind,.int .i64 s.links,.int .i64 s.size]] w (fun v w'=>v=.bool (eqA r s)∧Sep w' ([ownC 0 9 1 a r.names.length c (r.names.flatMap sE),oldC W1 W1.heap.size]++R)):=by
 have hS:Sep w [ownC 0 9 1 a r.names.length c (r.names.flatMap sE),oldC W1 W1.heap.size,Ch.many R]:=Sep.tail_many (xs:=[_,_]) hS0;clear hS0
 refine enterR Tryz.func43 rfl (N:=38) Tryz.ntmps43 (by show 2≤38;decide) [(0,.agg #[.int .i64 r.e,.int .i64 r.fd,.string (strB r.data),.slice a r.names.length c,.int .i64 r.kind,.int .i64 r.links,.int .i64 r.size]),(1,.agg #[.int .i64 s.e,.int .i64 s.fd,.string (strB s.data),.slice b s.names.length c2,.int .i64 s.kind,.int .i64 s.links,.int .i64 s.size])] rfl fun _ h1=>sqr fun _ hK3=>so (wanted_none rfl) fun _ hK1=>xbox h1 rfl rfl rfl rfl rfl (z:=[.int .i64 r.e,.int .i64 r.fd,.string (strB r.data),.slice a r.names.length c,.int .i64 r.kind,.int .i64 r.links,.int .i64 r.size]) rfl hS fun _ g4 w7 h5 s8 _ _=>hK1 _ _ ?_
 refine so (wanted_none rfl) fun _ hK2=>xbox h5 rfl rfl rfl rfl rfl (z:=[.int .i64 s.e,.int .i64 s.fd,.string (strB s.data),.slice b s.names.length c2,.int .i64 s.kind,.int .i64 s.links,.int .i64 s.size]) rfl s8 fun _ g1 w1 h2 s1 _ _=>hK2 _ _ ?_
 refine mv h2 rfl fun _ h3=>wpList_nil<|hK3 _ _<|sqr fun _ hK4=>fav h3 rfl (fz_api_Reply_0 _ _) fun _ h4=>ldv h4 s1 1 Tryz.underlying23 rfl rfl rfl rfl fun _ h6=>fav h6 rfl (fz_api_Reply_0 _ _) fun _ h7=>ldv h7 s1 0 Tryz.underlying23 rfl rfl rfl rfl fun _ h8=>bv h8 (z:=.bool (decide (r.e=s.e))) rfl (cEq _ _ _ _ rfl) fun _ h9=>mv h9 rfl fun _ h10=>sg h10 (wT h10 rfl rfl rfl) rfl rfl rfl (v:=.pointer (some ⟨g4,1,none⟩)) (fun hC1=>by have hq:=(dT hC1);exact rfa h10 rfl rfl (fun w=>fz_api_Reply_1 g4 0 w) _) fun _ h11=>?_
 refine sg h11 (wT h11 rfl rfl rfl) rfl rfl rfl (v:=.int .i64 r.fd) (fun hC2=>by have hq:=(dT hC2);exact (rld h11 rfl (opg rfl hC2) (ldB Tryz.underlying3 rfl (s1.get 1 rfl:Blk _ _ _ _) rfl))) fun _ h12=>sg h12 (wT h12 rfl rfl rfl) rfl rfl rfl (v:=.pointer (some ⟨g1,1,none⟩)) (fun hC3=>by have hq:=(dT hC3);exact rfa h12 rfl rfl (fun w=>fz_api_Reply_1 g1 0 w) _) fun _ h13=>sg h13 (wT h13 rfl rfl rfl) rfl rfl rfl (v:=.int .i64 s.fd) (fun hC4=>by have hq:=(dT hC4);exact (rld h13 rfl (opg rfl hC4) (ldB Tryz.underlying3 rfl (s1.get 0 rfl:Blk _ _ _ _) rfl))) fun _ h14=>sg h14 (wT h14 rfl rfl rfl) rfl rfl rfl (v:=.bool (decide (r.fd=s.fd))) (fun hC5=>by have hq:=(dT hC5);exact rbin h14 rfl (opg rfl hC5) (opg rfl hC5) (cEq _ _ _ _ rfl) _) fun _ h15=>sv1 h15 rfl (v:=.bool ((decide (r.e=s.e))&&(decide (r.fd=s.fd)))) (rpickA h15 rfl (E:=(decide (r.e=s.e))) (F:=(decide (r.fd=s.fd))) rfl rfl rfl (fun e=>if_pos (by rw [e];try rfl))) fun _ h16=>mv h16 rfl fun _ h17=>sg h17 (wT h17 rfl rfl rfl) rfl rfl rfl (v:=.pointer (some ⟨g4,2,none⟩)) (fun hC6=>by have hq:=(And.intro (dT (andT hC6).1) (dT (andT hC6).2));exact rfa h17 rfl rfl (fun w=>fz_api_Reply_2 g4 0 w) _) fun _ h18=>sg h18 (wT h18 rfl rfl rfl) rfl rfl rfl (v:=.string (strB r.data)) (fun hC7=>by have hq:=(And.intro (dT (andT hC7).1) (dT (andT hC7).2));exact (rld h18 rfl (opg rfl hC7) (ldB Tryz.underlying9 rfl (s1.get 1 rfl:Blk _ _ _ _) rfl))) fun _ h19=>sg h19 (wT h19 rfl rfl rfl) rfl rfl rfl (v:=.pointer (some ⟨g1,2,none⟩)) (fun hC8=>by have hq:=(And.intro (dT (andT hC8).1) (dT (andT hC8).2));exact rfa h19 rfl rfl (fun w=>fz_api_Reply_2 g1 0 w) _) fun _ h20=>sg h20 (wT h20 rfl rfl rfl) rfl rfl rfl (v:=.string (strB s.data)) (fun hC9=>by have hq:=(And.intro (dT (andT hC9).1) (dT (andT hC9).2));exact (rld h20 rfl (opg rfl hC9) (ldB Tryz.underlying9 rfl (s1.get 0 rfl:Blk _ _ _ _) rfl))) fun _ h21=>?_
 refine sg h21 (wT h21 rfl rfl rfl) rfl rfl rfl (v:=.bool (decide (r.data=s.data))) (fun hC10=>by have hq:=(And.intro (dT (andT hC10).1) (dT (andT hC10).2));exact rbin h21 rfl (opg rfl hC10) (opg rfl hC10) (bStrEqL _ _ _ r.data s.data rfl) _) fun _ h22=>sv1 h22 rfl (v:=.bool (((decide (r.e=s.e))&&(decide (r.fd=s.fd)))&&(decide (r.data=s.data)))) (rpickA h22 rfl (E:=((decide (r.e=s.e))&&(decide (r.fd=s.fd)))) (F:=(decide (r.data=s.data))) rfl rfl rfl (fun e=>if_pos (by rw [e];try rfl))) fun _ h23=>mv h23 rfl fun _ h24=>sg h24 (wT h24 rfl rfl rfl) rfl rfl rfl (v:=.pointer (some ⟨g4,4,none⟩)) (fun hC11=>by have hq:=(And.intro (And.intro (dT (andT (andT hC11).1).1) (dT (andT (andT hC11).1).2)) (dT (andT hC11).2));exact rfa h24 rfl rfl (fun w=>fz_api_Reply_4 g4 0 w) _) fun _ h25=>sg h25 (wT h25 rfl rfl rfl) rfl rfl rfl (v:=.agg #[.int .i64 r.kind,.int .i64 r.links,.int .i64 r.size]) (fun hC12=>by have hq:=(And.intro (And.intro (dT (andT (andT hC12).1).1) (dT (andT (andT hC12).1).2)) (dT (andT hC12).2));exact (rld h25 rfl (opg rfl hC12) (ldA Tryz.underlying26 rfl (n:=3) (by kernel_rfl) (s1.get 1 rfl:Blk _ _ _ _) rfl rfl))) fun _ h26=>sg h26 (wT h26 rfl rfl rfl) rfl rfl rfl (v:=.pointer (some ⟨g1,4,none⟩)) (fun hC13=>by have hq:=(And.intro (And.intro (dT (andT (andT hC13).1).1) (dT (andT (andT hC13).1).2)) (dT (andT hC13).2));exact rfa h26 rfl rfl (fun w=>fz_api_Reply_4 g1 0 w) _) fun _ h27=>sg h27 (wT h27 rfl rfl rfl) rfl rfl rfl (v:=.agg #[.int .i64 s.kind,.int .i64 s.links,.int .i64 s.size]) (fun hC14=>by have hq:=(And.intro (And.intro (dT (andT (andT hC14).1).1) (dT (andT (andT hC14).1).2)) (dT (andT hC14).2));exact (rld h27 rfl (opg rfl hC14) (ldA Tryz.underlying26 rfl (n:=3) (by kernel_rfl) (s1.get 0 rfl:Blk _ _ _ _) rfl rfl))) fun _ h28=>sg h28 (wT h28 rfl rfl rfl) rfl rfl rfl (v:=.bool ((decide (r.kind=s.kind))&&((decide (r.links=s.links))&&(decide (r.size=s.size))))) (fun hC15=>by have hq:=(And.intro (And.intro (dT (andT (andT hC15).1).1) (dT (andT (andT hC15).1).2)) (dT (andT hC15).2));exact rbin h28 rfl (opg rfl hC15) (opg rfl hC15) (eqS_api_Info_x2_eql _ _ r.kind r.links r.size s.kind s.links s.size) _) fun _ h29=>sv1 h29 rfl (v:=.bool ((((decide (r.e=s.e))&&(decide (r.fd=s.fd)))&&(decide (r.data=s.data)))&&((decide (r.kind=s.kind))&&((decide (r.links=s.links))&&(decide (r.size=s.size)))))) (rpickA h29 rfl (E:=(((decide (r.e=s.e))&&(decide (r.fd=s.fd)))&&(decide (r.data=s.data)))) (F:=((decide (r.kind=s.kind))&&((decide (r.links=s.links))&&(decide (r.size=s.size))))) rfl rfl rfl (fun e=>if_pos (by rw [e];try rfl))) fun _ h30=>mv h30 rfl fun _ h31=>?_
 refine sg h31 (wT h31 rfl rfl rfl) rfl rfl rfl (v:=.pointer (some ⟨g4,3,none⟩)) (fun hC16=>by have hq:=(And.intro (And.intro (And.intro (dT (andT (andT (andT hC16).1).1).1) (dT (andT (andT (andT hC16).1).1).2)) (dT (andT (andT hC16).1).2)) (And.intro (dT (andT (andT hC16).2).1) (And.intro (dT (andT (andT (andT hC16).2).2).1) (dT (andT (andT (andT hC16).2).2).2))));exact rfa h31 rfl rfl (fun w=>fz_api_Reply_3 g4 0 w) _) fun _ h32=>sg h32 (wT h32 rfl rfl rfl) rfl rfl rfl (v:=.slice a r.names.length c) (fun hC17=>by have hq:=(And.intro (And.intro (And.intro (dT (andT (andT (andT hC17).1).1).1) (dT (andT (andT (andT hC17).1).1).2)) (dT (andT (andT hC17).1).2)) (And.intro (dT (andT (andT hC17).2).1) (And.intro (dT (andT (andT (andT hC17).2).2).1) (dT (andT (andT (andT hC17).2).2).2))));exact (rld h32 rfl (opg rfl hC17) (ldB Tryz.underlying24 rfl (s1.get 1 rfl:Blk _ _ _ _) rfl))) fun _ h33=>sg h33 (wT h33 rfl rfl rfl) rfl rfl rfl (v:=.pointer (some ⟨g1,3,none⟩)) (fun hC18=>by have hq:=(And.intro (And.intro (And.intro (dT (andT (andT (andT hC18).1).1).1) (dT (andT (andT (andT hC18).1).1).2)) (dT (andT (andT hC18).1).2)) (And.intro (dT (andT (andT hC18).2).1) (And.intro (dT (andT (andT (andT hC18).2).2).1) (dT (andT (andT (andT hC18).2).2).2))));exact rfa h33 rfl rfl (fun w=>fz_api_Reply_3 g1 0 w) _) fun _ h34=>sg h34 (wT h34 rfl rfl rfl) rfl rfl rfl (v:=.slice b s.names.length c2) (fun hC19=>by have hq:=(And.intro (And.intro (And.intro (dT (andT (andT (andT hC19).1).1).1) (dT (andT (andT (andT hC19).1).1).2)) (dT (andT (andT hC19).1).2)) (And.intro (dT (andT (andT hC19).2).1) (And.intro (dT (andT (andT (andT hC19).2).2).1) (dT (andT (andT (andT hC19).2).2).2))));exact (rld h34 rfl (opg rfl hC19) (ldB Tryz.underlying24 rfl (s1.get 0 rfl:Blk _ _ _ _) rfl))) fun _ h35=>?_
 rcases bC ((((decide (r.e=s.e))&&(decide (r.fd=s.fd)))&&(decide (r.data=s.data)))&&((decide (r.kind=s.kind))&&((decide (r.links=s.links))&&(decide (r.size=s.size))))) with hc1 | hc1
 ·skip
  have hp1:(((r.e=s.e)∧(r.fd=s.fd))∧(r.data=s.data))∧((r.kind=s.kind)∧((r.links=s.links)∧(r.size=s.size))):=(And.intro (And.intro (And.intro (dT (andT (andT (andT hc1).1).1).1) (dT (andT (andT (andT hc1).1).1).2)) (dT (andT (andT hc1).1).2)) (And.intro (dT (andT (andT hc1).2).1) (And.intro (dT (andT (andT (andT hc1).2).2).1) (dT (andT (andT (andT hc1).2).2).2))))
  refine so ((wT h35 rfl rfl rfl).trans hc1) fun _ hK5=>xcall h35 rfl rfl rfl (xs:=[.tmp 33,.tmp 35]) rfl cp_slices_Equal_string_string_x2 rfl (vs:=[.slice a r.names.length c,.slice b s.names.length c2]) (mapcS (opg rfl hc1) (mapcS (opg rfl hc1) rfl)) (args:=#[.slice a r.names.length c,.slice b s.names.length c2]) rfl (equalSX_s (L:=r.names) (M:=s.names) (s1.pk [2,3,0,1,4] rfl) hx hr) fun _ v1 w2 r1 h36=>hK5 _ _ ?_
  obtain ⟨rfl,s2⟩:=r1
  refine sv1 h36 rfl (v:=.bool (decide (r.names=s.names))) (rpickE h36 rfl (E:=((((decide (r.e=s.e))&&(decide (r.fd=s.fd)))&&(decide (r.data=s.data)))&&((decide (r.kind=s.kind))&&((decide (r.links=s.links))&&(decide (r.size=s.size)))))) (b:=true) rfl hc1 rfl) fun _ h37=>h37.sk [37,36,35,34,33,32,31,30,29,28,27,26,25,24,23,22,21,20,19,18,17,16,15,14,13,12,11,10,9,8,7,6,5,3,2,0,1] rfl fun h38=>mv h38 rfl fun _ h39=>h39.sn [4,3,2,0,1] rfl fun h40=>hK4 _ _<|wp_ret ?_
  try simp only [Exit.then,Exit.inBlock]
  refine retR (v:=.bool (decide (r.names=s.names))) (res1 h40 rfl rfl) h40.defs ?_
  exact ⟨congrArg Value.bool (by unfold eqA;rw [hc1];rfl),Sep.tail_un (xs:=[_,_]) (s2.pk [0,1,4] rfl)⟩
 ·skip
  have hp2:(((¬ (r.e=s.e))∨(¬ (r.fd=s.fd)))∨(¬ (r.data=s.data)))∨((¬ (r.kind=s.kind))∨((¬ (r.links=s.links))∨(¬ (r.size=s.size)))):=((andF hc1).imp (fun q=>((andF q).imp (fun q=>((andF q).imp (fun q=>(dF q)) (fun q=>(dF q)))) (fun q=>(dF q)))) (fun q=>((andF q).imp (fun q=>(dF q)) (fun q=>((andF q).imp (fun q=>(dF q)) (fun q=>(dF q)))))))
  refine su h35 ((wT h35 rfl rfl rfl).trans hc1) rfl rfl rfl fun _ h41=>sv1 h41 rfl (v:=.bool false) (rpickE h41 rfl (E:=((((decide (r.e=s.e))&&(decide (r.fd=s.fd)))&&(decide (r.data=s.data)))&&((decide (r.kind=s.kind))&&((decide (r.links=s.links))&&(decide (r.size=s.size)))))) (b:=false) rfl hc1 rfl) fun _ h42=>h42.sk [37,36,35,34,33,32,31,30,29,28,27,26,25,24,23,22,21,20,19,18,17,16,15,14,13,12,11,10,9,8,7,6,5,3,2,0,1] rfl fun h43=>mv h43 rfl fun _ h44=>h44.sn [4,3,2,0,1] rfl fun h45=>hK4 _ _<|wp_ret ?_
  try simp only [Exit.then,Exit.inBlock]
  refine retR (v:=.bool false) (res1 h45 rfl rfl) h45.defs ?_
  exact ⟨congrArg Value.bool (by unfold eqA;rw [hc1];rfl),Sep.tail_un (xs:=[_,_]) (s1.pk [2,3,4] rfl)⟩

set_option maxHeartbeats 4000000 in
theorem isNaN_s {w:World} {R:List Ch} {x:Int} (hS0:Sep w R) :
  CallsR Tryz.prog 49 #[.int .i64 x] w (fun v w'=>v=.bool false∧Sep w' R):=by
 have hS:Sep w [Ch.many R]:=Sep.tail_many (xs:=[]) hS0;clear hS0
 refine enterR Tryz.func49 rfl (N:=6) Tryz.ntmps49 (by show 1≤6;decide) [(0,.int .i64 x)] rfl fun _ h1=>sqr fun _ hK3=>mv h1 rfl fun _ h4=>wpList_nil<|hK3 _ _<|sqr fun _ hK6=>mvs 2 h4 rfl fun _ h9=>bv h9 rfl (cNe _ _ _ _ (decide_eq_false (fun h=>h rfl))) fun _ h2=>h2.sk [5,4,3,0] rfl fun h3=>mv h3 rfl fun _ h5=>h5.sk [2,0] rfl fun h6=>?_
 refine wpList_nil<|hK6 _ _<|wp_ret ?_
 try simp only [Exit.then,Exit.inBlock]
 refine retR (v:=.bool false) (res1 h6 rfl rfl) h6.defs ?_
 exact ⟨rfl,Sep.tail_un (xs:=[]) hS⟩

set_option maxHeartbeats 4000000 in
theorem less_s {w:World} {R:List Ch} {x y:Int} (hS0:Sep w R) :
  CallsR Tryz.prog 68 #[.int .i64 x,.int .i64 y] w (fun v w'=>v=.bool (decide (x<y))∧Sep w' R):=by
 have hS:Sep w [Ch.many R]:=Sep.tail_many (xs:=[]) hS0;clear hS0
 refine enterR Tryz.func68 rfl (N:=17) Tryz.ntmps68 (by show 2≤17;decide) [(0,.int .i64 x),(1,.int .i64 y)] rfl fun _ h1=>sqr fun _ hK3=>mv h1 rfl fun _ h4=>wpList_nil<|hK3 _ _<|sqr fun _ hK6=>mv h4 rfl fun _ h7=>cl h7 rfl cp_cmp_isNaN_int_z4 (isNaN_s (x:=x) hS) fun _ v1 w1 r1 h9=>?_
 obtain ⟨rfl,s1⟩:=r1
 refine mv h9 rfl fun _ h2=>su h2 (wT h2 (E:=false) rfl rfl rfl) rfl rfl rfl fun _ h3=>su h3 (wT h3 (E:=false) rfl rfl rfl) rfl rfl rfl fun _ h5=>su h5 (wT h5 (E:=false) rfl rfl rfl) rfl rfl rfl fun _ h6=>sv1 h6 rfl (v:=.bool false) (rpick h6 rfl rfl rfl) fun _ h8=>mv h8 rfl fun _ h10=>sv h10 (wF h10 (E:=false) rfl rfl rfl) rfl rfl rfl (v:=.int .i64 x) (rmove h10 rfl rfl) fun _ h11=>sv h11 (wF h11 (E:=false) rfl rfl rfl) rfl rfl rfl (v:=.int .i64 y) (rmove h11 rfl rfl) fun _ h12=>sv h12 (wF h12 (E:=false) rfl rfl rfl) rfl rfl rfl (v:=.bool (decide (x<y))) (rbin h12 rfl rfl rfl (cLt _ _ _ _ rfl)) fun _ h13=>sv1 h13 rfl (v:=.bool (decide (x<y))) (rpick h13 rfl rfl rfl) fun _ h14=>?_
 refine h14.sk [16,15,14,13,12,11,10,9,8,7,6,5,0,1] rfl fun h15=>mv h15 rfl fun _ h16=>h16.sn [4,0,1] rfl fun h17=>hK6 _ _<|wp_ret ?_
 try simp only [Exit.then,Exit.inBlock]
 refine retR (v:=.bool (decide (x<y))) (res1 h17 rfl rfl) h17.defs ?_
 exact ⟨rfl,Sep.tail_un (xs:=[]) s1⟩

set_option maxHeartbeats 4000000 in
theorem compare_s {w:World} {R:List Ch} {x y:Int} (hS0:Sep w R) :
  CallsR Tryz.prog 42 #[.int .i64 x,.int .i64 y] w (fun v w'=>v=.int .i64 (cmpI x y)∧Sep w' R):=by
 have hS:Sep w [Ch.many R]:=Sep.tail_many (xs:=[]) hS0;clear hS0
 refine enterR Tryz.func42 rfl (N:=20) Tryz.ntmps42 (by show 2≤20;decide) [(0,.int .i64 x),(1,.int .i64 y)] rfl fun _ h1=>sqr fun _ hK3=>mv h1 rfl fun _ h4=>wpList_nil<|hK3 _ _<|sqr fun _ hK6=>mv h4 rfl fun _ h7=>cl h7 rfl cp_cmp_isNaN_int_z5 (isNaN_s (x:=x) hS) fun _ v1 w1 r1 h9=>?_
 obtain ⟨rfl,s1⟩:=r1
 refine mv h9 rfl fun _ h2=>h2.sn [5,4,0,1] rfl fun h3=>hK6 _ _<|sqr fun _ hK1=>mv h3 rfl fun _ h5=>cl h5 rfl cp_cmp_isNaN_int_z5 (isNaN_s (x:=y) s1) fun _ v2 w2 r2 h6=>?_
 obtain ⟨rfl,s2⟩:=r2
 refine mv h6 rfl fun _ h8=>h8.sn [6,5,4,0,1] rfl fun h10=>hK1 _ _<|sq fun _ hK2=>sqr fun _ hK4=>mv h10 rfl fun _ h11=>wpList_nil<|hK4 _ _<|wcF h11 rfl rfl<|h11.sk [6,5,4,0,1] rfl fun h12=>wp_skip<|hK2 _ _<|sq fun _ hK5=>sq fun _ hK7=>wp_region_lit ?_
 refine mv h12 rfl fun _ h13=>wpList_nil<|hK7 _ _<|wcF h13 rfl rfl<|h13.sk [6,5,4,0,1] rfl fun h14=>wp_skip<|hK5 _ _<|sq fun _ hK8=>sqr fun _ hK9=>mvs 2 h14 rfl fun _ h15=>bv h15 (z:=.bool (decide (x<y))) rfl (cLt _ _ _ _ rfl) fun _ h16=>h16.sn [16,6,5,4,0,1] rfl fun h17=>hK9 _ _ ?_
 rcases bC (decide (x<y)) with hc1 | hc1
 ·skip
  have hp1:x<y:=(dT hc1)
  refine wcT h17 rfl hc1<|h17.sk [6,5,4,0,1] rfl fun h18=>sqr fun _ hK10=>h18.sk [6,5,0,1] rfl fun h19=>mv h19 rfl fun _ h20=>wpList_nil<|hK10 _ _<|wp_ret ?_
  try simp only [Exit.then,Exit.inBlock]
  refine retR (v:=.int .i64 (-1)) (res1 h20 rfl rfl) h20.defs ?_
  exact ⟨congrArg (Value.int .i64) (by unfold cmpI;(repeat' split)<;>omega),Sep.tail_un (xs:=[]) s2⟩
 ·skip
  have hp2:¬ (x<y):=(dF hc1)
  refine wcF h17 rfl hc1<|h17.sk [6,5,4,0,1] rfl fun h21=>wp_skip<|hK8 _ _<|sq fun _ hK11=>sqr fun _ hK12=>mvs 2 h21 rfl fun _ h22=>bv h22 (z:=.bool (decide (x>y))) rfl (cGt _ _ _ _ rfl) fun _ h23=>h23.sn [19,6,5,4,0,1] rfl fun h24=>hK12 _ _ ?_
  rcases bC (decide (x>y)) with hc2 | hc2
  ·skip
   have hp3:x>y:=(dT hc2)
   refine wcT h24 rfl hc2<|h24.sk [6,5,4,0,1] rfl fun h25=>sqr fun _ hK13=>h25.sk [6,5,0,1] rfl fun h26=>mv h26 rfl fun _ h27=>wpList_nil<|hK13 _ _<|wp_ret ?_
   try simp only [Exit.then,Exit.inBlock]
   refine retR (v:=.int .i64 1) (res1 h27 rfl rfl) h27.defs ?_
   exact ⟨congrArg (Value.int .i64) (by unfold cmpI;(repeat' split)<;>omega),Sep.tail_un (xs:=[]) s2⟩
  ·skip
   have hp4:¬ (x>y):=(dF hc2)
   refine wcF h24 rfl hc2<|h24.sk [6,5,4,0,1] rfl fun h28=>wp_skip<|hK11 _ _<|sqr fun _ hK14=>h28.sk [6,5,0,1] rfl fun h29=>mv h29 rfl fun _ h30=>wpList_nil<|hK14 _ _<|wp_ret ?_
   try simp only [Exit.then,Exit.inBlock]
   refine retR (v:=.int .i64 0) (res1 h30 rfl rfl) h30.defs ?_
   exact ⟨congrArg (Value.int .i64) (by unfold cmpI;(repeat' split)<;>omega),Sep.tail_un (xs:=[]) s2⟩

set_option maxHeartbeats 4000000 in
theorem sortedI_s {w:World} {R:List Ch} {g:Nat} {x y z:Int} (hS0:Sep w ([blkC g 3 [.int .i64 x,.int .i64 y,.int .i64 z]]++R)) :
  CallsR Tryz.prog 52 #[.slice (some ⟨g,0,none⟩) 3 3] w (fun v w'=>v=.bool (decide (x≤y∧y≤z))∧Sep w' R):=by
 have hS:Sep w [blkC g 3 ([x,y,z].map iV),Ch.many R]:=Sep.tail_many (xs:=[_]) hS0;clear hS0
 have hl3:[x,y,z].length=3:=rfl
 refine enterR Tryz.func52 rfl (N:=21) Tryz.ntmps52 (by show 1≤21;decide) [(0,.slice (some ⟨g,0,none⟩) 3 3)] rfl fun _ h1=>sqr fun _ hK3=>mv h1 rfl fun _ h4=>wpList_nil<|hK3 _ _<|sq fun _ hK6=>sqr fun _ hK7=>mv h4 rfl fun _ h8=>sv1 h8 rfl (v:=.int .i64 3) (rlenS h8 rfl rfl Tryz.underlying90) fun _ h3=>bv h3 (z:=.int .i64 2) rfl (bSub _ _ _ (by decide) (by decide) (by decide)) fun _ h5=>mv h5 rfl fun _ h6=>h6.sk [3,2,0] rfl fun h7=>?_
 refine wpList_nil<|hK7 _ _<|wp_block ?_
 refine wp_loop1 (fun (i:Nat) a' w'=>Kn 21 [(3,.int .i64 (i:Int)),(2,.bool false),(0,.slice (some ⟨g,0,none⟩) 3 3)] a'∧Sep w' [blkC g 3 ([x,y,z].map iV),Ch.many R]∧(i≤2)∧(∀ j,i≤j→j<2→[x,y,z].getD j 0≤[x,y,z].getD (j+1) 0)) (fun (i:Nat)=>i) 2 ⟨h7.subs rfl,hS,Nat.le_refl _,fun j h1 h2=>absurd h2 (by omega)⟩ ?_
 rintro i1 a1 w2 ⟨h9,s1,hi22,ha23⟩ K1 hK1
 refine sq fun _ hK2=>sqr fun _ hK4=>mv h9 rfl fun _ h10=>bv h10 (z:=.bool (decide ((i1:Int)>0))) rfl (cGt _ _ _ _ rfl) fun _ h11=>h11.sn [8,3,2,0] rfl fun h12=>hK4 _ _ ?_
 rcases bC (decide ((i1:Int)>0)) with hc1 | hc1
 ·skip
  have hp1:(i1:Int)>0:=(dT hc1)
  refine wcT h12 rfl hc1<|h12.sk [3,2,0] rfl fun h13=>wp_skip<|hK2 _ _<|sq fun _ hK5=>wp_block ?_
  refine sq fun _ hK8=>?_
  have s2:=s1.drew
  refine wp_region_held_drew (S:=fun w'=>Sep w' [blkC g 3 ([x,y,z].map iV),Ch.many R]) (by kernel_rfl) s2 (fun hq1=>?_)
  refine tv1 hq1 h13 0 rfl rfl (v:=.slice (some ⟨g,0,none⟩) 3 3) (fun w1 _=>(rmove h13 rfl rfl) w1) fun _ h14=>?_
  refine tv1 hq1 h14 1 rfl rfl (v:=.int .i64 (i1:Int)) (fun w1 _=>(rmove h14 rfl rfl) w1) fun _ h15=>?_
  refine tv1 hq1 h15 2 rfl rfl (v:=.pointer (some ⟨g,i1,none⟩)) (fun w1 _=>(rindexA h15 rfl rfl rfl (fun w=>ixS Tryz.underlying90 (by kernel_rfl) (sz:=1) (j:=i1) rfl (by omega) (Nat.mul_one _) w)) w1) fun _ h16=>?_
  refine tv1 hq1 h16 3 rfl rfl (v:=.int .i64 ([x,y,z].getD i1 0)) (fun w1 hSw=>(rld h16 rfl rfl (ldB Tryz.underlying3 rfl (hSw.get 0 rfl:Blk _ _ _ _) (li_get (by omega))))) fun _ h17=>?_
  refine tv1 hq1 h17 4 rfl rfl (v:=.slice (some ⟨g,0,none⟩) 3 3) (fun w1 _=>(rmove h17 rfl rfl) w1) fun _ h18=>?_
  refine tv1 hq1 h18 5 rfl rfl (v:=.int .i64 (i1:Int)) (fun w1 _=>(rmove h18 rfl rfl) w1) fun _ h19=>?_
  refine tv1 hq1 h19 6 rfl rfl (v:=.int .i64 ((i1-1:Nat):Int)) (fun w1 _=>(rbin h19 rfl rfl rfl (bSub _ _ _ (by omega) (by omega) (by omega))) w1) fun _ h20=>?_
  refine tv1 hq1 h20 7 rfl rfl (v:=.pointer (some ⟨g,i1-1,none⟩)) (fun w1 _=>(rindexA h20 rfl rfl rfl (fun w=>ixS Tryz.underlying90 (by kernel_rfl) (sz:=1) (j:=i1-1) rfl (by omega) (Nat.mul_one _) w)) w1) fun _ h21=>?_
  refine tv1 hq1 h21 8 rfl rfl (v:=.int .i64 ([x,y,z].getD (i1-1) 0)) (fun w1 hSw=>(rld h21 rfl rfl (ldB Tryz.underlying3 rfl (hSw.get 0 rfl:Blk _ _ _ _) (li_get (by omega))))) fun _ h22=>?_
  refine to_ 9 rfl (wanted_none rfl) (by kernel_rfl) fun _ hK9=>xcall h22 rfl rfl rfl (xs:=[.tmp 14,.tmp 19]) rfl cp_cmp_Less_int_z6 rfl (vs:=[.int .i64 ([x,y,z].getD i1 0),.int .i64 ([x,y,z].getD (i1-1) 0)]) rfl (args:=#[.int .i64 ([x,y,z].getD i1 0),.int .i64 ([x,y,z].getD (i1-1) 0)]) rfl (less_s (x:=[x,y,z].getD i1 0) (y:=[x,y,z].getD (i1-1) 0) s2) fun _ v1 w3 r1 h23=>?_
  obtain ⟨rfl,s3⟩:=r1
  refine hK9 _ _ s3 fun hq2=>h23.sk [20,3,2,0] rfl fun h24=>?_
  refine wpAnyH_done (by kernel_rfl) ?_ _
  refine hK8 _ _ ?_
  rcases bC (decide ([x,y,z].getD i1 0 < [x,y,z].getD (i1-1) 0)) with hc2 | hc2
  ·skip
   have hp2:[x,y,z].getD i1 0 < [x,y,z].getD (i1-1) 0:=(dT hc2)
   refine wcT h24 rfl hc2<|h24.sk [3,2,0] rfl fun h25=>sqr fun _ hK10=>h25.sk [3,0] rfl fun h26=>mv h26 rfl fun _ h27=>wpList_nil<|hK10 _ _<|wp_ret ?_
   try simp only [Exit.then,Exit.inBlock]
   refine retR (v:=.bool false) (res1 h27 rfl rfl) h27.defs ?_
   exact ⟨congrArg Value.bool (decide_eq_false (asc_not (by omega) (dT hc2))).symm,Sep.tail_un (xs:=[]) (s3.pk [1] rfl)⟩
  ·skip
   have hp3:¬ ([x,y,z].getD i1 0 < [x,y,z].getD (i1-1) 0):=(dF hc2)
   refine wcF h24 rfl hc2<|h24.sk [3,2,0] rfl fun h28=>wp_skip<|hK5 _ _<|wp_region_lit<|mv h28 rfl fun _ h29=>bv h29 (z:=.int .i64 ((i1-1:Nat):Int)) rfl (bSub _ _ _ (by omega) (by omega) (by omega)) fun _ h30=>h30.sk [10,9,2,0] rfl fun h31=>mv h31 rfl fun _ h32=>h32.sk [3,2,0] rfl fun h33=>wpList_nil ?_
   exact hK1 (i1-1) _ _ ⟨h33.subs rfl,s3,by omega,(fun j h1 h2=>if hj:j+1=i1 then (by subst hj;exact asc_step hc2 (by omega)) else ha23 j (by omega) h2)⟩ (by omega)
 ·skip
  have hp4:¬ ((i1:Int)>0):=(dF hc1)
  refine wcF h12 rfl hc1<|h12.sk [3,2,0] rfl fun h34=>wp_exit ?_
  refine hK6 _ _ ?_
  refine sqr fun _ hK11=>h34.sk [3,0] rfl fun h35=>mv h35 rfl fun _ h36=>wpList_nil<|hK11 _ _<|wp_ret ?_
  try simp only [Exit.then,Exit.inBlock]
  refine retR (v:=.bool true) (res1 h36 rfl rfl) h36.defs ?_
  exact ⟨congrArg Value.bool (decide_eq_true ⟨ha23 0 (by omega) (by decide),ha23 1 (by omega) (by decide)⟩).symm,Sep.tail_un (xs:=[]) (s1.pk [1] rfl)⟩

set_option maxHeartbeats 4000000 in
theorem ascending_s {w:World} {R:List Ch} {g:Nat} {x y z:Int} (hS0:Sep w ([blkC g 3 [.int .i64 x,.int .i64 y,.int .i64 z]]++R)) :
  CallsR Tryz.prog 45 #[.slice (some ⟨g,0,none⟩) 3 3] w (fun v w'=>v=.bool (decide (x≤y∧y≤z))∧Sep w' R):=by
 have hS:Sep w [blkC g 3 [.int .i64 x,.int .i64 y,.int .i64 z],Ch.many R]:=Sep.tail_many (xs:=[_]) hS0;clear hS0
 refine enterR Tryz.func45 rfl (N:=5) Tryz.ntmps45 (by show 1≤5;decide) [(0,.slice (some ⟨g,0,none⟩) 3 3)] rfl fun _ h1=>sqr fun _ hK3=>mv h1 rfl fun _ h4=>wpList_nil<|hK3 _ _<|sqr fun _ hK6=>mv h4 rfl fun _ h7=>cl h7 rfl cp_slices_IsSorted_int_int_z7 (sortedI_s hS) fun _ v1 w1 r1 h9=>?_
 obtain ⟨rfl,s1⟩:=r1
 refine h9.sk [4,3,0] rfl fun h2=>mv h2 rfl fun _ h3=>h3.sn [2,0] rfl fun h5=>hK6 _ _<|wp_ret ?_
 try simp only [Exit.then,Exit.inBlock]
 refine retR (v:=.bool (decide (x≤y∧y≤z))) (res1 h5 rfl rfl) h5.defs ?_
 exact ⟨rfl,Sep.tail_un (xs:=[]) s1⟩

set_option maxHeartbeats 4000000 in
theorem fitsX_s {w W1:World} {cf ob n:Nat} {F G:FsM} {A:AdM} {R:List Ch} {r:RepM} {ev:EvM} (hS0:Sep w ([blkC cf 89 [.pointer (some ⟨(A.ad 0),0,none⟩),.map (some ob)],nodX F A,mapC KO ob A.C (opG F A),oldC W1 W1.heap.size]++R)) (h:FsA F A n) (hn:n≤800) (h1:ev.x.p1.length≤1000) (h2:ev.x.p2.length≤1000) (h3:ev.x.data.length≤1000) (hxf:(Lit.int .i64 ev.x.fd).wf=true) (hd:doF F ev.cl ev.x=(G,r)) (hc1:¬ (ev.told>0∧ev.r.e=18)) (hc2:ev.told>0∨ev.r.e=0) (hx:ExtA W1 ev.na ev.r.names.length ev.nc 1 (fun k=>[.string (ev.r.names.getD k noNm)])) (hrn:r.names.length≤100000) :
  CallsR Tryz.prog 27 #[.pointer (some ⟨cf,0,none⟩),.agg #[.int .i64 ev.cl,.int .i64 ev.num,.int .i64 ev.x.kind,.string (strB ev.x.p1),.string (strB ev.x.p2),.int .i64 ev.x.fl,.int .i64 ev.x.fd,.int .i64 ev.x.off,.int .i64 ev.x.n,.string (strB ev.x.data),.int .i64 ev.asked,.int .i64 ev.done,.int .i64 ev.told,.int .i64 ev.r.e,.int .i64 ev.r.fd,.string (strB ev.r.data),.slice ev.na ev.r.names.length ev.nc,.int .i64 ev.r.kind,.int .i64 ev.r.links,.int .i64 ev.r.size]] w (fun v w'=>∃ A',v=.bool (fitB ev r)∧Sep w' ([blkC cf 89 [.pointer (some ⟨(A'.ad 0),0,none⟩),.map (some ob)],nodX G A',mapC KO ob A'.C (opG G A'),oldC W1 W1.heap.size]++R)∧FsA G A' (n+1)):=by
 have hS:Sep w [blkC cf 89 [.pointer (some ⟨(A.ad 0),0,none⟩),.map (some ob)],nodX F A,mapC KO ob A.C (opG F A),oldC W1 W1.heap.size,Ch.many R]:=Sep.tail_many (xs:=[_,_,_,_]) hS0;clear hS0
 refine enterR Tryz.func27 rfl (N:=51) Tryz.ntmps27 (by show 2≤51;decide) [(0,.pointer (some ⟨cf,0,none⟩)),(1,.agg #[.int .i64 ev.cl,.int .i64 ev.num,.int .i64 ev.x.kind,.string (strB ev.x.p1),.string (strB ev.x.p2),.int .i64 ev.x.fl,.int .i64 ev.x.fd,.int .i64 ev.x.off,.int .i64 ev.x.n,.string (strB ev.x.data),.int .i64 ev.asked,.int .i64 ev.done,.int .i64 ev.told,.int .i64 ev.r.e,.int .i64 ev.r.fd,.string (strB ev.r.data),.slice ev.na ev.r.names.length ev.nc,.int .i64 ev.r.kind,.int .i64 ev.r.links,.int .i64 ev.r.size])] rfl fun _ h1=>sqr fun _ hK3=>so (wanted_none rfl) fun _ hK1=>xbox h1 rfl rfl rfl rfl rfl (z:=[.int .i64 ev.cl,.int .i64 ev.num,.int .i64 ev.x.kind,.string (strB ev.x.p1),.string (strB ev.x.p2),.int .i64 ev.x.fl,.int .i64 ev.x.fd,.int .i64 ev.x.off,.int .i64 ev.x.n,.string (strB ev.x.data),.int .i64 ev.asked,.int .i64 ev.done,.int .i64 ev.told,.int .i64 ev.r.e,.int .i64 ev.r.fd,.string (strB ev.r.data),.slice ev.na ev.r.names.length ev.nc,.int .i64 ev.r.kind,.int .i64 ev.r.links,.int .i64 ev.r.size]) rfl hS fun _ g4 w7 h5 s8 _ _=>hK1 _ _ ?_
 refine mv h5 rfl fun _ h4=>wpList_nil<|hK3 _ _<|sqr fun _ hK2=>fav h4 rfl (fa_api_Event_x3_5 _ _) fun _ h6=>ldv h6 s8 0 Tryz.underlying3 rfl rfl rfl rfl fun _ h7=>bv h7 (z:=.bool (decide (ev.told>0))) rfl (cGt _ _ _ _ rfl) fun _ h8=>mv h8 rfl fun _ h9=>h9.sk [5,4,3,0,1] rfl fun h10=>?_
 clear h1
 refine wpList_nil<|hK2 _ _<|sqr fun _ hK4=>mv h10 rfl fun _ h11=>wpList_nil<|hK4 _ _<|sq fun _ hK5=>wp_block ?_
 refine sqr fun _ hK6=>mvs 2 h11 rfl fun _ h12=>?_
 rcases bC (decide (ev.told>0)) with hc3 | hc3
 ·skip
  have hp1:ev.told>0:=(dT hc3)
  refine sv h12 ((wT h12 rfl rfl rfl).trans hc3) rfl rfl rfl (v:=.pointer (some ⟨g4,13,none⟩)) (rfa h12 rfl rfl (fun w=>fa_api_Event_x3_6 g4 0 w)) fun _ h13=>sv h13 ((wT h13 rfl rfl rfl).trans hc3) rfl rfl rfl (v:=.pointer (some ⟨g4,13,none⟩)) (rfa h13 rfl rfl (fun w=>fz_api_Reply_0 g4 13 w)) fun _ h14=>sw h14 ((wT h14 rfl rfl rfl).trans hc3) rfl rfl rfl (v:=.int .i64 ev.r.e) (rld h14 rfl rfl (ldB Tryz.underlying23 rfl (s8.get 0 rfl:Blk _ _ _ _) rfl)) fun _ h15=>sv h15 ((wT h15 rfl rfl rfl).trans hc3) rfl rfl rfl (v:=.bool (decide (ev.r.e=18))) (rbin h15 rfl rfl rfl (cEq _ _ _ _ rfl)) fun _ h16=>sv1 h16 rfl (v:=.bool (decide (ev.r.e=18))) (rpickE h16 rfl (E:=(decide (ev.told>0))) (b:=true) rfl hc3 rfl) fun _ h17=>mv h17 rfl fun _ h18=>h18.sn [19,6,5,4,3,0,1] rfl fun h19=>hK6 _ _ ?_
  rcases bC (decide (ev.r.e=18)) with hc4 | hc4
  ·skip
   have hp2:ev.r.e=18:=(dT hc4)
   exfalso;omega
  ·skip
   have hp3:¬ (ev.r.e=18):=(dF hc4)
   refine wcF h19 rfl hc4<|h19.sk [6,5,4,3,0,1] rfl fun h20=>sqr fun _ hK7=>mvs 3 h20 rfl fun _ h21=>su h21 ((wT h21 rfl rfl rfl).trans (bNotT hc3)) rfl rfl rfl fun _ h22=>su h22 ((wT h22 rfl rfl rfl).trans (bNotT hc3)) rfl rfl rfl fun _ h23=>su h23 ((wT h23 rfl rfl rfl).trans (bNotT hc3)) rfl rfl rfl fun _ h24=>su h24 ((wT h24 rfl rfl rfl).trans (bNotT hc3)) rfl rfl rfl fun _ h25=>sv1 h25 rfl (v:=.bool false) (rpickE h25 rfl (E:=(!(decide (ev.told>0)))) (b:=false) rfl (bNotT hc3) rfl) fun _ h26=>mv h26 rfl fun _ h27=>?_
   refine h27.sn [27,6,5,4,3,0,1] rfl fun h28=>hK7 _ _<|wcF h28 rfl rfl<|h28.sk [6,5,4,3,0,1] rfl fun h29=>?_
   have s1:=s8.drew
   refine wp_region_held_drew (S:=fun w'=>Sep w' [blkC g4 35 [.int .i64 ev.cl,.int .i64 ev.num,.int .i64 ev.x.kind,.string (strB ev.x.p1),.string (strB ev.x.p2),.int .i64 ev.x.fl,.int .i64 ev.x.fd,.int .i64 ev.x.off,.int .i64 ev.x.n,.string (strB ev.x.data),.int .i64 ev.asked,.int .i64 ev.done,.int .i64 ev.told,.int .i64 ev.r.e,.int .i64 ev.r.fd,.string (strB ev.r.data),.slice ev.na ev.r.names.length ev.nc,.int .i64 ev.r.kind,.int .i64 ev.r.links,.int .i64 ev.r.size],oldC W1 W1.heap.size,Ch.many R]) (by kernel_rfl) (s1.pk [0,4,5] rfl) (fun hq1=>?_)
   refine tv1 hq1 h29 0 rfl rfl (v:=.pointer (some ⟨cf,0,none⟩)) (fun w1 _=>(rmove h29 rfl rfl) w1) fun _ h30=>?_
   refine tv1 hq1 h30 1 rfl rfl (v:=.pointer (some ⟨g4,0,none⟩)) (fun w1 _=>(rfa h30 rfl rfl (fun w=>fa_api_Event_x3_0 g4 0 w)) w1) fun _ h31=>?_
   refine tv1 hq1 h31 2 rfl rfl (v:=.int .i64 ev.cl) (fun w1 hSw=>(rld h31 rfl rfl (ldB Tryz.underlying3 rfl (hSw.get 0 rfl:Blk _ _ _ _) rfl))) fun _ h32=>?_
   refine tv1 hq1 h32 3 rfl rfl (v:=.pointer (some ⟨g4,2,none⟩)) (fun w1 _=>(rfa h32 rfl rfl (fun w=>fa_api_Event_x3_2 g4 0 w)) w1) fun _ h33=>?_
   refine tv1 hq1 h33 4 rfl rfl (v:=.agg #[.int .i64 ev.x.kind,.string (strB ev.x.p1),.string (strB ev.x.p2),.int .i64 ev.x.fl,.int .i64 ev.x.fd,.int .i64 ev.x.off,.int .i64 ev.x.n,.string (strB ev.x.data)]) (fun w1 hSw=>(rld h33 rfl rfl (ldA Tryz.underlying33 rfl (n:=8) (by kernel_rfl) (hSw.get 0 rfl:Blk _ _ _ _) rfl rfl))) fun _ h34=>?_
   refine tv1 hq1 h34 6 rfl rfl (v:=.pointer (some ⟨g4,13,none⟩)) (fun w1 _=>(rfa h34 rfl rfl (fun w=>fa_api_Event_x3_6 g4 0 w)) w1) fun _ h35=>?_
   refine tv1 hq1 h35 7 rfl rfl (v:=.agg #[.int .i64 ev.r.e,.int .i64 ev.r.fd,.string (strB ev.r.data),.slice ev.na ev.r.names.length ev.nc,.int .i64 ev.r.kind,.int .i64 ev.r.links,.int .i64 ev.r.size]) (fun w1 hSw=>(rld h35 rfl rfl (ldA Tryz.underlying28 rfl (n:=7) (by kernel_rfl) (hSw.get 0 rfl:Blk _ _ _ _) rfl rfl))) fun _ h36=>?_
   refine to_ 5 rfl (wanted_none rfl) (by kernel_rfl) fun _ hK8=>xcall h36 rfl rfl rfl (xs:=[.tmp 10,.tmp 12,.tmp 14]) rfl cz_posix_Fs_Do rfl (vs:=[.pointer (some ⟨cf,0,none⟩),.int .i64 ev.cl,.agg #[.int .i64 ev.x.kind,.string (strB ev.x.p1),.string (strB ev.x.p2),.int .i64 ev.x.fl,.int .i64 ev.x.fd,.int .i64 ev.x.off,.int .i64 ev.x.n,.string (strB ev.x.data)]]) rfl (args:=#[.pointer (some ⟨cf,0,none⟩),.int .i64 ev.cl,.agg #[.int .i64 ev.x.kind,.string (strB ev.x.p1),.string (strB ev.x.p2),.int .i64 ev.x.fl,.int .i64 ev.x.fd,.int .i64 ev.x.off,.int .i64 ev.x.n,.string (strB ev.x.data)]]) rfl (doQ_c (cf:=cf) (A:=A) (F:=F) (n:=n) (x:=ev.x) (G:=G) (r:=r) (s1.pk [1,2,3,0,4,5] rfl) h hn h1 h2 h3 hxf hd) fun _ v1 w2 r1 h37=>?_
   obtain ⟨Ax90,sax91,scx92,rfl,s2,hA97⟩:=r1
   refine hK8 _ _ (s2.pk [4,5,6] rfl) fun hq2=>?_
   refine to_ 8 rfl (wanted_none rfl) (by kernel_rfl) fun _ hK9=>xcall h37 rfl rfl rfl (xs:=[.tmp 15,.tmp 17]) rfl cp_audit_equal_x3 rfl (vs:=[.agg #[.int .i64 r.e,.int .i64 r.fd,.string (strB r.data),.slice sax91 r.names.length scx92,.int .i64 r.kind,.int .i64 r.links,.int .i64 r.size],.agg #[.int .i64 ev.r.e,.int .i64 ev.r.fd,.string (strB ev.r.data),.slice ev.na ev.r.names.length ev.nc,.int .i64 ev.r.kind,.int .i64 ev.r.links,.int .i64 ev.r.size]]) rfl (args:=#[.agg #[.int .i64 r.e,.int .i64 r.fd,.string (strB r.data),.slice sax91 r.names.length scx92,.int .i64 r.kind,.int .i64 r.links,.int .i64 r.size],.agg #[.int .i64 ev.r.e,.int .i64 ev.r.fd,.string (strB ev.r.data),.slice ev.na ev.r.names.length ev.nc,.int .i64 ev.r.kind,.int .i64 ev.r.links,.int .i64 ev.r.size]]) rfl (equalX_s (r:=r) (s:=ev.r) (s2.pk [0,5,1,2,3,4,6] rfl) hx hrn) fun _ v2 w3 r2 h38=>?_
   obtain ⟨rfl,s3⟩:=r2
   refine hK9 _ _ (s3.pk [5,1,6] rfl) fun hq3=>h38.sk [18,15,17,16,14,13,12,11,10,5,4,3,0,1] rfl fun h39=>?_
   refine tv1 hq3 h39 9 rfl rfl (v:=.bool (eqA r ev.r)) (fun w1 _=>(rassign h39 rfl rfl) w1) fun _ h40=>?_
   refine h40.sk [6,5,4,3,0,1] rfl fun h41=>?_
   refine wpAnyH_done (by kernel_rfl) ?_ _
   refine hK5 _ _ ?_
   refine sqr fun _ hK10=>mvs 3 h41 rfl fun _ h42=>sv h42 ((wF h42 rfl rfl rfl).trans (bNotF (bNotT hc3))) rfl rfl rfl (v:=.bool (eqA r ev.r)) (rmove h42 rfl rfl) fun _ h43=>sv h43 ((wF h43 rfl rfl rfl).trans (bNotF (bNotT hc3))) rfl rfl rfl (v:=.bool (eqA r ev.r)) (rmove h43 rfl rfl) fun _ h44=>?_
   rcases bC (eqA r ev.r) with hc5 | hc5
   ·skip
    refine sv h44 ((wT h44 rfl rfl rfl).trans hc5) rfl rfl rfl (v:=.pointer (some ⟨g4,10,none⟩)) (rfa h44 rfl rfl (fun w=>fa_api_Event_x3_3 g4 0 w)) fun _ h45=>sw h45 ((wT h45 rfl rfl rfl).trans hc5) rfl rfl rfl (v:=.int .i64 ev.asked) (rld h45 rfl rfl (ldB Tryz.underlying3 rfl (s3.get 5 rfl:Blk _ _ _ _) rfl)) fun _ h46=>sv h46 ((wT h46 rfl rfl rfl).trans hc5) rfl rfl rfl (v:=.pointer (some ⟨g4,11,none⟩)) (rfa h46 rfl rfl (fun w=>fa_api_Event_x3_4 g4 0 w)) fun _ h47=>sw h47 ((wT h47 rfl rfl rfl).trans hc5) rfl rfl rfl (v:=.int .i64 ev.done) (rld h47 rfl rfl (ldB Tryz.underlying3 rfl (s3.get 5 rfl:Blk _ _ _ _) rfl)) fun _ h48=>sv h48 ((wT h48 rfl rfl rfl).trans hc5) rfl rfl rfl (v:=.pointer (some ⟨g4,12,none⟩)) (rfa h48 rfl rfl (fun w=>fa_api_Event_x3_5 g4 0 w)) fun _ h49=>sw h49 ((wT h49 rfl rfl rfl).trans hc5) rfl rfl rfl (v:=.int .i64 ev.told) (rld h49 rfl rfl (ldB Tryz.underlying3 rfl (s3.get 5 rfl:Blk _ _ _ _) rfl)) fun _ h50=>so ((wT h50 rfl rfl rfl).trans hc5) fun _ hK11=>xbuildS h50 rfl rfl rfl (E:=3) (xs:=[(0,.tmp 42),(1,.tmp 44),(2,.tmp 46)]) rfl (vs:=[(0,.int .i64 ev.asked),(1,.int .i64 ev.done),(2,.int .i64 ev.told)]) rfl (z:=[.int .i64 ev.asked,.int .i64 ev.done,.int .i64 ev.told]) (fun _=>by kernel_rfl) s3 fun _ g1 w4 h51 s4 _ _=>hK11 _ _ ?_
    refine so ((wT h51 rfl rfl rfl).trans hc5) fun _ hK12=>xcall h51 rfl rfl rfl (xs:=[.tmp 47]) rfl cp_audit_ascending_x3 rfl (vs:=[.slice (some ⟨g1,0,none⟩) 3 3]) rfl (args:=#[.slice (some ⟨g1,0,none⟩) 3 3]) rfl (ascending_s s4) fun _ v3 w5 r3 h52=>hK12 _ _ ?_
    obtain ⟨rfl,s5⟩:=r3
    refine sv h52 ((wF h52 rfl rfl rfl).trans (bNotF (bNotT hc3))) rfl rfl rfl (v:=.bool (decide (ev.asked≤ev.done∧ev.done≤ev.told))) (rpickE h52 rfl (E:=(eqA r ev.r)) (b:=true) rfl hc5 rfl) fun _ h53=>sv1 h53 rfl (v:=.bool (decide (ev.asked≤ev.done∧ev.done≤ev.told))) (rpickE h53 rfl (E:=(!(decide (ev.told>0)))) (b:=false) rfl (bNotT hc3) rfl) fun _ h54=>h54.sk [50,49,48,47,46,45,44,43,42,41,40,39,38,37,36,6,5,3,0,1] rfl fun h55=>mv h55 rfl fun _ h56=>h56.sn [4,6,5,3,0,1] rfl fun h57=>hK10 _ _<|wp_ret ?_
    try simp only [Exit.then,Exit.inBlock]
    refine retR (v:=.bool (decide (ev.asked≤ev.done∧ev.done≤ev.told))) (res1 h57 rfl rfl) h57.defs ?_
    exact ⟨Ax90,congrArg Value.bool (fitB_is (by omega) hc5).symm,Sep.tail_un (xs:=[_,_,_,_]) (s5.pk [2,3,4,1,6] rfl),hA97⟩
   ·skip
    refine su h44 ((wT h44 rfl rfl rfl).trans hc5) rfl rfl rfl fun _ h58=>su h58 ((wT h58 rfl rfl rfl).trans hc5) rfl rfl rfl fun _ h59=>su h59 ((wT h59 rfl rfl rfl).trans hc5) rfl rfl rfl fun _ h60=>su h60 ((wT h60 rfl rfl rfl).trans hc5) rfl rfl rfl fun _ h61=>su h61 ((wT h61 rfl rfl rfl).trans hc5) rfl rfl rfl fun _ h62=>su h62 ((wT h62 rfl rfl rfl).trans hc5) rfl rfl rfl fun _ h63=>su h63 ((wT h63 rfl rfl rfl).trans hc5) rfl rfl rfl fun _ h64=>su h64 ((wT h64 rfl rfl rfl).trans hc5) rfl rfl rfl fun _ h65=>sv h65 ((wF h65 rfl rfl rfl).trans (bNotF (bNotT hc3))) rfl rfl rfl (v:=.bool false) (rpickE h65 rfl (E:=(eqA r ev.r)) (b:=false) rfl hc5 rfl) fun _ h66=>sv1 h66 rfl (v:=.bool false) (rpickE h66 rfl (E:=(!(decide (ev.told>0)))) (b:=false) rfl (bNotT hc3) rfl) fun _ h67=>?_
    refine h67.sk [50,49,48,47,46,45,44,43,42,41,40,39,38,37,36,6,5,3,0,1] rfl fun h68=>mv h68 rfl fun _ h69=>h69.sn [4,6,5,3,0,1] rfl fun h70=>hK10 _ _<|wp_ret ?_
    try simp only [Exit.then,Exit.inBlock]
    refine retR (v:=.bool false) (res1 h70 rfl rfl) h70.defs ?_
    exact ⟨Ax90,congrArg Value.bool (fitB_bad (by omega) hc5).symm,Sep.tail_un (xs:=[_,_,_,_]) (s3.pk [2,3,4,1,6] rfl),hA97⟩
 ·skip
  have hp4:¬ (ev.told>0):=(dF hc3)
  refine su h12 ((wT h12 rfl rfl rfl).trans hc3) rfl rfl rfl fun _ h71=>su h71 ((wT h71 rfl rfl rfl).trans hc3) rfl rfl rfl fun _ h72=>su h72 ((wT h72 rfl rfl rfl).trans hc3) rfl rfl rfl fun _ h73=>su h73 ((wT h73 rfl rfl rfl).trans hc3) rfl rfl rfl fun _ h74=>sv1 h74 rfl (v:=.bool false) (rpickE h74 rfl (E:=(decide (ev.told>0))) (b:=false) rfl hc3 rfl) fun _ h75=>mv h75 rfl fun _ h76=>h76.sn [19,6,5,4,3,0,1] rfl fun h77=>hK6 _ _<|wcF h77 rfl rfl<|h77.sk [6,5,4,3,0,1] rfl fun h78=>?_
  refine sqr fun _ hK13=>mvs 3 h78 rfl fun _ h79=>sv h79 ((wT h79 rfl rfl rfl).trans (bNotF hc3)) rfl rfl rfl (v:=.pointer (some ⟨g4,13,none⟩)) (rfa h79 rfl rfl (fun w=>fa_api_Event_x3_6 g4 0 w)) fun _ h80=>sv h80 ((wT h80 rfl rfl rfl).trans (bNotF hc3)) rfl rfl rfl (v:=.pointer (some ⟨g4,13,none⟩)) (rfa h80 rfl rfl (fun w=>fz_api_Reply_0 g4 13 w)) fun _ h81=>sw h81 ((wT h81 rfl rfl rfl).trans (bNotF hc3)) rfl rfl rfl (v:=.int .i64 ev.r.e) (rld h81 rfl rfl (ldB Tryz.underlying23 rfl (s8.get 0 rfl:Blk _ _ _ _) rfl)) fun _ h82=>sv h82 ((wT h82 rfl rfl rfl).trans (bNotF hc3)) rfl rfl rfl (v:=.bool (decide (ev.r.e≠0))) (rbin h82 rfl rfl rfl (cNe _ _ _ _ rfl)) fun _ h83=>sv1 h83 rfl (v:=.bool (decide (ev.r.e≠0))) (rpickE h83 rfl (E:=(!(decide (ev.told>0)))) (b:=true) rfl (bNotF hc3) rfl) fun _ h84=>mv h84 rfl fun _ h85=>h85.sn [27,6,5,4,3,0,1] rfl fun h86=>hK13 _ _ ?_
  rcases bC (decide (ev.r.e≠0)) with hc6 | hc6
  ·skip
   have hp5:ev.r.e≠0:=(dT hc6)
   exfalso;omega
  ·skip
   have hp6:¬ (ev.r.e≠0):=(dF hc6)
   refine wcF h86 rfl hc6<|h86.sk [6,5,4,3,0,1] rfl fun h87=>?_
   have s6:=s8.drew
   refine wp_region_held_drew (S:=fun w'=>Sep w' [blkC g4 35 [.int .i64 ev.cl,.int .i64 ev.num,.int .i64 ev.x.kind,.string (strB ev.x.p1),.string (strB ev.x.p2),.int .i64 ev.x.fl,.int .i64 ev.x.fd,.int .i64 ev.x.off,.int .i64 ev.x.n,.string (strB ev.x.data),.int .i64 ev.asked,.int .i64 ev.done,.int .i64 ev.told,.int .i64 ev.r.e,.int .i64 ev.r.fd,.string (strB ev.r.data),.slice ev.na ev.r.names.length ev.nc,.int .i64 ev.r.kind,.int .i64 ev.r.links,.int .i64 ev.r.size],oldC W1 W1.heap.size,Ch.many R]) (by kernel_rfl) (s6.pk [0,4,5] rfl) (fun hq4=>?_)
   refine tv1 hq4 h87 0 rfl rfl (v:=.pointer (some ⟨cf,0,none⟩)) (fun w1 _=>(rmove h87 rfl rfl) w1) fun _ h88=>?_
   refine tv1 hq4 h88 1 rfl rfl (v:=.pointer (some ⟨g4,0,none⟩)) (fun w1 _=>(rfa h88 rfl rfl (fun w=>fa_api_Event_x3_0 g4 0 w)) w1) fun _ h89=>?_
   refine tv1 hq4 h89 2 rfl rfl (v:=.int .i64 ev.cl) (fun w1 hSw=>(rld h89 rfl rfl (ldB Tryz.underlying3 rfl (hSw.get 0 rfl:Blk _ _ _ _) rfl))) fun _ h90=>?_
   refine tv1 hq4 h90 3 rfl rfl (v:=.pointer (some ⟨g4,2,none⟩)) (fun w1 _=>(rfa h90 rfl rfl (fun w=>fa_api_Event_x3_2 g4 0 w)) w1) fun _ h91=>?_
   refine tv1 hq4 h91 4 rfl rfl (v:=.agg #[.int .i64 ev.x.kind,.string (strB ev.x.p1),.string (strB ev.x.p2),.int .i64 ev.x.fl,.int .i64 ev.x.fd,.int .i64 ev.x.off,.int .i64 ev.x.n,.string (strB ev.x.data)]) (fun w1 hSw=>(rld h91 rfl rfl (ldA Tryz.underlying33 rfl (n:=8) (by kernel_rfl) (hSw.get 0 rfl:Blk _ _ _ _) rfl rfl))) fun _ h92=>?_
   refine tv1 hq4 h92 6 rfl rfl (v:=.pointer (some ⟨g4,13,none⟩)) (fun w1 _=>(rfa h92 rfl rfl (fun w=>fa_api_Event_x3_6 g4 0 w)) w1) fun _ h93=>?_
   refine tv1 hq4 h93 7 rfl rfl (v:=.agg #[.int .i64 ev.r.e,.int .i64 ev.r.fd,.string (strB ev.r.data),.slice ev.na ev.r.names.length ev.nc,.int .i64 ev.r.kind,.int .i64 ev.r.links,.int .i64 ev.r.size]) (fun w1 hSw=>(rld h93 rfl rfl (ldA Tryz.underlying28 rfl (n:=7) (by kernel_rfl) (hSw.get 0 rfl:Blk _ _ _ _) rfl rfl))) fun _ h94=>?_
   refine to_ 5 rfl (wanted_none rfl) (by kernel_rfl) fun _ hK14=>xcall h94 rfl rfl rfl (xs:=[.tmp 10,.tmp 12,.tmp 14]) rfl cz_posix_Fs_Do rfl (vs:=[.pointer (some ⟨cf,0,none⟩),.int .i64 ev.cl,.agg #[.int .i64 ev.x.kind,.string (strB ev.x.p1),.string (strB ev.x.p2),.int .i64 ev.x.fl,.int .i64 ev.x.fd,.int .i64 ev.x.off,.int .i64 ev.x.n,.string (strB ev.x.data)]]) rfl (args:=#[.pointer (some ⟨cf,0,none⟩),.int .i64 ev.cl,.agg #[.int .i64 ev.x.kind,.string (strB ev.x.p1),.string (strB ev.x.p2),.int .i64 ev.x.fl,.int .i64 ev.x.fd,.int .i64 ev.x.off,.int .i64 ev.x.n,.string (strB ev.x.data)]]) rfl (doQ_c (cf:=cf) (A:=A) (F:=F) (n:=n) (x:=ev.x) (G:=G) (r:=r) (s6.pk [1,2,3,0,4,5] rfl) h hn h1 h2 h3 hxf hd) fun _ v4 w6 r4 h95=>?_
   obtain ⟨Ax241,sax242,scx243,rfl,s7,hA248⟩:=r4
   refine hK14 _ _ (s7.pk [4,5,6] rfl) fun hq5=>?_
   refine to_ 8 rfl (wanted_none rfl) (by kernel_rfl) fun _ hK15=>xcall h95 rfl rfl rfl (xs:=[.tmp 15,.tmp 17]) rfl cp_audit_equal_x3 rfl (vs:=[.agg #[.int .i64 r.e,.int .i64 r.fd,.string (strB r.data),.slice sax242 r.names.length scx243,.int .i64 r.kind,.int .i64 r.links,.int .i64 r.size],.agg #[.int .i64 ev.r.e,.int .i64 ev.r.fd,.string (strB ev.r.data),.slice ev.na ev.r.names.length ev.nc,.int .i64 ev.r.kind,.int .i64 ev.r.links,.int .i64 ev.r.size]]) rfl (args:=#[.agg #[.int .i64 r.e,.int .i64 r.fd,.string (strB r.data),.slice sax242 r.names.length scx243,.int .i64 r.kind,.int .i64 r.links,.int .i64 r.size],.agg #[.int .i64 ev.r.e,.int .i64 ev.r.fd,.string (strB ev.r.data),.slice ev.na ev.r.names.length ev.nc,.int .i64 ev.r.kind,.int .i64 ev.r.links,.int .i64 ev.r.size]]) rfl (equalX_s (r:=r) (s:=ev.r) (s7.pk [0,5,1,2,3,4,6] rfl) hx hrn) fun _ v5 w8 r5 h96=>?_
   obtain ⟨rfl,s9⟩:=r5
   refine hK15 _ _ (s9.pk [5,1,6] rfl) fun hq6=>h96.sk [18,15,17,16,14,13,12,11,10,5,4,3,0,1] rfl fun h97=>?_
   refine tv1 hq6 h97 9 rfl rfl (v:=.bool (eqA r ev.r)) (fun w1 _=>(rassign h97 rfl rfl) w1) fun _ h98=>?_
   refine h98.sk [6,5,4,3,0,1] rfl fun h99=>?_
   refine wpAnyH_done (by kernel_rfl) ?_ _
   refine hK5 _ _ ?_
   refine sqr fun _ hK16=>mvs 3 h99 rfl fun _ h100=>su h100 ((wF h100 rfl rfl rfl).trans (bNotT (bNotF hc3))) rfl rfl rfl fun _ h101=>su h101 ((wF h101 rfl rfl rfl).trans (bNotT (bNotF hc3))) rfl rfl rfl fun _ h102=>su h102 (wgu h102 rfl rfl rfl) rfl rfl rfl fun _ h103=>su h103 (wgu h103 rfl rfl rfl) rfl rfl rfl fun _ h104=>su h104 (wgu h104 rfl rfl rfl) rfl rfl rfl fun _ h105=>su h105 (wgu h105 rfl rfl rfl) rfl rfl rfl fun _ h106=>su h106 (wgu h106 rfl rfl rfl) rfl rfl rfl fun _ h107=>su h107 (wgu h107 rfl rfl rfl) rfl rfl rfl fun _ h108=>?_
   refine su h108 (wgu h108 rfl rfl rfl) rfl rfl rfl fun _ h109=>su h109 (wgu h109 rfl rfl rfl) rfl rfl rfl fun _ h110=>su h110 ((wF h110 rfl rfl rfl).trans (bNotT (bNotF hc3))) rfl rfl rfl fun _ h111=>sv1 h111 rfl (v:=.bool true) (rpickE h111 rfl (E:=(!(decide (ev.told>0)))) (b:=true) rfl (bNotF hc3) rfl) fun _ h112=>h112.sk [50,49,48,47,46,45,44,43,42,41,40,39,38,37,36,6,5,3,0,1] rfl fun h113=>mv h113 rfl fun _ h114=>h114.sn [4,6,5,3,0,1] rfl fun h115=>hK16 _ _<|wp_ret ?_
   try simp only [Exit.then,Exit.inBlock]
   refine retR (v:=.bool true) (res1 h115 rfl rfl) h115.defs ?_
   exact ⟨Ax241,congrArg Value.bool (fitB_no (by omega)).symm,Sep.tail_un (xs:=[_,_,_,_]) (s9.pk [2,3,4,1,6] rfl),hA248⟩

end Go.Proofs.YtpdjnefgkcmdnaaGreatDoor
/- stage 25: the order, over a past world (sx/aw.py) -/
namespace Go.Proofs.YtpdjnefgkcmdnaaGreatDoor
open Go.RowKit
set_option linter.unusedSimpArgs false
set_option linter.unusedVariables false
set_option maxRecDepth 100000

theorem range_getD {n j:Nat} (hj:j<n):(List.range n).getD j 0=j:=by
 rw [List.getD_eq_getElem?_getD,List.getElem?_range hj];rfl
def itX (b o:Nat) (L:List EvM) (k:Nat):List Value:=[.int .i64 (L.getD k nilEv).done,.int .i64 0,.pointer (some ⟨b,o+k*20,none⟩)]
theorem itX_len (b o:Nat) (L:List EvM) (k:Nat):(itX b o L k).length=3:=rfl
theorem EIt:ElemT Tryz.prog 64 68 3 24:=elemT Tryz.underlying64 (z:=.agg #[.int .i64 0,.int .i64 0,.pointer none]) (by kernel_rfl) rfl (by omega)
theorem cmpI_up {x y:Int} (h:y≤x):¬ cmpI x y<0:=by unfold cmpI;(repeat' split)<;>omega


section
variable {P:Program} {o:Oper} {a:Act} {N:Nat} {l:List (Nat×Value)}
theorem rconvI (h:Kn N l a) {T1 T2:TypeId} {x:Operand} (ho:o.op=.convert T1 T2 x) {k1 k2:IntKind} {n:Int} {d1:TypeDesc} (hx:opv l x=some (.int k1 n)) (h1:P.underlying T1=some d1) (h2:P.underlying T2=some (.int k2)) (hw:k2.wrap n=n) (w:World):(execOp a.eval o).run P w=.ok (.value (.int k2 n)) w:=by
 have hk:P.intKind T2=k2:=by simp [Program.intKind,h2]
 have z:=run_convert_int (P:=P) w T1 T2 k1 n (by simp [h1]) (by rw [hk];exact h2)
 rw [hk,hw] at z
 unfold execOp;rw [ho];simp only [h.op hx]
 rw [Sem.run_bind,z];rfl
end
theorem wrapU {n:Int} (h0:0≤n) (h1:n≤4611686018427387904):IntKind.u64.wrap n=n:=by
 simp [IntKind.wrap,IntKind.signed,IntKind.bits];omega
theorem wrapI {n:Int} (h0:0≤n) (h1:n≤4611686018427387904):IntKind.i64.wrap n=n:=IntWalk.i64_in _ ⟨by omega,by omega⟩
theorem bShr1 {P:Program} (T:TypeId) (x y:Operand) (n:Nat) (w:World):(do eqGuard .shr T x y (.int .u64 (n:Int)) (.int .u64 1);binOp .shr T (.int .u64 (n:Int)) (.int .u64 1):Sem Value).run P w=.ok (.int .u64 ((n / 2:Nat):Int)) w:=by
 have e:(n:Int).fdiv 2=((n / 2:Nat):Int):=by rw [Int.fdiv_eq_ediv_of_nonneg _ (by decide)];rfl
 simp [eqGuard,binOp,Op.shift,IntKind.bits,Sem.run_bind]
 exact e

theorem fa_audit_item_w1_0 (g off:Nat) (w:World):(Instr.fieldAt 68 (.pointer (some ⟨g,off,none⟩)) 0).run Tryz.prog w=.ok (.pointer (some ⟨g,off+0,none⟩)) w:=rfl
theorem fa_audit_item_w2_0 (g off:Nat) (w:World):(Instr.fieldAt 68 (.pointer (some ⟨g,off,none⟩)) 0).run Tryz.prog w=.ok (.pointer (some ⟨g,off+0,none⟩)) w:=rfl
theorem cp_cmp_Compare_int_w2 (args:Array Value) (w:World):(callFunc 42 args).run Tryz.prog w=.ok (.enter 42 args) w:=by
 have h:=Tryz.func42
 go_simp
theorem cp_audit_order_1_w3g (args:Array Value) (w:World):(callFunc 39 args).run Tryz.prog w=.ok (.enter 39 args) w:=by
 have h:=Tryz.func39
 go_simp
theorem cp_slices_IndexFunc_audit_item_audit_item_w4 (args:Array Value) (w:World):(callFunc 47 args).run Tryz.prog w=.ok (.enter 47 args) w:=by
 have h:=Tryz.func47
 go_simp
theorem cp_audit_order_2_x5 (args:Array Value) (w:World):(callFunc 41 args).run Tryz.prog w=.ok (.enter 41 args) w:=by
 have h:=Tryz.func41
 go_simp
theorem cp_audit_order_2_x6 (args:Array Value) (w:World):(callFunc 41 args).run Tryz.prog w=.ok (.enter 41 args) w:=by
 have h:=Tryz.func41
 go_simp
theorem cp_slices_symMergeCmpFunc_audit_item_x6 (args:Array Value) (w:World):(callFunc 54 args).run Tryz.prog w=.ok (.enter 54 args) w:=by
 have h:=Tryz.func54
 go_simp
theorem cp_slices_insertionSortCmpFunc_audit_item_x7 (args:Array Value) (w:World):(callFunc 53 args).run Tryz.prog w=.ok (.enter 53 args) w:=by
 have h:=Tryz.func53
 go_simp
theorem cp_slices_symMergeCmpFunc_audit_item_x7 (args:Array Value) (w:World):(callFunc 54 args).run Tryz.prog w=.ok (.enter 54 args) w:=by
 have h:=Tryz.func54
 go_simp
theorem cp_slices_stableCmpFunc_audit_item_x8 (args:Array Value) (w:World):(callFunc 48 args).run Tryz.prog w=.ok (.enter 48 args) w:=by
 have h:=Tryz.func48
 go_simp

set_option maxHeartbeats 4000000 in
theorem below1_s {w:World} {R:List Ch} {mo cq:Int} {p:Option Addr} (hS0:Sep w R) :
  CallsR Tryz.prog 39 #[.agg #[.int .i64 mo,.int .i64 cq,.pointer p]] w (fun v w'=>v=.bool (decide (mo<1))∧Sep w' R):=by
 have hS:Sep w [Ch.many R]:=Sep.tail_many (xs:=[]) hS0;clear hS0
 refine enterR Tryz.func39 rfl (N:=6) Tryz.ntmps39 (by show 1≤6;decide) [(0,.agg #[.int .i64 mo,.int .i64 cq,.pointer p])] rfl fun _ h1=>sqr fun _ hK3=>so (wanted_none rfl) fun _ hK1=>xbox h1 rfl rfl rfl rfl rfl (z:=[.int .i64 mo,.int .i64 cq,.pointer p]) rfl hS fun _ g4 w7 h5 s8 _ _=>hK1 _ _ ?_
 refine mv h5 rfl fun _ h2=>wpList_nil<|hK3 _ _<|sqr fun _ hK2=>fav h2 rfl (fa_audit_item_w1_0 _ _) fun _ h3=>ldv h3 s8 0 Tryz.underlying3 rfl rfl rfl rfl fun _ h4=>bv h4 (z:=.bool (decide (mo<1))) rfl (cLt _ _ _ _ rfl) fun _ h6=>h6.sk [5,4,3,1,0] rfl fun h7=>mv h7 rfl fun _ h8=>h8.sn [2,1,0] rfl fun h9=>hK2 _ _ ?_
 refine wp_ret ?_
 try simp only [Exit.then,Exit.inBlock]
 refine retR (v:=.bool (decide (mo<1))) (res1 h9 rfl rfl) h9.defs ?_
 exact ⟨rfl,Sep.tail_un (xs:=[]) (s8.pk [1] rfl)⟩

set_option maxHeartbeats 4000000 in
theorem cmp_s {w:World} {R:List Ch} {mo cq mo2 cl2:Int} {p p2:Option Addr} (hS0:Sep w R) :
  CallsR Tryz.prog 41 #[.agg #[.int .i64 mo,.int .i64 cq,.pointer p],.agg #[.int .i64 mo2,.int .i64 cl2,.pointer p2]] w (fun v w'=>v=.int .i64 (cmpI mo mo2)∧Sep w' R):=by
 have hS:Sep w [Ch.many R]:=Sep.tail_many (xs:=[]) hS0;clear hS0
 refine enterR Tryz.func41 rfl (N:=10) Tryz.ntmps41 (by show 2≤10;decide) [(0,.agg #[.int .i64 mo,.int .i64 cq,.pointer p]),(1,.agg #[.int .i64 mo2,.int .i64 cl2,.pointer p2])] rfl fun _ h1=>sqr fun _ hK3=>so (wanted_none rfl) fun _ hK1=>xbox h1 rfl rfl rfl rfl rfl (z:=[.int .i64 mo,.int .i64 cq,.pointer p]) rfl hS fun _ g4 w7 h5 s8 _ _=>hK1 _ _ ?_
 refine so (wanted_none rfl) fun _ hK2=>xbox h5 rfl rfl rfl rfl rfl (z:=[.int .i64 mo2,.int .i64 cl2,.pointer p2]) rfl s8 fun _ g1 w1 h2 s1 _ _=>hK2 _ _ ?_
 refine mv h2 rfl fun _ h3=>wpList_nil<|hK3 _ _<|sqr fun _ hK4=>fav h3 rfl (fa_audit_item_w2_0 _ _) fun _ h4=>ldv h4 s1 1 Tryz.underlying3 rfl rfl rfl rfl fun _ h6=>fav h6 rfl (fa_audit_item_w2_0 _ _) fun _ h7=>ldv h7 s1 0 Tryz.underlying3 rfl rfl rfl rfl fun _ h8=>cl h8 rfl cp_cmp_Compare_int_w2 (compare_s (x:=mo) (y:=mo2) s1) fun _ v1 w2 r1 h9=>?_
 obtain ⟨rfl,s2⟩:=r1
 refine h9.sk [9,8,7,6,5,3,2,0,1] rfl fun h10=>mv h10 rfl fun _ h11=>h11.sn [4,3,2,0,1] rfl fun h12=>hK4 _ _<|wp_ret ?_
 try simp only [Exit.then,Exit.inBlock]
 refine retR (v:=.int .i64 (cmpI mo mo2)) (res1 h12 rfl rfl) h12.defs ?_
 exact ⟨rfl,Sep.tail_un (xs:=[]) (s2.pk [2] rfl)⟩

set_option maxHeartbeats 4000000 in
theorem indexN_s {w:World} {R:List Ch} {bX oX n c:Nat} {a:Option Addr} {L:List EvM} (hS0:Sep w ([ownC 0 68 3 a (List.range n).length c ((List.range n).flatMap (itX bX oX L))]++R)) (hn:n≤1000) (hd:∀ i,i<n→1≤(L.getD i nilEv).done)  :
  CallsR Tryz.prog 47 #[.slice a n c,.func (.func 39) #[] #[]] w (fun v w'=>v=.int .i64 (-1)∧Sep w' ([ownC 0 68 3 a (List.range n).length c ((List.range n).flatMap (itX bX oX L))]++R)):=by
 have hS:Sep w [ownC 0 68 3 a (List.range n).length c ((List.range n).flatMap (itX bX oX L)),Ch.many R]:=Sep.tail_many (xs:=[_]) hS0;clear hS0
 have hr:(List.range n).length=n:=List.length_range
 refine enterR Tryz.func47 rfl (N:=19) Tryz.ntmps47 (by show 2≤19;decide) [(0,.slice a n c),(1,.func (.func 39) #[] #[])] rfl fun _ h1=>sqr fun _ hK3=>mv h1 rfl fun _ h4=>wpList_nil<|hK3 _ _<|sq fun _ hK6=>sqr fun _ hK7=>mv h4 rfl fun _ h8=>sv1 h8 rfl (v:=.int .i64 (n:Int)) (rlenS h8 rfl rfl Tryz.underlying64) fun _ h2=>mv h2 rfl fun _ h3=>h3.sn [8,7,4,0,1] rfl fun h5=>hK7 _ _ ?_
 refine wp_block ?_
 refine wp_loop1 (fun (i:Nat) a' w'=>Kn 19 [(8,.int .i64 (i:Int)),(7,.int .i64 (n:Int)),(4,.int .i64 0),(0,.slice a n c),(1,.func (.func 39) #[] #[])] a'∧Sep w' [ownC 0 68 3 a (List.range n).length c ((List.range n).flatMap (itX bX oX L)),Ch.many R]∧(i≤n)) (fun (i:Nat)=>n-i) 0 ⟨h5.subs rfl,hS,by omega⟩ ?_
 rintro i1 a1 w1 ⟨h6,s1,hi20⟩ K1 hK1
 refine sqr fun _ hK2=>bv h6 (z:=.bool (decide ((i1:Int)<(n:Int)))) rfl (cLt _ _ _ _ rfl) fun _ h7=>wpList_nil<|hK2 _ _<|sq fun _ hK4=>?_
 rcases bC (decide ((i1:Int)<(n:Int))) with hc1 | hc1
 ·skip
  have hp1:(i1:Int)<(n:Int):=(dT hc1)
  refine wcT h7 rfl hc1<|h7.sk [8,7,4,0,1] rfl fun h9=>wp_skip<|hK4 _ _<|sq fun _ hK5=>wp_block ?_
  refine sqr fun _ hK8=>mvs 2 h9 rfl fun _ h10=>h10.sn [5,8,7,4,0,1] rfl fun h11=>hK8 _ _<|sqr fun _ hK9=>mvs 3 h11 rfl fun _ h12=>?_
  obtain ⟨q43,hq1⟩:=own_addr (s1.get 0 rfl:Own _ _ _ _ _ _ _ _)
  refine sv1 h12 rfl (v:=.pointer (some ⟨q43,i1*3,none⟩)) (rindexA h12 rfl rfl rfl (fun w=>ixO Tryz.underlying64 (by kernel_rfl) (sz:=3) (hq1 (by omega)) (j:=i1) rfl (by omega) (by omega) w)) fun _ h13=>sw1 h13 rfl (v:=.agg #[.int .i64 ((L.getD i1 nilEv).done),.int .i64 0,.pointer (some ⟨bX,oX+i1*20,none⟩)]) (rld h13 rfl rfl (by have z:=ldOS (P:=Tryz.prog) (itX_len bX oX L) Tryz.underlying68 rfl (by kernel_rfl) (s1.get 0 rfl:Own _ _ _ _ _ _ _ _) (hq1 (by rw [List.length_range];omega)) 0 (j:=i1) (o:=i1*3) (by rw [List.length_range];omega) rfl;rw [range_getD (by omega)] at z;exact z)) fun _ h14=>cl h14 rfl cp_audit_order_1_w3g (below1_s (mo:=(L.getD i1 nilEv).done) (cq:=0) (p:=(some ⟨bX,oX+i1*20,none⟩)) s1) fun _ v1 w2 r1 h15=>?_
  obtain ⟨rfl,s2⟩:=r1
  refine h15.sn [16,5,8,7,4,0,1] rfl fun h16=>hK9 _ _ ?_
  rcases bC (decide ((L.getD i1 nilEv).done<1)) with hc2 | hc2
  ·skip
   have hp2:(L.getD i1 nilEv).done<1:=(dT hc2)
   have hd2:=hd i1 (by omega)
   exfalso;omega
  ·skip
   have hp3:¬ ((L.getD i1 nilEv).done<1):=(dF hc2)
   refine wcF h16 rfl hc2<|h16.sk [5,8,7,4,0,1] rfl fun h17=>wp_skip<|hK5 _ _<|wp_region_lit<|bv h17 (z:=.int .i64 ((i1+1:Nat):Int)) rfl (bAdd _ _ _ (by omega) (by omega) (by omega)) fun _ h18=>h18.sk [18,5,7,4,0,1] rfl fun h19=>mv h19 rfl fun _ h20=>h20.sk [8,5,7,4,0,1] rfl fun h21=>wpList_nil ?_
   exact hK1 (i1+1) _ _ ⟨h21.subs rfl,s2,by omega⟩ (by omega)
 ·skip
  have hp4:¬ ((i1:Int)<(n:Int)):=(dF hc1)
  refine wcF h7 rfl hc1<|h7.sk [8,7,4,0,1] rfl fun h22=>wp_exit ?_
  refine hK6 _ _ ?_
  refine sqr fun _ hK10=>h22.sk [8,7,0,1] rfl fun h23=>mv h23 rfl fun _ h24=>wpList_nil<|hK10 _ _<|wp_ret ?_
  try simp only [Exit.then,Exit.inBlock]
  refine retR (v:=.int .i64 (-1)) (res1 h24 rfl rfl) h24.defs ?_
  exact ⟨rfl,Sep.tail_un (xs:=[_]) s1⟩

set_option maxHeartbeats 4000000 in
theorem deleteN_s {w:World} {R:List Ch} {bX oX n c:Nat} {a:Option Addr} {L:List EvM} (hS0:Sep w ([ownC 0 68 3 a (List.range n).length c ((List.range n).flatMap (itX bX oX L))]++R)) (hn:n≤1000) (hd:∀ i,i<n→1≤(L.getD i nilEv).done) :
  CallsR Tryz.prog 38 #[.slice a n c,.func (.func 39) #[] #[]] w (fun v w'=>v=.slice a n c∧Sep w' ([ownC 0 68 3 a (List.range n).length c ((List.range n).flatMap (itX bX oX L))]++R)):=by
 have hS:Sep w [ownC 0 68 3 a (List.range n).length c ((List.range n).flatMap (itX bX oX L)),Ch.many R]:=Sep.tail_many (xs:=[_]) hS0;clear hS0
 have hr:(List.range n).length=n:=List.length_range
 refine enterR Tryz.func38 rfl (N:=42) Tryz.ntmps38 (by show 2≤42;decide) [(0,.slice a n c),(1,.func (.func 39) #[] #[])] rfl fun _ h1=>sqr fun _ hK3=>mv h1 rfl fun _ h4=>wpList_nil<|hK3 _ _<|sqr fun _ hK6=>mvs 2 h4 rfl fun _ h9=>cl h9 rfl cp_slices_IndexFunc_audit_item_audit_item_w4 (indexN_s hS hn hd) fun _ v1 w1 r1 h2=>?_
 obtain ⟨rfl,s1⟩:=r1
 refine mv h2 rfl fun _ h3=>h3.sn [5,4,0,1] rfl fun h5=>hK6 _ _<|sq fun _ hK1=>sqr fun _ hK2=>mv h5 rfl fun _ h6=>bv h6 rfl (cEq _ _ _ _ rfl) fun _ h7=>h7.sn [12,5,4,0,1] rfl fun h8=>hK2 _ _<|wcT h8 rfl rfl<|h8.sk [5,4,0,1] rfl fun h10=>?_
 refine sqr fun _ hK4=>mv h10 rfl fun _ h11=>h11.sk [13,5,0,1] rfl fun h12=>mv h12 rfl fun _ h13=>h13.sn [4,5,0,1] rfl fun h14=>hK4 _ _<|wp_ret ?_
 try simp only [Exit.then,Exit.inBlock]
 refine retR (v:=.slice a n c) (res1 h14 rfl rfl) h14.defs ?_
 exact ⟨rfl,Sep.tail_un (xs:=[_]) s1⟩

set_option maxHeartbeats 4000000 in
theorem insertionX_s {w:World} {R:List Ch} {bX oX n c:Nat} {a:Option Addr} {L:List EvM} {lo hi:Nat} (hS0:Sep w ([ownC 0 68 3 a (List.range n).length c ((List.range n).flatMap (itX bX oX L))]++R)) (hn:n≤1000) (hlo:lo≤1000) (hhi:hi≤n) (up:∀ i j,i<j→j<n→(L.getD i nilEv).done≤(L.getD j nilEv).done) :
  CallsR Tryz.prog 53 #[.slice a n c,.int .i64 (lo:Int),.int .i64 (hi:Int),.func (.func 41) #[] #[]] w (fun v w'=>v=.tuple #[]∧Sep w' ([ownC 0 68 3 a (List.range n).length c ((List.range n).flatMap (itX bX oX L))]++R)):=by
 have hS:Sep w [ownC 0 68 3 a (List.range n).length c ((List.range n).flatMap (itX bX oX L)),Ch.many R]:=Sep.tail_many (xs:=[_]) hS0;clear hS0
 have hr:(List.range n).length=n:=List.length_range
 refine enterR Tryz.func53 rfl (N:=53) Tryz.ntmps53 (by show 4≤53;decide) [(0,.slice a n c),(1,.int .i64 (lo:Int)),(2,.int .i64 (hi:Int)),(3,.func (.func 41) #[] #[])] rfl fun _ h1=>sqr fun _ hK3=>mv h1 rfl fun _ h4=>bv h4 (z:=.int .i64 ((lo+1:Nat):Int)) rfl (bAdd _ _ _ (by omega) (by omega) (by omega)) fun _ h6=>mv h6 rfl fun _ h8=>h8.sn [8,0,1,2,3] rfl fun h2=>hK3 _ _<|wp_block ?_
 refine wp_loop1 (fun (i:Nat) a' w'=>Kn 53 [(8,.int .i64 (i:Int)),(0,.slice a n c),(1,.int .i64 (lo:Int)),(2,.int .i64 (hi:Int)),(3,.func (.func 41) #[] #[])] a'∧Sep w' [ownC 0 68 3 a (List.range n).length c ((List.range n).flatMap (itX bX oX L)),Ch.many R]∧(lo+1≤i)) (fun (i:Nat)=>hi-i) (lo+1) ⟨h2.subs rfl,hS,Nat.le_refl _⟩ ?_
 rintro i1 a1 w2 ⟨h3,s1,hi16⟩ K1 hK1
 refine sq fun _ hK2=>sqr fun _ hK4=>mvs 2 h3 rfl fun _ h5=>bv h5 (z:=.bool (decide ((i1:Int)<(hi:Int)))) rfl (cLt _ _ _ _ rfl) fun _ h7=>h7.sn [14,8,0,1,2,3] rfl fun h9=>hK4 _ _ ?_
 rcases bC (decide ((i1:Int)<(hi:Int))) with hc1 | hc1
 ·skip
  have hp1:(i1:Int)<(hi:Int):=(dT hc1)
  refine wcT h9 rfl hc1<|h9.sk [8,0,1,2,3] rfl fun h10=>wp_skip<|hK2 _ _<|sq fun _ hK5=>wp_block ?_
  refine sqr fun _ hK6=>mvs 2 h10 rfl fun _ h11=>h11.sn [9,8,0,1,2,3] rfl fun h12=>hK6 _ _<|wp_block ?_
  refine wp_loop1 (fun (j:Nat) a' w'=>Kn 53 [(9,.int .i64 (j:Int)),(8,.int .i64 (i1:Int)),(0,.slice a n c),(1,.int .i64 (lo:Int)),(2,.int .i64 (hi:Int)),(3,.func (.func 41) #[] #[])] a'∧Sep w' [ownC 0 68 3 a (List.range n).length c ((List.range n).flatMap (itX bX oX L)),Ch.many R]∧(j=i1)∧(1≤j)) (fun (j:Nat)=>j) i1 ⟨h12.subs rfl,s1,rfl,by omega⟩ ?_
  rintro j44 a2 w3 ⟨h13,s2,hj42,hj143⟩ K2 hK7
  refine sq fun _ hK8=>sq fun _ hK9=>?_
  have s3:=s2.drew
  refine wp_region_held_drew (S:=fun w'=>Sep w' [ownC 0 68 3 a (List.range n).length c ((List.range n).flatMap (itX bX oX L)),Ch.many R]) (by kernel_rfl) s3 (fun hq1=>?_)
  refine tv1 hq1 h13 0 rfl rfl (v:=.int .i64 (j44:Int)) (fun w1 _=>(rmove h13 rfl rfl) w1) fun _ h14=>?_
  refine tv1 hq1 h14 1 rfl rfl (v:=.int .i64 (lo:Int)) (fun w1 _=>(rmove h14 rfl rfl) w1) fun _ h15=>?_
  refine tv1 hq1 h15 2 rfl rfl (v:=.bool true) (fun w1 _=>(rbin h15 rfl rfl rfl (cGt _ _ _ _ (decide_eq_true (by omega)))) w1) fun _ h16=>?_
  refine tv1 hq1 h16 3 rfl rfl (v:=.bool true) (fun w1 _=>(rmove h16 rfl rfl) w1) fun _ h17=>?_
  refine tv hq1 h17 4 rfl rfl rfl rfl (by kernel_rfl) (by kernel_rfl) (by kernel_rfl) (fun _ _ _ _ h=>h) (wT h17 (E:=true) rfl rfl rfl) (v:=.func (.func 41) #[] #[]) (fun w1 _=>(rmove h17 rfl rfl) w1) fun _ h18=>?_
  refine tv hq1 h18 5 rfl rfl rfl rfl (by kernel_rfl) (by kernel_rfl) (by kernel_rfl) (fun _ _ _ _ h=>h) (wT h18 (E:=true) rfl rfl rfl) (v:=.slice a n c) (fun w1 _=>(rmove h18 rfl rfl) w1) fun _ h19=>?_
  refine tv hq1 h19 6 rfl rfl rfl rfl (by kernel_rfl) (by kernel_rfl) (by kernel_rfl) (fun _ _ _ _ h=>h) (wT h19 (E:=true) rfl rfl rfl) (v:=.int .i64 (j44:Int)) (fun w1 _=>(rmove h19 rfl rfl) w1) fun _ h20=>?_
  obtain ⟨q63,hq2⟩:=own_addr (s3.get 0 rfl:Own _ _ _ _ _ _ _ _)
  refine tv hq1 h20 7 rfl rfl rfl rfl (by kernel_rfl) (by kernel_rfl) (by kernel_rfl) (fun _ _ _ _ h=>h) (wT h20 (E:=true) rfl rfl rfl) (v:=.pointer (some ⟨q63,j44*3,none⟩)) (fun w1 _=>(rindexA h20 rfl rfl rfl (fun w=>ixO Tryz.underlying64 (by kernel_rfl) (sz:=3) (hq2 (by omega)) (j:=j44) rfl (by omega) (by omega) w)) w1) fun _ h21=>?_
  refine tv hq1 h21 8 rfl rfl rfl rfl (by kernel_rfl) (by kernel_rfl) (by kernel_rfl) (fun _ _ _ _ h=>h) (wT h21 (E:=true) rfl rfl rfl) (v:=.agg #[.int .i64 ((L.getD j44 nilEv).done),.int .i64 0,.pointer (some ⟨bX,oX+j44*20,none⟩)]) (fun w1 hSw=>(rld h21 rfl rfl (by have z:=ldOS (P:=Tryz.prog) (itX_len bX oX L) Tryz.underlying68 rfl (by kernel_rfl) (hSw.get 0 rfl:Own _ _ _ _ _ _ _ _) (hq2 (by rw [List.length_range];omega)) 0 (j:=j44) (o:=j44*3) (by rw [List.length_range];omega) rfl;rw [range_getD (by omega)] at z;exact z))) fun _ h22=>?_
  refine tv hq1 h22 9 rfl rfl rfl rfl (by kernel_rfl) (by kernel_rfl) (by kernel_rfl) (fun _ _ _ _ h=>h) (wT h22 (E:=true) rfl rfl rfl) (v:=.slice a n c) (fun w1 _=>(rmove h22 rfl rfl) w1) fun _ h23=>?_
  refine tv hq1 h23 10 rfl rfl rfl rfl (by kernel_rfl) (by kernel_rfl) (by kernel_rfl) (fun _ _ _ _ h=>h) (wT h23 (E:=true) rfl rfl rfl) (v:=.int .i64 (j44:Int)) (fun w1 _=>(rmove h23 rfl rfl) w1) fun _ h24=>?_
  refine tv hq1 h24 11 rfl rfl rfl rfl (by kernel_rfl) (by kernel_rfl) (by kernel_rfl) (fun _ _ _ _ h=>h) (wT h24 (E:=true) rfl rfl rfl) (v:=.int .i64 ((j44-1:Nat):Int)) (fun w1 _=>(rbin h24 rfl rfl rfl (bSub _ _ _ (by omega) (by omega) (by omega))) w1) fun _ h25=>?_
  refine tv hq1 h25 12 rfl rfl rfl rfl (by kernel_rfl) (by kernel_rfl) (by kernel_rfl) (fun _ _ _ _ h=>h) (wT h25 (E:=true) rfl rfl rfl) (v:=.pointer (some ⟨q63,(j44-1)*3,none⟩)) (fun w1 _=>(rindexA h25 rfl rfl rfl (fun w=>ixO Tryz.underlying64 (by kernel_rfl) (sz:=3) (hq2 (by omega)) (j:=j44-1) rfl (by omega) (by omega) w)) w1) fun _ h26=>?_
  refine tv hq1 h26 13 rfl rfl rfl rfl (by kernel_rfl) (by kernel_rfl) (by kernel_rfl) (fun _ _ _ _ h=>h) (wT h26 (E:=true) rfl rfl rfl) (v:=.agg #[.int .i64 ((L.getD (j44-1) nilEv).done),.int .i64 0,.pointer (some ⟨bX,oX+(j44-1)*20,none⟩)]) (fun w1 hSw=>(rld h26 rfl rfl (by have z:=ldOS (P:=Tryz.prog) (itX_len bX oX L) Tryz.underlying68 rfl (by kernel_rfl) (hSw.get 0 rfl:Own _ _ _ _ _ _ _ _) (hq2 (by rw [List.length_range];omega)) 0 (j:=(j44-1)) (o:=(j44-1)*3) (by rw [List.length_range];omega) rfl;rw [range_getD (by omega)] at z;exact z))) fun _ h27=>?_
  refine to_ 14 rfl (wT h27 (E:=true) rfl rfl rfl) (by kernel_rfl) fun _ hK10=>xcall h27 rfl rfl rfl (xs:=[.tmp 26,.tmp 31]) rfl cp_audit_order_2_x5 rfl (vs:=[.agg #[.int .i64 ((L.getD j44 nilEv).done),.int .i64 0,.pointer (some ⟨bX,oX+j44*20,none⟩)],.agg #[.int .i64 ((L.getD (j44-1) nilEv).done),.int .i64 0,.pointer (some ⟨bX,oX+(j44-1)*20,none⟩)]]) rfl (args:=#[.agg #[.int .i64 ((L.getD j44 nilEv).done),.int .i64 0,.pointer (some ⟨bX,oX+j44*20,none⟩)],.agg #[.int .i64 ((L.getD (j44-1) nilEv).done),.int .i64 0,.pointer (some ⟨bX,oX+(j44-1)*20,none⟩)]]) rfl (cmp_s (mo:=(L.getD j44 nilEv).done) (cq:=0) (p:=(some ⟨bX,oX+j44*20,none⟩)) (mo2:=(L.getD (j44-1) nilEv).done) (cl2:=0) (p2:=(some ⟨bX,oX+(j44-1)*20,none⟩)) s3) fun _ v1 w4 r1 h28=>?_
  obtain ⟨rfl,s4⟩:=r1
  refine hK10 _ _ s4 fun hq3=>?_
  refine tv hq3 h28 15 rfl rfl rfl rfl (by kernel_rfl) (by kernel_rfl) (by kernel_rfl) (fun _ _ _ _ h=>h) (wT h28 (E:=true) rfl rfl rfl) (v:=.bool false) (fun w1 _=>(rbin h28 rfl rfl rfl (cLt _ _ _ _ (decide_eq_false (cmpI_up (up (j44-1) j44 (by omega) (by omega)))))) w1) fun _ h29=>?_
  refine tv1 hq3 h29 16 rfl rfl (v:=.bool false) (fun w1 _=>(rpick h29 rfl rfl rfl) w1) fun _ h30=>?_
  refine h30.sk [34,9,8,0,1,2,3] rfl fun h31=>?_
  refine wpAnyH_done (by kernel_rfl) ?_ _
  refine hK9 _ _ ?_
  refine wcF h31 rfl rfl<|h31.sk [9,8,0,1,2,3] rfl fun h32=>wp_exit ?_
  refine hK5 _ _ ?_
  refine wp_region_lit<|mv h32 rfl fun _ h33=>bv h33 (z:=.int .i64 ((i1+1:Nat):Int)) rfl (bAdd _ _ _ (by omega) (by omega) (by omega)) fun _ h34=>h34.sk [16,15,9,0,1,2,3] rfl fun h35=>mv h35 rfl fun _ h36=>h36.sk [8,9,0,1,2,3] rfl fun h37=>wpList_nil ?_
  exact hK1 (i1+1) _ _ ⟨h37.subs rfl,s4,by omega⟩ (by omega)
 ·skip
  have hp2:¬ ((i1:Int)<(hi:Int)):=(dF hc1)
  refine wcF h9 rfl hc1<|h9.sk [8,0,1,2,3] rfl fun h38=>wp_exit ?_
  simp only [Exit.then,Exit.inBlock,↓reduceIte,Nat.reduceEqDiff]
  refine endR (v:=.tuple #[]) (fun _=>res0 rfl _) h38.defs ?_
  exact ⟨rfl,Sep.tail_un (xs:=[_]) s1⟩

set_option maxHeartbeats 4000000 in
theorem symMerge_s {bX oX n c:Nat} {a:Option Addr} {L:List EvM} (hn:n≤1000) (up:∀ i j,i<j→j<n→(L.getD i nilEv).done≤(L.getD j nilEv).done) (s:Nat):∀ {w:World} {R:List Ch} {lo m hi:Nat},hi-lo≤s→Sep w ([ownC 0 68 3 a (List.range n).length c ((List.range n).flatMap (itX bX oX L))]++R)→lo<m→m<hi→hi≤n→CallsR Tryz.prog 54 #[.slice a n c,.int .i64 (lo:Int),.int .i64 (m:Int),.int .i64 (hi:Int),.func (.func 41) #[] #[]] w (fun v w'=>v=.tuple #[]∧Sep w' ([ownC 0 68 3 a (List.range n).length c ((List.range n).flatMap (itX bX oX L))]++R)):=by
 have hr:(List.range n).length=n:=List.length_range
 induction s with
 | zero=>intro w R lo m hi hs hS0 h1 h2 h3;exact absurd hs (by omega)
 | succ s ih=>
  intro w R lo m hi hs hS0 h1 h2 h3
  have hS:Sep w [ownC 0 68 3 a (List.range n).length c ((List.range n).flatMap (itX bX oX L)),Ch.many R]:=Sep.tail_many (xs:=[_]) hS0;clear hS0
  refine enterR Tryz.func54 rfl (N:=220) Tryz.ntmps54 (by show 5≤220;decide) [(0,.slice a n c),(1,.int .i64 (lo:Int)),(2,.int .i64 (m:Int)),(3,.int .i64 (hi:Int)),(4,.func (.func 41) #[] #[])] rfl fun _ h1=>sq fun _ hK3=>sqr fun _ hK4=>mvs 2 h1 rfl fun _ h7=>bv h7 (z:=.int .i64 ((m-lo:Nat):Int)) rfl (bSub _ _ _ (by omega) (by omega) (by omega)) fun _ h9=>bv h9 (z:=.bool (decide (((m-lo:Nat):Int)=1))) rfl (cEq _ _ _ _ rfl) fun _ h4=>h4.sn [28,0,1,2,3,4] rfl fun h5=>hK4 _ _ ?_
  rcases bC (decide (((m-lo:Nat):Int)=1)) with hc1 | hc1
  ·skip
   have hp1:((m-lo:Nat):Int)=1:=(dT hc1)
   refine wcT h5 rfl hc1<|h5.sk [0,1,2,3,4] rfl fun h6=>sqr fun _ hK1=>mvs 2 h6 rfl fun _ h8=>h8.sn [10,0,1,2,3,4] rfl fun h10=>hK1 _ _<|sqr fun _ hK2=>mvs 2 h10 rfl fun _ h11=>h11.sn [11,10,0,1,2,3,4] rfl fun h12=>hK2 _ _ ?_
   refine sq fun _ hK5=>wp_block ?_
   refine wp_loop1 (fun (j:Nat) a' w'=>Kn 220 [(11,.int .i64 (j:Int)),(10,.int .i64 (m:Int)),(0,.slice a n c),(1,.int .i64 (lo:Int)),(2,.int .i64 (m:Int)),(3,.int .i64 (hi:Int)),(4,.func (.func 41) #[] #[])] a'∧Sep w' [ownC 0 68 3 a (List.range n).length c ((List.range n).flatMap (itX bX oX L)),Ch.many R]∧(m≤j∧j≤hi)) (fun (j:Nat)=>j-m) hi ⟨h12.subs rfl,hS,by omega⟩ ?_
   rintro j36 a1 w2 ⟨h13,s1,hj35⟩ K1 hK6
   refine sq fun _ hK7=>sqr fun _ hK8=>mvs 2 h13 rfl fun _ h14=>bv h14 (z:=.bool (decide ((m:Int)<(j36:Int)))) rfl (cLt _ _ _ _ rfl) fun _ h15=>h15.sn [33,11,10,0,1,2,3,4] rfl fun h16=>hK8 _ _ ?_
   rcases bC (decide ((m:Int)<(j36:Int))) with hc2 | hc2
   ·skip
    have hp2:(m:Int)<(j36:Int):=(dT hc2)
    refine wcT h16 rfl hc2<|h16.sk [11,10,0,1,2,3,4] rfl fun h17=>wp_skip<|hK7 _ _<|wp_block ?_
    refine sqr fun _ hK9=>mvs 2 h17 rfl fun _ h18=>bv h18 (z:=.int .i64 ((m+j36:Nat):Int)) rfl (bAdd _ _ _ (by omega) (by omega) (by omega)) fun _ h19=>sv1 h19 rfl (v:=.int .u64 ((m+j36:Nat):Int)) (rconvI h19 rfl rfl Tryz.underlying3 Tryz.underlying112 (wrapU (by omega) (by omega))) fun _ h20=>bv h20 (z:=.int .u64 (((m+j36) / 2:Nat):Int)) rfl (bShr1 _ _ _ (m+j36)) fun _ h21=>sv1 h21 rfl (v:=.int .i64 (((m+j36) / 2:Nat):Int)) (rconvI h21 rfl rfl Tryz.underlying112 Tryz.underlying3 (wrapI (by omega) (by omega))) fun _ h22=>mv h22 rfl fun _ h23=>h23.sn [12,11,10,0,1,2,3,4] rfl fun h24=>hK9 _ _<|sq fun _ hK10=>?_
    obtain ⟨q66,eq66⟩:∃ z,(m+j36) / 2=z:=⟨_,rfl⟩
    rw [eq66] at h24
    have hf67:m≤q66:=by omega
    have hf68:q66<j36:=by omega
    have s2:=s1.drew
    refine wp_region_held_drew (S:=fun w'=>Sep w' [ownC 0 68 3 a (List.range n).length c ((List.range n).flatMap (itX bX oX L)),Ch.many R]) (by kernel_rfl) s2 (fun hq1=>?_)
    refine tv1 hq1 h24 0 rfl rfl (v:=.func (.func 41) #[] #[]) (fun w1 _=>(rmove h24 rfl rfl) w1) fun _ h25=>?_
    refine tv1 hq1 h25 1 rfl rfl (v:=.slice a n c) (fun w1 _=>(rmove h25 rfl rfl) w1) fun _ h26=>?_
    refine tv1 hq1 h26 2 rfl rfl (v:=.int .i64 (q66:Int)) (fun w1 _=>(rmove h26 rfl rfl) w1) fun _ h27=>?_
    obtain ⟨q77,hq2⟩:=own_addr (s2.get 0 rfl:Own _ _ _ _ _ _ _ _)
    refine tv1 hq1 h27 3 rfl rfl (v:=.pointer (some ⟨q77,q66*3,none⟩)) (fun w1 _=>(rindexA h27 rfl rfl rfl (fun w=>ixO Tryz.underlying64 (by kernel_rfl) (sz:=3) (hq2 (by omega)) (j:=q66) rfl (by omega) (by omega) w)) w1) fun _ h28=>?_
    refine tv1 hq1 h28 4 rfl rfl (v:=.agg #[.int .i64 ((L.getD q66 nilEv).done),.int .i64 0,.pointer (some ⟨bX,oX+q66*20,none⟩)]) (fun w1 hSw=>(rld h28 rfl rfl (by have z:=ldOS (P:=Tryz.prog) (itX_len bX oX L) Tryz.underlying68 rfl (by kernel_rfl) (hSw.get 0 rfl:Own _ _ _ _ _ _ _ _) (hq2 (by rw [List.length_range];omega)) 0 (j:=q66) (o:=q66*3) (by rw [List.length_range];omega) rfl;rw [range_getD (by omega)] at z;exact z))) fun _ h29=>?_
    refine tv1 hq1 h29 5 rfl rfl (v:=.slice a n c) (fun w1 _=>(rmove h29 rfl rfl) w1) fun _ h30=>?_
    refine tv1 hq1 h30 6 rfl rfl (v:=.int .i64 (lo:Int)) (fun w1 _=>(rmove h30 rfl rfl) w1) fun _ h31=>?_
    refine tv1 hq1 h31 7 rfl rfl (v:=.pointer (some ⟨q77,lo*3,none⟩)) (fun w1 _=>(rindexA h31 rfl rfl rfl (fun w=>ixO Tryz.underlying64 (by kernel_rfl) (sz:=3) (hq2 (by omega)) (j:=lo) rfl (by omega) (by omega) w)) w1) fun _ h32=>?_
    refine tv1 hq1 h32 8 rfl rfl (v:=.agg #[.int .i64 ((L.getD lo nilEv).done),.int .i64 0,.pointer (some ⟨bX,oX+lo*20,none⟩)]) (fun w1 hSw=>(rld h32 rfl rfl (by have z:=ldOS (P:=Tryz.prog) (itX_len bX oX L) Tryz.underlying68 rfl (by kernel_rfl) (hSw.get 0 rfl:Own _ _ _ _ _ _ _ _) (hq2 (by rw [List.length_range];omega)) 0 (j:=lo) (o:=lo*3) (by rw [List.length_range];omega) rfl;rw [range_getD (by omega)] at z;exact z))) fun _ h33=>?_
    refine to_ 9 rfl (wanted_none rfl) (by kernel_rfl) fun _ hK11=>xcall h33 rfl rfl rfl (xs:=[.tmp 44,.tmp 48]) rfl cp_audit_order_2_x6 rfl (vs:=[.agg #[.int .i64 ((L.getD q66 nilEv).done),.int .i64 0,.pointer (some ⟨bX,oX+q66*20,none⟩)],.agg #[.int .i64 ((L.getD lo nilEv).done),.int .i64 0,.pointer (some ⟨bX,oX+lo*20,none⟩)]]) rfl (args:=#[.agg #[.int .i64 ((L.getD q66 nilEv).done),.int .i64 0,.pointer (some ⟨bX,oX+q66*20,none⟩)],.agg #[.int .i64 ((L.getD lo nilEv).done),.int .i64 0,.pointer (some ⟨bX,oX+lo*20,none⟩)]]) rfl (cmp_s (mo:=(L.getD q66 nilEv).done) (cq:=0) (p:=(some ⟨bX,oX+q66*20,none⟩)) (mo2:=(L.getD lo nilEv).done) (cl2:=0) (p2:=(some ⟨bX,oX+lo*20,none⟩)) s2) fun _ v1 w3 r1 h34=>?_
    obtain ⟨rfl,s3⟩:=r1
    refine hK11 _ _ s3 fun hq3=>?_
    refine tv1 hq3 h34 10 rfl rfl (v:=.bool false) (fun w1 _=>(rbin h34 rfl rfl rfl (cLt _ _ _ _ (decide_eq_false (cmpI_up (up lo q66 (by omega) (by omega)))))) w1) fun _ h35=>?_
    refine h35.sk [50,12,11,10,0,1,2,3,4] rfl fun h36=>?_
    refine wpAnyH_done (by kernel_rfl) ?_ _
    refine hK10 _ _ ?_
    refine wcF h36 rfl rfl<|h36.sk [12,11,10,0,1,2,3,4] rfl fun h37=>wp_region_lit<|mv h37 rfl fun _ h38=>h38.sk [53,12,10,0,1,2,3,4] rfl fun h39=>mv h39 rfl fun _ h40=>h40.sk [11,12,10,0,1,2,3,4] rfl fun h41=>wpList_nil ?_
    exact hK6 q66 _ _ ⟨h41.subs rfl,s3,by omega⟩ (by omega)
   ·skip
    have hp3:¬ ((m:Int)<(j36:Int)):=(dF hc2)
    refine wcF h16 rfl hc2<|h16.sk [11,10,0,1,2,3,4] rfl fun h42=>wp_exit ?_
    refine hK5 _ _ ?_
    refine sq fun _ hK12=>sqr fun _ hK13=>mvs 2 h42 rfl fun _ h43=>h43.sn [13,11,10,0,1,2,3,4] rfl fun h44=>hK13 _ _<|wp_block ?_
    refine wp_loop1 (fun (z:Nat) a' w'=>Kn 220 [(13,.int .i64 (lo:Int)),(11,.int .i64 (j36:Int)),(10,.int .i64 (m:Int)),(0,.slice a n c),(1,.int .i64 (lo:Int)),(2,.int .i64 (m:Int)),(3,.int .i64 (hi:Int)),(4,.func (.func 41) #[] #[])] a'∧Sep w' [ownC 0 68 3 a (List.range n).length c ((List.range n).flatMap (itX bX oX L)),Ch.many R]) (fun (z:Nat)=>z) 0 ⟨h44.subs rfl,s1⟩ ?_
    rintro z123 a2 w4 ⟨h45,s4⟩ K2 hK14
    refine sq fun _ hK15=>sqr fun _ hK16=>mvs 2 h45 rfl fun _ h46=>bv h46 (z:=.int .i64 ((m-1:Nat):Int)) rfl (bSub _ _ _ (by omega) (by omega) (by omega)) fun _ h47=>bv h47 rfl (cLt _ _ _ _ (decide_eq_false (by omega))) fun _ h48=>h48.sn [58,13,11,10,0,1,2,3,4] rfl fun h49=>hK16 _ _<|wcF h49 rfl rfl<|h49.sk [13,11,10,0,1,2,3,4] rfl fun h50=>wp_exit ?_
    refine hK12 _ _ ?_
    refine wp_ret ?_
    try simp only [Exit.then,Exit.inBlock]
    refine retR (v:=.tuple #[]) (fun _=>res0 rfl _) h50.defs ?_
    exact ⟨rfl,Sep.tail_un (xs:=[_]) s4⟩
  ·skip
   have hp4:¬ (((m-lo:Nat):Int)=1):=(dF hc1)
   refine wcF h5 rfl hc1<|h5.sk [0,1,2,3,4] rfl fun h51=>wp_skip<|hK3 _ _<|sq fun _ hK17=>sqr fun _ hK18=>mvs 2 h51 rfl fun _ h52=>bv h52 (z:=.int .i64 ((hi-m:Nat):Int)) rfl (bSub _ _ _ (by omega) (by omega) (by omega)) fun _ h53=>bv h53 (z:=.bool (decide (((hi-m:Nat):Int)=1))) rfl (cEq _ _ _ _ rfl) fun _ h54=>h54.sn [80,0,1,2,3,4] rfl fun h55=>hK18 _ _ ?_
   rcases bC (decide (((hi-m:Nat):Int)=1)) with hc3 | hc3
   ·skip
    have hp5:((hi-m:Nat):Int)=1:=(dT hc3)
    refine wcT h55 rfl hc3<|h55.sk [0,1,2,3,4] rfl fun h56=>sqr fun _ hK19=>mvs 2 h56 rfl fun _ h57=>h57.sn [14,0,1,2,3,4] rfl fun h58=>hK19 _ _<|sqr fun _ hK20=>mvs 2 h58 rfl fun _ h59=>h59.sn [15,14,0,1,2,3,4] rfl fun h60=>hK20 _ _ ?_
    refine sq fun _ hK21=>wp_block ?_
    refine wp_loop1 (fun (i:Nat) a' w'=>Kn 220 [(15,.int .i64 (m:Int)),(14,.int .i64 (i:Int)),(0,.slice a n c),(1,.int .i64 (lo:Int)),(2,.int .i64 (m:Int)),(3,.int .i64 (hi:Int)),(4,.func (.func 41) #[] #[])] a'∧Sep w' [ownC 0 68 3 a (List.range n).length c ((List.range n).flatMap (itX bX oX L)),Ch.many R]∧(lo≤i∧i≤m)) (fun (i:Nat)=>m-i) lo ⟨h60.subs rfl,hS,by omega⟩ ?_
    rintro i1 a3 w5 ⟨h61,s5,hi2170⟩ K3 hK22
    refine sq fun _ hK23=>sqr fun _ hK24=>mvs 2 h61 rfl fun _ h62=>bv h62 (z:=.bool (decide ((i1:Int)<(m:Int)))) rfl (cLt _ _ _ _ rfl) fun _ h63=>h63.sn [85,15,14,0,1,2,3,4] rfl fun h64=>hK24 _ _ ?_
    rcases bC (decide ((i1:Int)<(m:Int))) with hc4 | hc4
    ·skip
     have hp6:(i1:Int)<(m:Int):=(dT hc4)
     refine wcT h64 rfl hc4<|h64.sk [15,14,0,1,2,3,4] rfl fun h65=>wp_skip<|hK23 _ _<|wp_block ?_
     refine sqr fun _ hK25=>mvs 2 h65 rfl fun _ h66=>bv h66 (z:=.int .i64 ((i1+m:Nat):Int)) rfl (bAdd _ _ _ (by omega) (by omega) (by omega)) fun _ h67=>sv1 h67 rfl (v:=.int .u64 ((i1+m:Nat):Int)) (rconvI h67 rfl rfl Tryz.underlying3 Tryz.underlying112 (wrapU (by omega) (by omega))) fun _ h68=>bv h68 (z:=.int .u64 (((i1+m) / 2:Nat):Int)) rfl (bShr1 _ _ _ (i1+m)) fun _ h69=>sv1 h69 rfl (v:=.int .i64 (((i1+m) / 2:Nat):Int)) (rconvI h69 rfl rfl Tryz.underlying112 Tryz.underlying3 (wrapI (by omega) (by omega))) fun _ h70=>mv h70 rfl fun _ h71=>h71.sn [16,15,14,0,1,2,3,4] rfl fun h72=>hK25 _ _<|sq fun _ hK26=>?_
     obtain ⟨q201,eq201⟩:∃ z,(i1+m) / 2=z:=⟨_,rfl⟩
     rw [eq201] at h72
     have hf202:i1≤q201:=by omega
     have hf203:q201<m:=by omega
     have s6:=s5.drew
     refine wp_region_held_drew (S:=fun w'=>Sep w' [ownC 0 68 3 a (List.range n).length c ((List.range n).flatMap (itX bX oX L)),Ch.many R]) (by kernel_rfl) s6 (fun hq4=>?_)
     refine tv1 hq4 h72 0 rfl rfl (v:=.func (.func 41) #[] #[]) (fun w1 _=>(rmove h72 rfl rfl) w1) fun _ h73=>?_
     refine tv1 hq4 h73 1 rfl rfl (v:=.slice a n c) (fun w1 _=>(rmove h73 rfl rfl) w1) fun _ h74=>?_
     refine tv1 hq4 h74 2 rfl rfl (v:=.int .i64 (m:Int)) (fun w1 _=>(rmove h74 rfl rfl) w1) fun _ h75=>?_
     obtain ⟨q212,hq5⟩:=own_addr (s6.get 0 rfl:Own _ _ _ _ _ _ _ _)
     refine tv1 hq4 h75 3 rfl rfl (v:=.pointer (some ⟨q212,m*3,none⟩)) (fun w1 _=>(rindexA h75 rfl rfl rfl (fun w=>ixO Tryz.underlying64 (by kernel_rfl) (sz:=3) (hq5 (by omega)) (j:=m) rfl (by omega) (by omega) w)) w1) fun _ h76=>?_
     refine tv1 hq4 h76 4 rfl rfl (v:=.agg #[.int .i64 ((L.getD m nilEv).done),.int .i64 0,.pointer (some ⟨bX,oX+m*20,none⟩)]) (fun w1 hSw=>(rld h76 rfl rfl (by have z:=ldOS (P:=Tryz.prog) (itX_len bX oX L) Tryz.underlying68 rfl (by kernel_rfl) (hSw.get 0 rfl:Own _ _ _ _ _ _ _ _) (hq5 (by rw [List.length_range];omega)) 0 (j:=m) (o:=m*3) (by rw [List.length_range];omega) rfl;rw [range_getD (by omega)] at z;exact z))) fun _ h77=>?_
     refine tv1 hq4 h77 5 rfl rfl (v:=.slice a n c) (fun w1 _=>(rmove h77 rfl rfl) w1) fun _ h78=>?_
     refine tv1 hq4 h78 6 rfl rfl (v:=.int .i64 (q201:Int)) (fun w1 _=>(rmove h78 rfl rfl) w1) fun _ h79=>?_
     refine tv1 hq4 h79 7 rfl rfl (v:=.pointer (some ⟨q212,q201*3,none⟩)) (fun w1 _=>(rindexA h79 rfl rfl rfl (fun w=>ixO Tryz.underlying64 (by kernel_rfl) (sz:=3) (hq5 (by omega)) (j:=q201) rfl (by omega) (by omega) w)) w1) fun _ h80=>?_
     refine tv1 hq4 h80 8 rfl rfl (v:=.agg #[.int .i64 ((L.getD q201 nilEv).done),.int .i64 0,.pointer (some ⟨bX,oX+q201*20,none⟩)]) (fun w1 hSw=>(rld h80 rfl rfl (by have z:=ldOS (P:=Tryz.prog) (itX_len bX oX L) Tryz.underlying68 rfl (by kernel_rfl) (hSw.get 0 rfl:Own _ _ _ _ _ _ _ _) (hq5 (by rw [List.length_range];omega)) 0 (j:=q201) (o:=q201*3) (by rw [List.length_range];omega) rfl;rw [range_getD (by omega)] at z;exact z))) fun _ h81=>?_
     refine to_ 9 rfl (wanted_none rfl) (by kernel_rfl) fun _ hK27=>xcall h81 rfl rfl rfl (xs:=[.tmp 96,.tmp 100]) rfl cp_audit_order_2_x6 rfl (vs:=[.agg #[.int .i64 ((L.getD m nilEv).done),.int .i64 0,.pointer (some ⟨bX,oX+m*20,none⟩)],.agg #[.int .i64 ((L.getD q201 nilEv).done),.int .i64 0,.pointer (some ⟨bX,oX+q201*20,none⟩)]]) rfl (args:=#[.agg #[.int .i64 ((L.getD m nilEv).done),.int .i64 0,.pointer (some ⟨bX,oX+m*20,none⟩)],.agg #[.int .i64 ((L.getD q201 nilEv).done),.int .i64 0,.pointer (some ⟨bX,oX+q201*20,none⟩)]]) rfl (cmp_s (mo:=(L.getD m nilEv).done) (cq:=0) (p:=(some ⟨bX,oX+m*20,none⟩)) (mo2:=(L.getD q201 nilEv).done) (cl2:=0) (p2:=(some ⟨bX,oX+q201*20,none⟩)) s6) fun _ v2 w6 r2 h82=>?_
     obtain ⟨rfl,s7⟩:=r2
     refine hK27 _ _ s7 fun hq6=>?_
     refine tv1 hq6 h82 10 rfl rfl (v:=.bool false) (fun w1 _=>(rbin h82 rfl rfl rfl (cLt _ _ _ _ (decide_eq_false (cmpI_up (up q201 m (by omega) (by omega)))))) w1) fun _ h83=>?_
     refine tv1 hq6 h83 11 rfl rfl (v:=.bool true) (fun w1 _=>(rnot h83 rfl (b:=false) rfl) w1) fun _ h84=>?_
     refine h84.sk [103,16,15,14,0,1,2,3,4] rfl fun h85=>?_
     refine wpAnyH_done (by kernel_rfl) ?_ _
     refine hK26 _ _ ?_
     refine wcT h85 rfl rfl<|h85.sk [16,15,14,0,1,2,3,4] rfl fun h86=>wp_region_lit<|mv h86 rfl fun _ h87=>bv h87 (z:=.int .i64 ((q201+1:Nat):Int)) rfl (bAdd _ _ _ (by omega) (by omega) (by omega)) fun _ h88=>h88.sk [105,104,16,15,0,1,2,3,4] rfl fun h89=>mv h89 rfl fun _ h90=>h90.sk [14,16,15,0,1,2,3,4] rfl fun h91=>wpList_nil ?_
     exact hK22 (q201+1) _ _ ⟨h91.subs rfl,s7,by omega⟩ (by omega)
    ·skip
     have hp7:¬ ((i1:Int)<(m:Int)):=(dF hc4)
     refine wcF h64 rfl hc4<|h64.sk [15,14,0,1,2,3,4] rfl fun h92=>wp_exit ?_
     refine hK21 _ _ ?_
     refine sq fun _ hK28=>sqr fun _ hK29=>mvs 2 h92 rfl fun _ h93=>h93.sn [17,15,14,0,1,2,3,4] rfl fun h94=>hK29 _ _<|wp_block ?_
     refine wp_loop1 (fun (z:Nat) a' w'=>Kn 220 [(17,.int .i64 (m:Int)),(15,.int .i64 (m:Int)),(14,.int .i64 (i1:Int)),(0,.slice a n c),(1,.int .i64 (lo:Int)),(2,.int .i64 (m:Int)),(3,.int .i64 (hi:Int)),(4,.func (.func 41) #[] #[])] a'∧Sep w' [ownC 0 68 3 a (List.range n).length c ((List.range n).flatMap (itX bX oX L)),Ch.many R]) (fun (z:Nat)=>z) 0 ⟨h94.subs rfl,s5⟩ ?_
     rintro z262 a4 w7 ⟨h95,s8⟩ K4 hK30
     refine sq fun _ hK31=>sqr fun _ hK32=>mvs 2 h95 rfl fun _ h96=>bv h96 rfl (cGt _ _ _ _ (decide_eq_false (by omega))) fun _ h97=>h97.sn [110,17,15,14,0,1,2,3,4] rfl fun h98=>hK32 _ _<|wcF h98 rfl rfl<|h98.sk [17,15,14,0,1,2,3,4] rfl fun h99=>wp_exit ?_
     refine hK28 _ _ ?_
     refine wp_ret ?_
     try simp only [Exit.then,Exit.inBlock]
     refine retR (v:=.tuple #[]) (fun _=>res0 rfl _) h99.defs ?_
     exact ⟨rfl,Sep.tail_un (xs:=[_]) s8⟩
   ·skip
    have hp8:¬ (((hi-m:Nat):Int)=1):=(dF hc3)
    refine wcF h55 rfl hc3<|h55.sk [0,1,2,3,4] rfl fun h100=>wp_skip<|hK17 _ _<|sqr fun _ hK33=>mvs 2 h100 rfl fun _ h101=>bv h101 (z:=.int .i64 ((lo+hi:Nat):Int)) rfl (bAdd _ _ _ (by omega) (by omega) (by omega)) fun _ h102=>sv1 h102 rfl (v:=.int .u64 ((lo+hi:Nat):Int)) (rconvI h102 rfl rfl Tryz.underlying3 Tryz.underlying112 (wrapU (by omega) (by omega))) fun _ h103=>bv h103 (z:=.int .u64 (((lo+hi) / 2:Nat):Int)) rfl (bShr1 _ _ _ (lo+hi)) fun _ h104=>sv1 h104 rfl (v:=.int .i64 (((lo+hi) / 2:Nat):Int)) (rconvI h104 rfl rfl Tryz.underlying112 Tryz.underlying3 (wrapI (by omega) (by omega))) fun _ h105=>mv h105 rfl fun _ h106=>?_
    refine h106.sn [18,0,1,2,3,4] rfl fun h107=>hK33 _ _<|sq fun _ hK34=>?_
    obtain ⟨q292,eq292⟩:∃ z,(lo+hi) / 2=z:=⟨_,rfl⟩
    rw [eq292] at h107
    have hf293:2*q292≤lo+hi:=by omega
    have hf294:lo+hi≤2*q292+1:=by omega
    refine wp_region_lit<|mvs 2 h107 rfl fun _ h108=>bv h108 (z:=.int .i64 ((q292+m:Nat):Int)) rfl (bAdd _ _ _ (by omega) (by omega) (by omega)) fun _ h109=>mv h109 rfl fun _ h110=>h110.sn [19,18,0,1,2,3,4] rfl fun h111=>hK34 _ _<|sqr fun _ hK35=>mvs 2 h111 rfl fun _ h112=>wpList_nil<|hK35 _ _<|sq fun _ hK36=>sq fun _ hK37=>wp_region_lit ?_
    refine mvs 2 h112 rfl fun _ h113=>bv h113 (z:=.bool (decide ((m:Int)>(q292:Int)))) rfl (cGt _ _ _ _ rfl) fun _ h114=>h114.sn [140,21,20,19,18,0,1,2,3,4] rfl fun h115=>hK37 _ _ ?_
    rcases bC (decide ((m:Int)>(q292:Int))) with hc5 | hc5
    ·skip
     have hp9:(m:Int)>(q292:Int):=(dT hc5)
     refine wcT h115 rfl hc5<|h115.sk [21,20,19,18,0,1,2,3,4] rfl fun h116=>sqr fun _ hK38=>mvs 2 h116 rfl fun _ h117=>bv h117 (z:=.int .i64 (((q292+m)-hi:Nat):Int)) rfl (bSub _ _ _ (by omega) (by omega) (by omega)) fun _ h118=>h118.sk [143,142,141,21,19,18,0,1,2,3,4] rfl fun h119=>mv h119 rfl fun _ h120=>h120.sn [20,21,19,18,0,1,2,3,4] rfl fun h121=>hK38 _ _<|wp_region_lit ?_
     refine mv h121 rfl fun _ h122=>h122.sk [144,20,19,18,0,1,2,3,4] rfl fun h123=>mv h123 rfl fun _ h124=>h124.sn [21,20,19,18,0,1,2,3,4] rfl fun h125=>hK36 _ _<|sqr fun _ hK39=>mv h125 rfl fun _ h126=>bv h126 (z:=.int .i64 ((q292+m-1:Nat):Int)) rfl (bSub _ _ _ (by omega) (by omega) (by omega)) fun _ h127=>mv h127 rfl fun _ h128=>h128.sk [22,21,20,19,18,0,1,2,3,4] rfl fun h129=>?_
     refine wpList_nil<|hK39 _ _<|sq fun _ hK40=>wp_block ?_
     refine wp_loop1 (fun (s:Nat) a' w'=>Kn 220 [(22,.int .i64 ((q292+m-1:Nat):Int)),(21,.int .i64 (q292:Int)),(20,.int .i64 (s:Int)),(19,.int .i64 ((q292+m:Nat):Int)),(18,.int .i64 (q292:Int)),(0,.slice a n c),(1,.int .i64 (lo:Int)),(2,.int .i64 (m:Int)),(3,.int .i64 (hi:Int)),(4,.func (.func 41) #[] #[])] a'∧Sep w' [ownC 0 68 3 a (List.range n).length c ((List.range n).flatMap (itX bX oX L)),Ch.many R]∧((q292+m)-hi≤s∧s≤q292)) (fun (s:Nat)=>q292-s) ((q292+m)-hi) ⟨h129.subs rfl,hS,by omega⟩ ?_
     rintro s9 a5 w8 ⟨h130,s10,hs2352⟩ K5 hK41
     refine sq fun _ hK42=>sqr fun _ hK43=>mvs 2 h130 rfl fun _ h131=>bv h131 (z:=.bool (decide ((s9:Int)<(q292:Int)))) rfl (cLt _ _ _ _ rfl) fun _ h132=>h132.sn [151,22,21,20,19,18,0,1,2,3,4] rfl fun h133=>hK43 _ _ ?_
     rcases bC (decide ((s9:Int)<(q292:Int))) with hc6 | hc6
     ·skip
      have hp10:(s9:Int)<(q292:Int):=(dT hc6)
      refine wcT h133 rfl hc6<|h133.sk [22,21,20,19,18,0,1,2,3,4] rfl fun h134=>wp_skip<|hK42 _ _<|wp_block ?_
      refine sqr fun _ hK44=>mvs 2 h134 rfl fun _ h135=>bv h135 (z:=.int .i64 ((s9+q292:Nat):Int)) rfl (bAdd _ _ _ (by omega) (by omega) (by omega)) fun _ h136=>sv1 h136 rfl (v:=.int .u64 ((s9+q292:Nat):Int)) (rconvI h136 rfl rfl Tryz.underlying3 Tryz.underlying112 (wrapU (by omega) (by omega))) fun _ h137=>bv h137 (z:=.int .u64 (((s9+q292) / 2:Nat):Int)) rfl (bShr1 _ _ _ (s9+q292)) fun _ h138=>sv1 h138 rfl (v:=.int .i64 (((s9+q292) / 2:Nat):Int)) (rconvI h138 rfl rfl Tryz.underlying112 Tryz.underlying3 (wrapI (by omega) (by omega))) fun _ h139=>mv h139 rfl fun _ h140=>h140.sn [23,22,21,20,19,18,0,1,2,3,4] rfl fun h141=>hK44 _ _<|sq fun _ hK45=>?_
      obtain ⟨q383,eq383⟩:∃ z,(s9+q292) / 2=z:=⟨_,rfl⟩
      rw [eq383] at h141
      have hf384:s9≤q383:=by omega
      have hf385:q383<q292:=by omega
      have hf386:q383<q292+m-1-q383:=by omega
      have hf387:q292+m-1-q383<hi:=by omega
      have hf388:q383≤q292+m-1:=by omega
      have s11:=s10.drew
      refine wp_region_held_drew (S:=fun w'=>Sep w' [ownC 0 68 3 a (List.range n).length c ((List.range n).flatMap (itX bX oX L)),Ch.many R]) (by kernel_rfl) s11 (fun hq7=>?_)
      refine tv1 hq7 h141 0 rfl rfl (v:=.func (.func 41) #[] #[]) (fun w1 _=>(rmove h141 rfl rfl) w1) fun _ h142=>?_
      refine tv1 hq7 h142 1 rfl rfl (v:=.slice a n c) (fun w1 _=>(rmove h142 rfl rfl) w1) fun _ h143=>?_
      refine tv1 hq7 h143 2 rfl rfl (v:=.int .i64 ((q292+m-1:Nat):Int)) (fun w1 _=>(rmove h143 rfl rfl) w1) fun _ h144=>?_
      refine tv1 hq7 h144 3 rfl rfl (v:=.int .i64 (q383:Int)) (fun w1 _=>(rmove h144 rfl rfl) w1) fun _ h145=>?_
      refine tv1 hq7 h145 4 rfl rfl (v:=.int .i64 (((q292+m-1)-q383:Nat):Int)) (fun w1 _=>(rbin h145 rfl rfl rfl (bSub _ _ _ (by omega) (by omega) (by omega))) w1) fun _ h146=>?_
      obtain ⟨q401,hq8⟩:=own_addr (s11.get 0 rfl:Own _ _ _ _ _ _ _ _)
      refine tv1 hq7 h146 5 rfl rfl (v:=.pointer (some ⟨q401,((q292+m-1)-q383)*3,none⟩)) (fun w1 _=>(rindexA h146 rfl rfl rfl (fun w=>ixO Tryz.underlying64 (by kernel_rfl) (sz:=3) (hq8 (by omega)) (j:=(q292+m-1)-q383) rfl (by omega) (by omega) w)) w1) fun _ h147=>?_
      refine tv1 hq7 h147 6 rfl rfl (v:=.agg #[.int .i64 ((L.getD ((q292+m-1)-q383) nilEv).done),.int .i64 0,.pointer (some ⟨bX,oX+((q292+m-1)-q383)*20,none⟩)]) (fun w1 hSw=>(rld h147 rfl rfl (by have z:=ldOS (P:=Tryz.prog) (itX_len bX oX L) Tryz.underlying68 rfl (by kernel_rfl) (hSw.get 0 rfl:Own _ _ _ _ _ _ _ _) (hq8 (by rw [List.length_range];omega)) 0 (j:=((q292+m-1)-q383)) (o:=((q292+m-1)-q383)*3) (by rw [List.length_range];omega) rfl;rw [range_getD (by omega)] at z;exact z))) fun _ h148=>?_
      refine tv1 hq7 h148 7 rfl rfl (v:=.slice a n c) (fun w1 _=>(rmove h148 rfl rfl) w1) fun _ h149=>?_
      refine tv1 hq7 h149 8 rfl rfl (v:=.int .i64 (q383:Int)) (fun w1 _=>(rmove h149 rfl rfl) w1) fun _ h150=>?_
      refine tv1 hq7 h150 9 rfl rfl (v:=.pointer (some ⟨q401,q383*3,none⟩)) (fun w1 _=>(rindexA h150 rfl rfl rfl (fun w=>ixO Tryz.underlying64 (by kernel_rfl) (sz:=3) (hq8 (by omega)) (j:=q383) rfl (by omega) (by omega) w)) w1) fun _ h151=>?_
      refine tv1 hq7 h151 10 rfl rfl (v:=.agg #[.int .i64 ((L.getD q383 nilEv).done),.int .i64 0,.pointer (some ⟨bX,oX+q383*20,none⟩)]) (fun w1 hSw=>(rld h151 rfl rfl (by have z:=ldOS (P:=Tryz.prog) (itX_len bX oX L) Tryz.underlying68 rfl (by kernel_rfl) (hSw.get 0 rfl:Own _ _ _ _ _ _ _ _) (hq8 (by rw [List.length_range];omega)) 0 (j:=q383) (o:=q383*3) (by rw [List.length_range];omega) rfl;rw [range_getD (by omega)] at z;exact z))) fun _ h152=>?_
      refine to_ 11 rfl (wanted_none rfl) (by kernel_rfl) fun _ hK46=>xcall h152 rfl rfl rfl (xs:=[.tmp 164,.tmp 168]) rfl cp_audit_order_2_x6 rfl (vs:=[.agg #[.int .i64 ((L.getD ((q292+m-1)-q383) nilEv).done),.int .i64 0,.pointer (some ⟨bX,oX+((q292+m-1)-q383)*20,none⟩)],.agg #[.int .i64 ((L.getD q383 nilEv).done),.int .i64 0,.pointer (some ⟨bX,oX+q383*20,none⟩)]]) rfl (args:=#[.agg #[.int .i64 ((L.getD ((q292+m-1)-q383) nilEv).done),.int .i64 0,.pointer (some ⟨bX,oX+((q292+m-1)-q383)*20,none⟩)],.agg #[.int .i64 ((L.getD q383 nilEv).done),.int .i64 0,.pointer (some ⟨bX,oX+q383*20,none⟩)]]) rfl (cmp_s (mo:=(L.getD ((q292+m-1)-q383) nilEv).done) (cq:=0) (p:=(some ⟨bX,oX+((q292+m-1)-q383)*20,none⟩)) (mo2:=(L.getD q383 nilEv).done) (cl2:=0) (p2:=(some ⟨bX,oX+q383*20,none⟩)) s11) fun _ v3 w9 r3 h153=>?_
      obtain ⟨rfl,s12⟩:=r3
      refine hK46 _ _ s12 fun hq9=>?_
      refine tv1 hq9 h153 12 rfl rfl (v:=.bool false) (fun w1 _=>(rbin h153 rfl rfl rfl (cLt _ _ _ _ (decide_eq_false (cmpI_up (up q383 (q292+m-1-q383) (by omega) (by omega)))))) w1) fun _ h154=>?_
      refine tv1 hq9 h154 13 rfl rfl (v:=.bool true) (fun w1 _=>(rnot h154 rfl (b:=false) rfl) w1) fun _ h155=>?_
      refine h155.sk [171,23,22,21,20,19,18,0,1,2,3,4] rfl fun h156=>?_
      refine wpAnyH_done (by kernel_rfl) ?_ _
      refine hK45 _ _ ?_
      refine wcT h156 rfl rfl<|h156.sk [23,22,21,20,19,18,0,1,2,3,4] rfl fun h157=>wp_region_lit<|mv h157 rfl fun _ h158=>bv h158 (z:=.int .i64 ((q383+1:Nat):Int)) rfl (bAdd _ _ _ (by omega) (by omega) (by omega)) fun _ h159=>h159.sk [173,172,23,22,21,19,18,0,1,2,3,4] rfl fun h160=>mv h160 rfl fun _ h161=>h161.sk [20,23,22,21,19,18,0,1,2,3,4] rfl fun h162=>wpList_nil ?_
      exact hK41 (q383+1) _ _ ⟨h162.subs rfl,s12,by omega⟩ (by omega)
     ·skip
      have hp11:¬ ((s9:Int)<(q292:Int)):=(dF hc6)
      refine wcF h133 rfl hc6<|h133.sk [22,21,20,19,18,0,1,2,3,4] rfl fun h163=>wp_exit ?_
      refine hK40 _ _ ?_
      refine sqr fun _ hK47=>mvs 2 h163 rfl fun _ h164=>bv h164 (z:=.int .i64 (((q292+m)-s9:Nat):Int)) rfl (bSub _ _ _ (by omega) (by omega) (by omega)) fun _ h165=>mv h165 rfl fun _ h166=>h166.sn [24,22,21,20,19,18,0,1,2,3,4] rfl fun h167=>hK47 _ _<|sq fun _ hK48=>sqr fun _ hK49=>mvs 2 h167 rfl fun _ h168=>bv h168 rfl (cLt _ _ _ _ (decide_eq_true (by omega))) fun _ h169=>mv h169 rfl fun _ h170=>?_
      refine sv h170 (wT h170 (E:=true) rfl rfl rfl) rfl rfl rfl (v:=.int .i64 (m:Int)) (rmove h170 rfl rfl) fun _ h171=>sv h171 (wT h171 (E:=true) rfl rfl rfl) rfl rfl rfl (v:=.int .i64 (((q292+m)-s9:Nat):Int)) (rmove h171 rfl rfl) fun _ h172=>sv h172 (wT h172 (E:=true) rfl rfl rfl) rfl rfl rfl (v:=.bool false) (rbin h172 rfl rfl rfl (cLt _ _ _ _ (decide_eq_false (by omega)))) fun _ h173=>sv1 h173 rfl (v:=.bool false) (rpick h173 rfl rfl rfl) fun _ h174=>h174.sn [185,24,22,21,20,19,18,0,1,2,3,4] rfl fun h175=>hK49 _ _<|wcF h175 rfl rfl<|h175.sk [24,22,21,20,19,18,0,1,2,3,4] rfl fun h176=>wp_skip<|hK48 _ _<|sq fun _ hK50=>sq fun _ hK51=>wp_region_lit ?_
      refine mvs 2 h176 rfl fun _ h177=>bv h177 rfl (cLt _ _ _ _ (decide_eq_true (by omega))) fun _ h178=>mv h178 rfl fun _ h179=>sv h179 (wT h179 (E:=true) rfl rfl rfl) rfl rfl rfl (v:=.int .i64 (s9:Int)) (rmove h179 rfl rfl) fun _ h180=>sv h180 (wT h180 (E:=true) rfl rfl rfl) rfl rfl rfl (v:=.int .i64 (q292:Int)) (rmove h180 rfl rfl) fun _ h181=>sv h181 (wT h181 (E:=true) rfl rfl rfl) rfl rfl rfl (v:=.bool false) (rbin h181 rfl rfl rfl (cLt _ _ _ _ (decide_eq_false (by omega)))) fun _ h182=>sv1 h182 rfl (v:=.bool false) (rpick h182 rfl rfl rfl) fun _ h183=>h183.sn [199,24,22,21,20,19,18,0,1,2,3,4] rfl fun h184=>hK51 _ _<|wcF h184 rfl rfl ?_
      refine h184.sk [24,22,21,20,19,18,0,1,2,3,4] rfl fun h185=>wp_skip<|hK50 _ _<|sqr fun _ hK52=>mvs 2 h185 rfl fun _ h186=>bv h186 rfl (cLt _ _ _ _ (decide_eq_true (by omega))) fun _ h187=>mv h187 rfl fun _ h188=>sv h188 (wT h188 (E:=true) rfl rfl rfl) rfl rfl rfl (v:=.int .i64 (((q292+m)-s9:Nat):Int)) (rmove h188 rfl rfl) fun _ h189=>sv h189 (wT h189 (E:=true) rfl rfl rfl) rfl rfl rfl (v:=.int .i64 (hi:Int)) (rmove h189 rfl rfl) fun _ h190=>sv h190 (wT h190 (E:=true) rfl rfl rfl) rfl rfl rfl (v:=.bool true) (rbin h190 rfl rfl rfl (cLt _ _ _ _ (decide_eq_true (by omega)))) fun _ h191=>sv1 h191 rfl (v:=.bool true) (rpick h191 rfl rfl rfl) fun _ h192=>?_
      refine h192.sn [213,24,22,21,20,19,18,0,1,2,3,4] rfl fun h193=>hK52 _ _<|wcT h193 rfl rfl<|h193.sk [24,22,21,20,19,18,0,1,2,3,4] rfl fun h194=>wp_region_lit<|mvs 5 h194 rfl fun _ h195=>cl h195 rfl cp_slices_symMergeCmpFunc_audit_item_x6 (ih (lo:=q292) (m:=(q292+m)-s9) (hi:=hi) (by omega) s10 (by omega) (by omega) (by omega)) fun _ v4 w10 r4 h196=>?_
      obtain ⟨rfl,s13⟩:=r4
      refine h196.sk [24,22,21,20,19,18,0,1,2,3,4] rfl fun h197=>wpList_nil ?_
      refine endR (v:=.tuple #[]) (fun _=>res0 rfl _) h197.defs ?_
      exact ⟨rfl,Sep.tail_un (xs:=[_]) s13⟩
    ·skip
     have hp12:¬ ((m:Int)>(q292:Int)):=(dF hc5)
     refine wcF h115 rfl hc5<|h115.sk [21,20,19,18,0,1,2,3,4] rfl fun h198=>sqr fun _ hK53=>mv h198 rfl fun _ h199=>h199.sk [145,21,19,18,0,1,2,3,4] rfl fun h200=>mv h200 rfl fun _ h201=>h201.sn [20,21,19,18,0,1,2,3,4] rfl fun h202=>hK53 _ _<|wp_region_lit<|mv h202 rfl fun _ h203=>?_
     refine h203.sk [146,20,19,18,0,1,2,3,4] rfl fun h204=>mv h204 rfl fun _ h205=>h205.sn [21,20,19,18,0,1,2,3,4] rfl fun h206=>hK36 _ _<|sqr fun _ hK54=>mv h206 rfl fun _ h207=>bv h207 (z:=.int .i64 ((q292+m-1:Nat):Int)) rfl (bSub _ _ _ (by omega) (by omega) (by omega)) fun _ h208=>mv h208 rfl fun _ h209=>h209.sn [22,21,20,19,18,0,1,2,3,4] rfl fun h210=>hK54 _ _ ?_
     refine sq fun _ hK55=>wp_block ?_
     refine wp_loop1 (fun (s:Nat) a' w'=>Kn 220 [(22,.int .i64 ((q292+m-1:Nat):Int)),(21,.int .i64 (m:Int)),(20,.int .i64 (s:Int)),(19,.int .i64 ((q292+m:Nat):Int)),(18,.int .i64 (q292:Int)),(0,.slice a n c),(1,.int .i64 (lo:Int)),(2,.int .i64 (m:Int)),(3,.int .i64 (hi:Int)),(4,.func (.func 41) #[] #[])] a'∧Sep w' [ownC 0 68 3 a (List.range n).length c ((List.range n).flatMap (itX bX oX L)),Ch.many R]∧(lo≤s∧s≤m)) (fun (s:Nat)=>m-s) lo ⟨h210.subs rfl,hS,by omega⟩ ?_
     rintro s14 a6 w11 ⟨h211,s15,hs2555⟩ K6 hK56
     refine sq fun _ hK57=>sqr fun _ hK58=>mvs 2 h211 rfl fun _ h212=>bv h212 (z:=.bool (decide ((s14:Int)<(m:Int)))) rfl (cLt _ _ _ _ rfl) fun _ h213=>h213.sn [151,22,21,20,19,18,0,1,2,3,4] rfl fun h214=>hK58 _ _ ?_
     rcases bC (decide ((s14:Int)<(m:Int))) with hc7 | hc7
     ·skip
      have hp13:(s14:Int)<(m:Int):=(dT hc7)
      refine wcT h214 rfl hc7<|h214.sk [22,21,20,19,18,0,1,2,3,4] rfl fun h215=>wp_skip<|hK57 _ _<|wp_block ?_
      refine sqr fun _ hK59=>mvs 2 h215 rfl fun _ h216=>bv h216 (z:=.int .i64 ((s14+m:Nat):Int)) rfl (bAdd _ _ _ (by omega) (by omega) (by omega)) fun _ h217=>sv1 h217 rfl (v:=.int .u64 ((s14+m:Nat):Int)) (rconvI h217 rfl rfl Tryz.underlying3 Tryz.underlying112 (wrapU (by omega) (by omega))) fun _ h218=>bv h218 (z:=.int .u64 (((s14+m) / 2:Nat):Int)) rfl (bShr1 _ _ _ (s14+m)) fun _ h219=>sv1 h219 rfl (v:=.int .i64 (((s14+m) / 2:Nat):Int)) (rconvI h219 rfl rfl Tryz.underlying112 Tryz.underlying3 (wrapI (by omega) (by omega))) fun _ h220=>mv h220 rfl fun _ h221=>h221.sn [23,22,21,20,19,18,0,1,2,3,4] rfl fun h222=>hK59 _ _<|sq fun _ hK60=>?_
      obtain ⟨q586,eq586⟩:∃ z,(s14+m) / 2=z:=⟨_,rfl⟩
      rw [eq586] at h222
      have hf587:s14≤q586:=by omega
      have hf588:q586<m:=by omega
      have hf589:q586<q292+m-1-q586:=by omega
      have hf590:q292+m-1-q586<hi:=by omega
      have hf591:q586≤q292+m-1:=by omega
      have s16:=s15.drew
      refine wp_region_held_drew (S:=fun w'=>Sep w' [ownC 0 68 3 a (List.range n).length c ((List.range n).flatMap (itX bX oX L)),Ch.many R]) (by kernel_rfl) s16 (fun hq10=>?_)
      refine tv1 hq10 h222 0 rfl rfl (v:=.func (.func 41) #[] #[]) (fun w1 _=>(rmove h222 rfl rfl) w1) fun _ h223=>?_
      refine tv1 hq10 h223 1 rfl rfl (v:=.slice a n c) (fun w1 _=>(rmove h223 rfl rfl) w1) fun _ h224=>?_
      refine tv1 hq10 h224 2 rfl rfl (v:=.int .i64 ((q292+m-1:Nat):Int)) (fun w1 _=>(rmove h224 rfl rfl) w1) fun _ h225=>?_
      refine tv1 hq10 h225 3 rfl rfl (v:=.int .i64 (q586:Int)) (fun w1 _=>(rmove h225 rfl rfl) w1) fun _ h226=>?_
      refine tv1 hq10 h226 4 rfl rfl (v:=.int .i64 (((q292+m-1)-q586:Nat):Int)) (fun w1 _=>(rbin h226 rfl rfl rfl (bSub _ _ _ (by omega) (by omega) (by omega))) w1) fun _ h227=>?_
      obtain ⟨q604,hq11⟩:=own_addr (s16.get 0 rfl:Own _ _ _ _ _ _ _ _)
      refine tv1 hq10 h227 5 rfl rfl (v:=.pointer (some ⟨q604,((q292+m-1)-q586)*3,none⟩)) (fun w1 _=>(rindexA h227 rfl rfl rfl (fun w=>ixO Tryz.underlying64 (by kernel_rfl) (sz:=3) (hq11 (by omega)) (j:=(q292+m-1)-q586) rfl (by omega) (by omega) w)) w1) fun _ h228=>?_
      refine tv1 hq10 h228 6 rfl rfl (v:=.agg #[.int .i64 ((L.getD ((q292+m-1)-q586) nilEv).done),.int .i64 0,.pointer (some ⟨bX,oX+((q292+m-1)-q586)*20,none⟩)]) (fun w1 hSw=>(rld h228 rfl rfl (by have z:=ldOS (P:=Tryz.prog) (itX_len bX oX L) Tryz.underlying68 rfl (by kernel_rfl) (hSw.get 0 rfl:Own _ _ _ _ _ _ _ _) (hq11 (by rw [List.length_range];omega)) 0 (j:=((q292+m-1)-q586)) (o:=((q292+m-1)-q586)*3) (by rw [List.length_range];omega) rfl;rw [range_getD (by omega)] at z;exact z))) fun _ h229=>?_
      refine tv1 hq10 h229 7 rfl rfl (v:=.slice a n c) (fun w1 _=>(rmove h229 rfl rfl) w1) fun _ h230=>?_
      refine tv1 hq10 h230 8 rfl rfl (v:=.int .i64 (q586:Int)) (fun w1 _=>(rmove h230 rfl rfl) w1) fun _ h231=>?_
      refine tv1 hq10 h231 9 rfl rfl (v:=.pointer (some ⟨q604,q586*3,none⟩)) (fun w1 _=>(rindexA h231 rfl rfl rfl (fun w=>ixO Tryz.underlying64 (by kernel_rfl) (sz:=3) (hq11 (by omega)) (j:=q586) rfl (by omega) (by omega) w)) w1) fun _ h232=>?_
      refine tv1 hq10 h232 10 rfl rfl (v:=.agg #[.int .i64 ((L.getD q586 nilEv).done),.int .i64 0,.pointer (some ⟨bX,oX+q586*20,none⟩)]) (fun w1 hSw=>(rld h232 rfl rfl (by have z:=ldOS (P:=Tryz.prog) (itX_len bX oX L) Tryz.underlying68 rfl (by kernel_rfl) (hSw.get 0 rfl:Own _ _ _ _ _ _ _ _) (hq11 (by rw [List.length_range];omega)) 0 (j:=q586) (o:=q586*3) (by rw [List.length_range];omega) rfl;rw [range_getD (by omega)] at z;exact z))) fun _ h233=>?_
      refine to_ 11 rfl (wanted_none rfl) (by kernel_rfl) fun _ hK61=>xcall h233 rfl rfl rfl (xs:=[.tmp 164,.tmp 168]) rfl cp_audit_order_2_x6 rfl (vs:=[.agg #[.int .i64 ((L.getD ((q292+m-1)-q586) nilEv).done),.int .i64 0,.pointer (some ⟨bX,oX+((q292+m-1)-q586)*20,none⟩)],.agg #[.int .i64 ((L.getD q586 nilEv).done),.int .i64 0,.pointer (some ⟨bX,oX+q586*20,none⟩)]]) rfl (args:=#[.agg #[.int .i64 ((L.getD ((q292+m-1)-q586) nilEv).done),.int .i64 0,.pointer (some ⟨bX,oX+((q292+m-1)-q586)*20,none⟩)],.agg #[.int .i64 ((L.getD q586 nilEv).done),.int .i64 0,.pointer (some ⟨bX,oX+q586*20,none⟩)]]) rfl (cmp_s (mo:=(L.getD ((q292+m-1)-q586) nilEv).done) (cq:=0) (p:=(some ⟨bX,oX+((q292+m-1)-q586)*20,none⟩)) (mo2:=(L.getD q586 nilEv).done) (cl2:=0) (p2:=(some ⟨bX,oX+q586*20,none⟩)) s16) fun _ v5 w12 r5 h234=>?_
      obtain ⟨rfl,s17⟩:=r5
      refine hK61 _ _ s17 fun hq12=>?_
      refine tv1 hq12 h234 12 rfl rfl (v:=.bool false) (fun w1 _=>(rbin h234 rfl rfl rfl (cLt _ _ _ _ (decide_eq_false (cmpI_up (up q586 (q292+m-1-q586) (by omega) (by omega)))))) w1) fun _ h235=>?_
      refine tv1 hq12 h235 13 rfl rfl (v:=.bool true) (fun w1 _=>(rnot h235 rfl (b:=false) rfl) w1) fun _ h236=>?_
      refine h236.sk [171,23,22,21,20,19,18,0,1,2,3,4] rfl fun h237=>?_
      refine wpAnyH_done (by kernel_rfl) ?_ _
      refine hK60 _ _ ?_
      refine wcT h237 rfl rfl<|h237.sk [23,22,21,20,19,18,0,1,2,3,4] rfl fun h238=>wp_region_lit<|mv h238 rfl fun _ h239=>bv h239 (z:=.int .i64 ((q586+1:Nat):Int)) rfl (bAdd _ _ _ (by omega) (by omega) (by omega)) fun _ h240=>h240.sk [173,172,23,22,21,19,18,0,1,2,3,4] rfl fun h241=>mv h241 rfl fun _ h242=>h242.sk [20,23,22,21,19,18,0,1,2,3,4] rfl fun h243=>wpList_nil ?_
      exact hK56 (q586+1) _ _ ⟨h243.subs rfl,s17,by omega⟩ (by omega)
     ·skip
      have hp14:¬ ((s14:Int)<(m:Int)):=(dF hc7)
      refine wcF h214 rfl hc7<|h214.sk [22,21,20,19,18,0,1,2,3,4] rfl fun h244=>wp_exit ?_
      refine hK55 _ _ ?_
      refine sqr fun _ hK62=>mvs 2 h244 rfl fun _ h245=>bv h245 (z:=.int .i64 (((q292+m)-s14:Nat):Int)) rfl (bSub _ _ _ (by omega) (by omega) (by omega)) fun _ h246=>mv h246 rfl fun _ h247=>h247.sn [24,22,21,20,19,18,0,1,2,3,4] rfl fun h248=>hK62 _ _<|sq fun _ hK63=>sqr fun _ hK64=>mvs 2 h248 rfl fun _ h249=>bv h249 rfl (cLt _ _ _ _ (decide_eq_false (by omega))) fun _ h250=>mv h250 rfl fun _ h251=>?_
      refine su h251 (wT h251 (E:=false) rfl rfl rfl) rfl rfl rfl fun _ h252=>su h252 (wT h252 (E:=false) rfl rfl rfl) rfl rfl rfl fun _ h253=>su h253 (wT h253 (E:=false) rfl rfl rfl) rfl rfl rfl fun _ h254=>sv1 h254 rfl (v:=.bool false) (rpick h254 rfl rfl rfl) fun _ h255=>h255.sn [185,24,22,21,20,19,18,0,1,2,3,4] rfl fun h256=>hK64 _ _<|wcF h256 rfl rfl<|h256.sk [24,22,21,20,19,18,0,1,2,3,4] rfl fun h257=>wp_skip<|hK63 _ _<|sq fun _ hK65=>sq fun _ hK66=>wp_region_lit ?_
      refine mvs 2 h257 rfl fun _ h258=>bv h258 rfl (cLt _ _ _ _ (decide_eq_true (by omega))) fun _ h259=>mv h259 rfl fun _ h260=>sv h260 (wT h260 (E:=true) rfl rfl rfl) rfl rfl rfl (v:=.int .i64 (s14:Int)) (rmove h260 rfl rfl) fun _ h261=>sv h261 (wT h261 (E:=true) rfl rfl rfl) rfl rfl rfl (v:=.int .i64 (q292:Int)) (rmove h261 rfl rfl) fun _ h262=>sv h262 (wT h262 (E:=true) rfl rfl rfl) rfl rfl rfl (v:=.bool (decide ((s14:Int)<(q292:Int)))) (rbin h262 rfl rfl rfl (cLt _ _ _ _ rfl)) fun _ h263=>sv1 h263 rfl (v:=.bool (decide ((s14:Int)<(q292:Int)))) (rpick h263 rfl rfl rfl) fun _ h264=>h264.sn [199,24,22,21,20,19,18,0,1,2,3,4] rfl fun h265=>hK66 _ _ ?_
      rcases bC (decide ((s14:Int)<(q292:Int))) with hc8 | hc8
      ·skip
       have hp15:(s14:Int)<(q292:Int):=(dT hc8)
       refine wcT h265 rfl hc8<|h265.sk [24,22,21,20,19,18,0,1,2,3,4] rfl fun h266=>wp_region_lit<|mvs 5 h266 rfl fun _ h267=>cl h267 rfl cp_slices_symMergeCmpFunc_audit_item_x6 (ih (lo:=lo) (m:=s14) (hi:=q292) (by omega) s15 (by omega) (by omega) (by omega)) fun _ v6 w13 r6 h268=>?_
       obtain ⟨rfl,s18⟩:=r6
       refine h268.sn [24,22,21,20,19,18,0,1,2,3,4] rfl fun h269=>hK65 _ _<|sqr fun _ hK67=>mvs 2 h269 rfl fun _ h270=>bv h270 rfl (cLt _ _ _ _ (decide_eq_false (by omega))) fun _ h271=>mv h271 rfl fun _ h272=>su h272 (wT h272 (E:=false) rfl rfl rfl) rfl rfl rfl fun _ h273=>su h273 (wT h273 (E:=false) rfl rfl rfl) rfl rfl rfl fun _ h274=>su h274 (wT h274 (E:=false) rfl rfl rfl) rfl rfl rfl fun _ h275=>sv1 h275 rfl (v:=.bool false) (rpick h275 rfl rfl rfl) fun _ h276=>?_
       refine h276.sn [213,24,22,21,20,19,18,0,1,2,3,4] rfl fun h277=>hK67 _ _<|wcF h277 rfl rfl<|h277.sk [24,22,21,20,19,18,0,1,2,3,4] rfl fun h278=>wp_skip ?_
       refine endR (v:=.tuple #[]) (fun _=>res0 rfl _) h278.defs ?_
       exact ⟨rfl,Sep.tail_un (xs:=[_]) s18⟩
      ·skip
       have hp16:¬ ((s14:Int)<(q292:Int)):=(dF hc8)
       refine wcF h265 rfl hc8<|h265.sk [24,22,21,20,19,18,0,1,2,3,4] rfl fun h279=>wp_skip<|hK65 _ _<|sqr fun _ hK68=>mvs 2 h279 rfl fun _ h280=>bv h280 rfl (cLt _ _ _ _ (decide_eq_false (by omega))) fun _ h281=>mv h281 rfl fun _ h282=>su h282 (wT h282 (E:=false) rfl rfl rfl) rfl rfl rfl fun _ h283=>su h283 (wT h283 (E:=false) rfl rfl rfl) rfl rfl rfl fun _ h284=>su h284 (wT h284 (E:=false) rfl rfl rfl) rfl rfl rfl fun _ h285=>?_
       refine sv1 h285 rfl (v:=.bool false) (rpick h285 rfl rfl rfl) fun _ h286=>h286.sn [213,24,22,21,20,19,18,0,1,2,3,4] rfl fun h287=>hK68 _ _<|wcF h287 rfl rfl<|h287.sk [24,22,21,20,19,18,0,1,2,3,4] rfl fun h288=>wp_skip ?_
       refine endR (v:=.tuple #[]) (fun _=>res0 rfl _) h288.defs ?_
       exact ⟨rfl,Sep.tail_un (xs:=[_]) s15⟩

set_option maxHeartbeats 4000000 in
theorem stableX_s {w:World} {R:List Ch} {bX oX n c:Nat} {a:Option Addr} {L:List EvM} (hS0:Sep w ([ownC 0 68 3 a (List.range n).length c ((List.range n).flatMap (itX bX oX L))]++R)) (hn:n≤25) (up:∀ i j,i<j→j<n→(L.getD i nilEv).done≤(L.getD j nilEv).done) :
  CallsR Tryz.prog 48 #[.slice a n c,.int .i64 (n:Int),.func (.func 41) #[] #[]] w (fun v w'=>v=.tuple #[]∧Sep w' ([ownC 0 68 3 a (List.range n).length c ((List.range n).flatMap (itX bX oX L))]++R)):=by
 have hS:Sep w [ownC 0 68 3 a (List.range n).length c ((List.range n).flatMap (itX bX oX L)),Ch.many R]:=Sep.tail_many (xs:=[_]) hS0;clear hS0
 have hr:(List.range n).length=n:=List.length_range
 refine enterR Tryz.func48 rfl (N:=63) Tryz.ntmps48 (by show 3≤63;decide) [(0,.slice a n c),(1,.int .i64 (n:Int)),(2,.func (.func 41) #[] #[])] rfl fun _ h1=>sqr fun _ hK3=>mv h1 rfl fun _ h4=>wpList_nil<|hK3 _ _<|sqr fun _ hK6=>mvs 3 h4 rfl fun _ h2=>h2.sn [8,7,6,0,1,2] rfl fun h3=>hK6 _ _<|sq fun _ hK1=>wp_block ?_
 refine wp_loop2 (fun (x0:Nat) (x1:Nat) a' w'=>Kn 63 [(8,.int .i64 (x1:Int)),(7,.int .i64 (x0:Int)),(6,.int .i64 20),(0,.slice a n c),(1,.int .i64 (n:Int)),(2,.func (.func 41) #[] #[])] a'∧Sep w' [ownC 0 68 3 a (List.range n).length c ((List.range n).flatMap (itX bX oX L)),Ch.many R]∧(x1=x0+20∧(x0=0∨x0=20))) (fun (x0:Nat) (x1:Nat)=>40-x1) 0 20 ⟨h3.subs rfl,hS,by omega⟩ ?_
 rintro x021 x122 a1 w1 ⟨h5,s1,hx20⟩ K1 hK2
 refine sq fun _ hK4=>sqr fun _ hK5=>mvs 2 h5 rfl fun _ h6=>bv h6 (z:=.bool (decide ((x122:Int)≤(n:Int)))) rfl (cLe _ _ _ _ rfl) fun _ h7=>h7.sn [13,8,7,6,0,1,2] rfl fun h8=>hK5 _ _ ?_
 rcases bC (decide ((x122:Int)≤(n:Int))) with hc1 | hc1
 ·skip
  have hp1:(x122:Int)≤(n:Int):=(dT hc1)
  refine wcT h8 rfl hc1<|h8.sk [8,7,6,0,1,2] rfl fun h9=>wp_skip<|hK4 _ _<|wp_block ?_
  refine sqr fun _ hK7=>mvs 4 h9 rfl fun _ h10=>cl h10 rfl cp_slices_insertionSortCmpFunc_audit_item_x7 (insertionX_s (lo:=x021) (hi:=x122) s1 (by omega) (by omega) (by omega) up) fun _ v1 w2 r1 h11=>?_
  obtain ⟨rfl,s2⟩:=r1
  refine h11.sn [8,7,6,0,1,2] rfl fun h12=>hK7 _ _<|sqr fun _ hK8=>mv h12 rfl fun _ h13=>h13.sk [19,8,6,0,1,2] rfl fun h14=>mv h14 rfl fun _ h15=>h15.sn [7,8,6,0,1,2] rfl fun h16=>hK8 _ _<|wp_region_lit<|mvs 2 h16 rfl fun _ h17=>?_
  refine bv h17 (z:=.int .i64 ((x122+20:Nat):Int)) rfl (bAdd _ _ _ (by omega) (by omega) (by omega)) fun _ h18=>h18.sk [22,21,20,7,6,0,1,2] rfl fun h19=>mv h19 rfl fun _ h20=>h20.sk [8,7,6,0,1,2] rfl fun h21=>wpList_nil ?_
  exact hK2 x122 (x122+20) _ _ ⟨h21.subs rfl,s2,by omega⟩ (by omega)
 ·skip
  have hp2:¬ ((x122:Int)≤(n:Int)):=(dF hc1)
  refine wcF h8 rfl hc1<|h8.sk [8,7,6,0,1,2] rfl fun h22=>wp_exit ?_
  refine hK1 _ _ ?_
  refine sqr fun _ hK9=>mvs 4 h22 rfl fun _ h23=>cl h23 rfl cp_slices_insertionSortCmpFunc_audit_item_x7 (insertionX_s (lo:=x021) (hi:=n) s1 (by omega) (by omega) (by omega) up) fun _ v2 w3 r2 h24=>?_
  obtain ⟨rfl,s3⟩:=r2
  refine h24.sn [8,7,6,0,1,2] rfl fun h25=>hK9 _ _<|wp_block ?_
  refine wp_loop1 (fun (bs:Nat) a' w'=>Kn 63 [(6,.int .i64 (bs:Int)),(0,.slice a n c),(1,.int .i64 (n:Int)),(2,.func (.func 41) #[] #[])] a'∧Sep w' [ownC 0 68 3 a (List.range n).length c ((List.range n).flatMap (itX bX oX L)),Ch.many R]∧(bs=20∨bs=40)) (fun (bs:Nat)=>40-bs) 20 ⟨h25.subs rfl,s3,by omega⟩ ?_
  rintro bs94 a2 w4 ⟨h26,s4,hb93⟩ K2 hK10
  refine sq fun _ hK11=>sqr fun _ hK12=>mvs 2 h26 rfl fun _ h27=>bv h27 (z:=.bool (decide ((bs94:Int)<(n:Int)))) rfl (cLt _ _ _ _ rfl) fun _ h28=>h28.sn [30,6,0,1,2] rfl fun h29=>hK12 _ _ ?_
  rcases bC (decide ((bs94:Int)<(n:Int))) with hc2 | hc2
  ·skip
   have hp3:(bs94:Int)<(n:Int):=(dT hc2)
   refine wcT h29 rfl hc2<|h29.sk [6,0,1,2] rfl fun h30=>wp_skip<|hK11 _ _<|wp_block ?_
   refine sq fun _ hK13=>?_
   have hb2:bs94=20:=by omega
   refine wp_region_lit<|mv h30 rfl fun _ h31=>bv h31 (z:=.int .i64 ((2*bs94:Nat):Int)) rfl (bMul _ _ _ (by omega) (by omega) (by omega)) fun _ h32=>mvs 2 h32 rfl fun _ h33=>h33.sn [8,7,6,0,1,2] rfl fun h34=>hK13 _ _<|sq fun _ hK14=>wp_block ?_
   refine wp_loop1 (fun (z:Nat) a' w'=>Kn 63 [(8,.int .i64 ((2*bs94:Nat):Int)),(7,.int .i64 0),(6,.int .i64 (bs94:Int)),(0,.slice a n c),(1,.int .i64 (n:Int)),(2,.func (.func 41) #[] #[])] a'∧Sep w' [ownC 0 68 3 a (List.range n).length c ((List.range n).flatMap (itX bX oX L)),Ch.many R]) (fun (z:Nat)=>z) 0 ⟨h34.subs rfl,s4⟩ ?_
   rintro z123 a3 w5 ⟨h35,s5⟩ K3 hK15
   refine sq fun _ hK16=>sqr fun _ hK17=>mvs 2 h35 rfl fun _ h36=>bv h36 rfl (cLe _ _ _ _ (decide_eq_false (by omega))) fun _ h37=>h37.sn [35,8,7,6,0,1,2] rfl fun h38=>hK17 _ _<|wcF h38 rfl rfl<|h38.sk [8,7,6,0,1,2] rfl fun h39=>wp_exit ?_
   refine hK14 _ _ ?_
   refine sq fun _ hK18=>sqr fun _ hK19=>mvs 2 h39 rfl fun _ h40=>bv h40 (z:=.int .i64 ((0+bs94:Nat):Int)) rfl (bAdd _ _ _ (by omega) (by omega) (by omega)) fun _ h41=>mv h41 rfl fun _ h42=>h42.sn [9,8,7,6,0,1,2] rfl fun h43=>hK19 _ _<|sqr fun _ hK20=>mvs 2 h43 rfl fun _ h44=>bv h44 rfl (cLt _ _ _ _ (decide_eq_true (by omega))) fun _ h45=>h45.sk [54,9,8,7,6,0,1,2] rfl fun h46=>?_
   refine wpList_nil<|hK20 _ _<|wcT h46 rfl rfl<|h46.sk [9,8,7,6,0,1,2] rfl fun h47=>wp_region_lit<|mvs 5 h47 rfl fun _ h48=>cl h48 rfl cp_slices_symMergeCmpFunc_audit_item_x7 (symMerge_s (by omega) up 1000 (lo:=0) (m:=0+bs94) (hi:=n) (by omega) s5 (by omega) (by omega) (by omega)) fun _ v3 w6 r3 h49=>?_
   obtain ⟨rfl,s6⟩:=r3
   refine h49.sn [9,8,7,6,0,1,2] rfl fun h50=>hK18 _ _<|wp_region_lit<|mv h50 rfl fun _ h51=>bv h51 (z:=.int .i64 ((bs94*2:Nat):Int)) rfl (bMul _ _ _ (by omega) (by omega) (by omega)) fun _ h52=>h52.sk [62,61,9,8,7,0,1,2] rfl fun h53=>mv h53 rfl fun _ h54=>h54.sk [6,9,8,7,0,1,2] rfl fun h55=>wpList_nil ?_
   exact hK10 (bs94*2) _ _ ⟨h55.subs rfl,s6,by omega⟩ (by omega)
  ·skip
   have hp4:¬ ((bs94:Int)<(n:Int)):=(dF hc2)
   refine wcF h29 rfl hc2<|h29.sk [6,0,1,2] rfl fun h56=>wp_exit ?_
   simp only [Exit.then,Exit.inBlock,↓reduceIte,Nat.reduceEqDiff]
   refine endR (v:=.tuple #[]) (fun _=>res0 rfl _) h56.defs ?_
   exact ⟨rfl,Sep.tail_un (xs:=[_]) s4⟩

set_option maxHeartbeats 4000000 in
theorem sortStableX_s {w:World} {R:List Ch} {bX oX n c:Nat} {a:Option Addr} {L:List EvM} (hS0:Sep w ([ownC 0 68 3 a (List.range n).length c ((List.range n).flatMap (itX bX oX L))]++R)) (hn:n≤25) (up:∀ i j,i<j→j<n→(L.getD i nilEv).done≤(L.getD j nilEv).done) :
  CallsR Tryz.prog 40 #[.slice a n c,.func (.func 41) #[] #[]] w (fun v w'=>v=.tuple #[]∧Sep w' ([ownC 0 68 3 a (List.range n).length c ((List.range n).flatMap (itX bX oX L))]++R)):=by
 have hS:Sep w [ownC 0 68 3 a (List.range n).length c ((List.range n).flatMap (itX bX oX L)),Ch.many R]:=Sep.tail_many (xs:=[_]) hS0;clear hS0
 have hr:(List.range n).length=n:=List.length_range
 refine enterR Tryz.func40 rfl (N:=9) Tryz.ntmps40 (by show 2≤9;decide) [(0,.slice a n c),(1,.func (.func 41) #[] #[])] rfl fun _ h1=>wp_region_lit<|mvs 2 h1 rfl fun _ h5=>sv1 h5 rfl (v:=.int .i64 (n:Int)) (rlenS h5 rfl rfl Tryz.underlying64) fun _ h7=>mv h7 rfl fun _ h9=>cl h9 rfl cp_slices_stableCmpFunc_audit_item_x8 (stableX_s hS hn up) fun _ v1 w1 r1 h2=>?_
 obtain ⟨rfl,s1⟩:=r1
 refine h2.sk [0,1] rfl fun h3=>wpList_nil ?_
 refine endR (v:=.tuple #[]) (fun _=>res0 rfl _) h3.defs ?_
 exact ⟨rfl,Sep.tail_un (xs:=[_]) s1⟩

end Go.Proofs.YtpdjnefgkcmdnaaGreatDoor
/- Merged: AwC AwD AwE AwF AwG. -/
/- stage 25: order, Run, over a past world (sx/aw.py) -/
namespace Go.Proofs.YtpdjnefgkcmdnaaGreatDoor
open Go.RowKit
set_option linter.unusedSimpArgs false
set_option linter.unusedVariables false
set_option maxRecDepth 100000

/-- an event that may be handed to fits; its reply's names lie in the world W1 -/
def wfEX (W1:World) (ev:EvM):Prop:=ev.x.p1.length≤1000∧ev.x.p2.length≤1000∧ev.x.data.length≤1000∧(Lit.int .i64 ev.x.fd).wf=true∧¬ (ev.told>0∧ev.r.e=18)∧(ev.told>0∨ev.r.e=0)∧ExtA W1 ev.na ev.r.names.length ev.nc 1 (fun k=>[.string (ev.r.names.getD k noNm)])
/-- the file system behind so many events; what is told of the next one; which is the first that does not fit -/
def stE (L:List EvM):Nat→FsM
 | 0=>fs0
 | j+1=>(doF (stE L j) (L.getD j nilEv).cl (L.getD j nilEv).x).1
def rpE (L:List EvM) (j:Nat):RepM:=(doF (stE L j) (L.getD j nilEv).cl (L.getD j nilEv).x).2
def wrE (L:List EvM):Nat→Int
 | 0=>0
 | j+1=>if ((!fitB (L.getD j nilEv) (rpE L j))&&decide (wrE L j=0))=true then (L.getD j nilEv).num else wrE L j
theorem wrE_bad {L:List EvM} {j:Nat} (h:((!fitB (L.getD j nilEv) (rpE L j))&&decide (wrE L j=0))=true):wrE L (j+1)=(L.getD j nilEv).num:=by
 show (if _ then _ else _)=_
 rw [if_pos h]
theorem wrE_ok {L:List EvM} {j:Nat} (h:((!fitB (L.getD j nilEv) (rpE L j))&&decide (wrE L j=0))=false):wrE L (j+1)=wrE L j:=by
 show (if _ then _ else _)=_
 rw [h];exact if_neg Bool.false_ne_true
theorem rp_names {L:List EvM} {A:AdM} {n j:Nat} (h:FsA (stE L j) A n) (hn:n≤800):(rpE L j).names.length≤100000:=
 Nat.le_trans (do_names _ _) (Nat.le_trans h.sz.2.1 (by omega))

theorem fa_api_Event_y1_4 (g off:Nat) (w:World):(Instr.fieldAt 35 (.pointer (some ⟨g,off,none⟩)) 4).run Tryz.prog w=.ok (.pointer (some ⟨g,off+11,none⟩)) w:=rfl
theorem cp_slices_DeleteFunc_audit_item_audit_item_y1 (args:Array Value) (w:World):(callFunc 38 args).run Tryz.prog w=.ok (.enter 38 args) w:=by
 have h:=Tryz.func38
 go_simp
theorem cp_slices_SortStableFunc_audit_item_audit_item_y1 (args:Array Value) (w:World):(callFunc 40 args).run Tryz.prog w=.ok (.enter 40 args) w:=by
 have h:=Tryz.func40
 go_simp
theorem cp_audit_order_y2 (args:Array Value) (w:World):(callFunc 25 args).run Tryz.prog w=.ok (.enter 25 args) w:=by
 have h:=Tryz.func25
 go_simp
theorem fa_audit_item_y2_2 (g off:Nat) (w:World):(Instr.fieldAt 68 (.pointer (some ⟨g,off,none⟩)) 2).run Tryz.prog w=.ok (.pointer (some ⟨g,off+2,none⟩)) w:=rfl
theorem cp_audit_fits_y2 (args:Array Value) (w:World):(callFunc 27 args).run Tryz.prog w=.ok (.enter 27 args) w:=by
 have h:=Tryz.func27
 go_simp
theorem fa_api_Event_y2_1 (g off:Nat) (w:World):(Instr.fieldAt 35 (.pointer (some ⟨g,off,none⟩)) 1).run Tryz.prog w=.ok (.pointer (some ⟨g,off+1,none⟩)) w:=rfl

set_option maxHeartbeats 4000000 in
theorem orderX_s {w:World} {R:List Ch} {W1:World} {ea:Option Addr} {bX oX n n2:Nat} {L:List EvM} (hS0:Sep w ([oldC W1 W1.heap.size]++R)) (hX:0<n→ea=some ⟨bX,oX,none⟩∧ExtC W1 bX oX 20 n (fun i=>evC (L.getD i nilEv))) (hn:n≤25) (hd:∀ i,i<n→1≤(L.getD i nilEv).done) (up:∀ i j,i<j→j<n→(L.getD i nilEv).done≤(L.getD j nilEv).done) :
  CallsR Tryz.prog 25 #[.slice ea n n2,.slice none 0 0] w (fun v w'=>∃ ia ic,v=.slice ia n ic∧Sep w' ([ownC 0 68 3 ia (List.range n).length ic ((List.range n).flatMap (itX bX oX L)),oldC W1 W1.heap.size]++R)):=by
 have hS:Sep w [oldC W1 W1.heap.size,Ch.many R]:=Sep.tail_many (xs:=[_]) hS0;clear hS0
 refine enterR Tryz.func25 rfl (N:=55) Tryz.ntmps25 (by show 2≤55;decide) [(0,.slice ea n n2),(1,.slice none 0 0)] rfl fun _ h1=>sqr fun _ hK3=>mv h1 rfl fun _ h4=>wpList_nil<|hK3 _ _<|sq fun _ hK6=>?_
 have s7:=hS.ownNil 0 68 3
 have s8:Sep w [ownC 0 68 3 none (List.range 0).length 0 ((List.range 0).flatMap (itX bX oX L)),oldC W1 W1.heap.size,Ch.many R]:=s7
 refine wp_region_lit<|mv h4 rfl fun _ h9=>wpList_nil<|hK6 _ _<|sq fun _ hK1=>sqr fun _ hK2=>mv h9 rfl fun _ h2=>sv1 h2 rfl (v:=.int .i64 0) (rlenS h2 rfl rfl Tryz.underlying62) fun _ h3=>mv h3 rfl fun _ h5=>wpList_nil<|hK2 _ _<|wp_block ?_
 refine wp_loop1 (fun (z:Nat) a' w'=>Kn 55 [(13,.int .i64 0),(12,.int .i64 0),(11,.slice none 0 0),(5,.slice none 0 0),(4,.slice none 0 0),(0,.slice ea n n2),(1,.slice none 0 0)] a'∧Sep w' [ownC 0 68 3 none (List.range 0).length 0 ((List.range 0).flatMap (itX bX oX L)),oldC W1 W1.heap.size,Ch.many R]) (fun (z:Nat)=>z) 0 ⟨h5.subs rfl,s8⟩ ?_
 rintro z24 a1 w2 ⟨h6,s1⟩ K1 hK4
 refine sqr fun _ hK5=>bv h6 rfl (cLt _ _ _ _ rfl) fun _ h7=>wpList_nil<|hK5 _ _<|sq fun _ hK7=>wcF h7 rfl rfl<|h7.sk [13,12,11,5,4,0,1] rfl fun h8=>wp_exit ?_
 refine hK1 _ _ ?_
 refine sq fun _ hK8=>sqr fun _ hK9=>mv h8 rfl fun _ h10=>sv1 h10 rfl (v:=.int .i64 (n:Int)) (rlenS h10 rfl rfl Tryz.underlying22) fun _ h11=>mv h11 rfl fun _ h12=>h12.sn [34,33,13,12,11,5,4,0,1] rfl fun h13=>hK9 _ _<|wp_block ?_
 refine wp_loop3 (fun (i:Nat) (ia:Option Addr) (ic:Nat) a' w'=>Kn 55 [(34,.int .i64 (i:Int)),(33,.int .i64 (n:Int)),(13,.int .i64 0),(12,.int .i64 0),(11,.slice none 0 0),(5,.slice ia ((List.range i).length) ic),(4,.slice none 0 0),(0,.slice ea n n2),(1,.slice none 0 0)] a'∧Sep w' [ownC 0 68 3 ia (List.range i).length ic ((List.range i).flatMap (itX bX oX L)),oldC W1 W1.heap.size,Ch.many R]∧(i≤n)) (fun (i:Nat) (ia:Option Addr) (ic:Nat)=>n-i) 0 none 0 ⟨h13.subs rfl,s1,by omega⟩ ?_
 rintro i1 ia46 ic47 a2 w3 ⟨h14,s2,hi44⟩ K2 hK10
 refine sqr fun _ hK11=>bv h14 (z:=.bool (decide ((i1:Int)<(n:Int)))) rfl (cLt _ _ _ _ rfl) fun _ h15=>wpList_nil<|hK11 _ _<|sq fun _ hK12=>?_
 rcases bC (decide ((i1:Int)<(n:Int))) with hc1 | hc1
 ·skip
  have hp1:(i1:Int)<(n:Int):=(dT hc1)
  refine wcT h15 rfl hc1<|h15.sk [34,33,13,12,11,5,4,0,1] rfl fun h16=>wp_skip<|hK12 _ _<|sq fun _ hK13=>wp_block ?_
  refine sqr fun _ hK14=>mvs 2 h16 rfl fun _ h17=>h17.sn [10,34,33,13,12,11,5,4,0,1] rfl fun h18=>hK14 _ _ ?_
  have s3:=s2.drew
  refine wp_region_held_drew (S:=fun w'=>Sep w' [oldC W1 W1.heap.size,Ch.many R]) (by kernel_rfl) (s3.pk [1,2] rfl) (fun hq1=>?_)
  refine tv1 hq1 h18 0 rfl rfl (v:=.slice ia46 ((List.range i1).length) ic47) (fun w1 _=>(rmove h18 rfl rfl) w1) fun _ h19=>?_
  refine tv1 hq1 h19 1 rfl rfl (v:=.slice ea n n2) (fun w1 _=>(rmove h19 rfl rfl) w1) fun _ h20=>?_
  refine tv1 hq1 h20 2 rfl rfl (v:=.int .i64 (i1:Int)) (fun w1 _=>(rmove h20 rfl rfl) w1) fun _ h21=>?_
  refine tv1 hq1 h21 3 rfl rfl (v:=.pointer (some ⟨bX,oX+i1*20,none⟩)) (fun w1 _=>(rindexA h21 rfl rfl rfl (fun w=>ixO Tryz.underlying22 (by kernel_rfl) (sz:=20) (hX (by omega)).1 (j:=i1) rfl (by omega) rfl w)) w1) fun _ h22=>?_
  refine tv1 hq1 h22 4 rfl rfl (v:=.pointer (some ⟨bX,oX+i1*20+11,none⟩)) (fun w1 _=>(rfa h22 rfl rfl (fun w=>fa_api_Event_y1_4 bX (oX+i1*20) w)) w1) fun _ h23=>?_
  refine tv1 hq1 h23 5 rfl rfl (v:=.int .i64 ((L.getD i1 nilEv).done)) (fun w1 hSw=>(rld h23 rfl rfl (ldXc (sz:=20) (n:=n) (f:=(fun i=>evC (L.getD i nilEv))) Tryz.underlying3 rfl (hX (by omega)).2 (Nat.le_refl _) (hSw.get 0 rfl:Below _ _ _∧_) (j:=i1) (i:=11) (by omega) rfl rfl))) fun _ h24=>?_
  refine tv1 hq1 h24 6 rfl rfl (v:=.slice ea n n2) (fun w1 _=>(rmove h24 rfl rfl) w1) fun _ h25=>?_
  refine tv1 hq1 h25 7 rfl rfl (v:=.int .i64 (i1:Int)) (fun w1 _=>(rmove h25 rfl rfl) w1) fun _ h26=>?_
  refine tv1 hq1 h26 8 rfl rfl (v:=.pointer (some ⟨bX,oX+i1*20,none⟩)) (fun w1 _=>(rindexA h26 rfl rfl rfl (fun w=>ixO Tryz.underlying22 (by kernel_rfl) (sz:=20) (hX (by omega)).1 (j:=i1) rfl (by omega) rfl w)) w1) fun _ h27=>?_
  refine tv1 hq1 h27 9 rfl rfl (v:=.agg #[.int .i64 ((L.getD i1 nilEv).done),.int .i64 0,.pointer (some ⟨bX,oX+i1*20,none⟩)]) (fun w1 _=>(rbuild h27 (xs:=[(0,.tmp 42),(2,.tmp 45)]) rfl (vs:=[(0,.int .i64 ((L.getD i1 nilEv).done)),(2,.pointer (some ⟨bX,oX+i1*20,none⟩))]) rfl (fun w=>by kernel_rfl)) w1) fun _ h28=>?_
  refine to_ 10 rfl (wanted_none rfl) (by kernel_rfl) fun _ hK15=>xbuildS h28 rfl rfl rfl (E:=68) (xs:=[(0,.tmp 46)]) rfl (vs:=[(0,.agg #[.int .i64 ((L.getD i1 nilEv).done),.int .i64 0,.pointer (some ⟨bX,oX+i1*20,none⟩)])]) rfl (z:=[.int .i64 ((L.getD i1 nilEv).done),.int .i64 0,.pointer (some ⟨bX,oX+i1*20,none⟩)]) (fun _=>by kernel_rfl) s3 fun _ g1 w4 h29 s4 _ _=>?_
  refine hK15 _ _ (s4.pk [2,3] rfl) fun hq2=>?_
  refine to_ 11 rfl (wanted_none rfl) (by kernel_rfl) fun _ hK16=>xappS (itX_len bX oX L) h29 rfl rfl rfl rfl EIt s4 1 rfl rfl 0 (y:=i1) rfl rfl rfl (by decide) (by rw [List.length_range];omega) (L':=List.range (i1+1)) (List.range_succ).symm fun _ p94 c95 w5 h30 s5=>?_
  have s6:=s5.pk [1,2,3] rfl;clear s5
  refine hK16 _ _ (s6.pk [1,2] rfl) fun hq3=>h30.sk [48,47,46,45,44,43,42,41,40,39,38,37,10,34,33,13,12,11,4,0,1] rfl fun h31=>?_
  refine tv1 hq3 h31 12 rfl rfl (v:=.slice p94 ((List.range (i1+1)).length) c95) (fun w1 _=>(rassign h31 rfl rfl) w1) fun _ h32=>?_
  refine h32.sk [5,10,34,33,13,12,11,4,0,1] rfl fun h33=>?_
  refine wpAnyH_done (by kernel_rfl) ?_ _
  refine hK13 _ _ ?_
  refine wp_region_lit<|bv h33 (z:=.int .i64 ((i1+1:Nat):Int)) rfl (bAdd _ _ _ (by omega) (by omega) (by omega)) fun _ h34=>h34.sk [49,5,10,33,13,12,11,4,0,1] rfl fun h35=>mv h35 rfl fun _ h36=>h36.sk [34,5,10,33,13,12,11,4,0,1] rfl fun h37=>wpList_nil ?_
  exact hK10 (i1+1) p94 c95 _ _ ⟨h37.subs rfl,s6,by omega⟩ (by omega)
 ·skip
  have hp2:¬ ((i1:Int)<(n:Int)):=(dF hc1)
  refine wcF h15 rfl hc1<|h15.sk [34,33,13,12,11,5,4,0,1] rfl fun h38=>wp_exit ?_
  refine hK8 _ _ ?_
  refine sq fun _ hK17=>?_
  have hin:i1=n:=by omega
  rw [hin] at s2 h38;rw [List.length_range] at h38
  have hr:(List.range n).length=n:=List.length_range
  refine wp_region_lit<|mv h38 rfl fun _ h39=>cl h39 rfl cp_slices_DeleteFunc_audit_item_audit_item_y1 (deleteN_s s2 (by omega) hd) fun _ v1 w6 r1 h40=>?_
  obtain ⟨rfl,s9⟩:=r1
  refine h40.sk [51,50,34,33,13,12,11,4,0,1] rfl fun h41=>mv h41 rfl fun _ h42=>h42.sn [5,34,33,13,12,11,4,0,1] rfl fun h43=>hK17 _ _<|sqr fun _ hK18=>mv h43 rfl fun _ h44=>cl h44 rfl cp_slices_SortStableFunc_audit_item_audit_item_y1 (sortStableX_s s9 hn up) fun _ v2 w7 r2 h45=>?_
  obtain ⟨rfl,s10⟩:=r2
  refine h45.sn [5,34,33,13,12,11,4,0,1] rfl fun h46=>hK18 _ _<|sqr fun _ hK19=>mv h46 rfl fun _ h47=>h47.sk [54,5,34,33,13,12,11,0,1] rfl fun h48=>mv h48 rfl fun _ h49=>h49.sn [4,5,34,33,13,12,11,0,1] rfl fun h50=>hK19 _ _<|wp_ret ?_
  try simp only [Exit.then,Exit.inBlock]
  refine retR (v:=.slice ia46 n ic47) (res1 h50 rfl rfl) h50.defs ?_
  exact ⟨ia46,ic47,rfl,Sep.tail_un (xs:=[_,_]) s10⟩

set_option maxHeartbeats 4000000 in
theorem runX_s {w:World} {R:List Ch} {W1:World} {ea:Option Addr} {n n2:Nat} {L:List EvM} (hS0:Sep w ([oldC W1 W1.heap.size]++R)) (rb:ExtA W1 ea n n2 20 (fun i=>evC (L.getD i nilEv))) (hn:n≤25) (hd:∀ i,i<n→1≤(L.getD i nilEv).done) (up:∀ i j,i<j→j<n→(L.getD i nilEv).done≤(L.getD j nilEv).done) (hw:∀ i,i<n→wfEX W1 (L.getD i nilEv)) :
  CallsR Tryz.prog 8 #[.slice ea n n2,.slice none 0 0] w (fun v w'=>∃ cf M,v=.tuple #[.pointer (some ⟨cf,0,none⟩),.int .i64 M]∧Sep w' ([oldC W1 W1.heap.size]++R)∧M=wrE L n):=by
 have hS:Sep w [oldC W1 W1.heap.size,Ch.many R]:=Sep.tail_many (xs:=[_]) hS0;clear hS0
 have hr:(List.range n).length=n:=List.length_range
 obtain ⟨bX,oX,hX⟩:=rb.at
 refine enterR Tryz.func8 rfl (N:=45) Tryz.ntmps8 (by show 2≤45;decide) [(0,.slice ea n n2),(1,.slice none 0 0)] rfl fun _ h1=>sqr fun _ hK3=>mvs 2 h1 rfl fun _ h6=>wpList_nil<|hK3 _ _<|sqr fun _ hK8=>cl h6 rfl cz_posix_New (new_c hS) fun _ v1 w1 r1 h2=>?_
 obtain ⟨cf,ob,Ax9,rfl,s1,hA14⟩:=r1
 refine mvs 2 h2 rfl fun _ h3=>h3.sn [7,6,5,4,0,1] rfl fun h4=>hK8 _ _<|sq fun _ hK1=>sqr fun _ hK2=>mvs 2 h4 rfl fun _ h5=>cl h5 rfl cp_audit_order_y2 (orderX_s (L:=L) (s1.pk [3,0,1,2,4] rfl) hX hn hd up) fun _ v2 w2 r2 h7=>?_
 obtain ⟨iax28,icx29,rfl,s2⟩:=r2
 refine sv1 h7 rfl (v:=.int .i64 (n:Int)) (rlenS h7 rfl rfl Tryz.underlying64) fun _ h8=>mv h8 rfl fun _ h9=>h9.sn [15,14,13,7,6,5,4,0,1] rfl fun h10=>hK2 _ _<|wp_block ?_
 refine wp_loop2 (fun (j:Nat) (A:AdM) a' w'=>Kn 45 [(15,.int .i64 (j:Int)),(14,.int .i64 (n:Int)),(13,.slice iax28 n icx29),(7,.int .i64 (wrE L j)),(6,.pointer (some ⟨cf,0,none⟩)),(5,.int .i64 0),(4,.pointer none),(0,.slice ea n n2),(1,.slice none 0 0)] a'∧Sep w' [blkC cf 89 [.pointer (some ⟨(A.ad 0),0,none⟩),.map (some ob)],nodX (stE L j) A,mapC KO ob A.C (opG (stE L j) A),ownC 0 68 3 iax28 (List.range n).length icx29 ((List.range n).flatMap (itX bX oX L)),oldC W1 W1.heap.size,Ch.many R]∧(FsA (stE L j) A j)∧(j≤n)) (fun (j:Nat) (A:AdM)=>n-j) 0 Ax9 ⟨h10.subs rfl,(s2.pk [2,3,4,0,1,5] rfl),⟨fs0_ok,fs0_sz,hA14⟩,Nat.zero_le _⟩ ?_
 rintro j49 A50 a1 w3 ⟨h11,s3,hA47,hj48⟩ K1 hK4
 refine sqr fun _ hK5=>bv h11 (z:=.bool (decide ((j49:Int)<(n:Int)))) rfl (cLt _ _ _ _ rfl) fun _ h12=>wpList_nil<|hK5 _ _<|sq fun _ hK6=>?_
 rcases bC (decide ((j49:Int)<(n:Int))) with hc1 | hc1
 ·skip
  have hp1:(j49:Int)<(n:Int):=(dT hc1)
  refine wcT h12 rfl hc1<|h12.sk [15,14,13,7,6,5,4,0,1] rfl fun h13=>wp_skip<|hK6 _ _<|sq fun _ hK7=>wp_block ?_
  refine sq fun _ hK9=>wp_region_lit ?_
  obtain ⟨q60,hq1⟩:=own_addr (s3.get 3 rfl:Own _ _ _ _ _ _ _ _)
  refine sv1 h13 rfl (v:=.pointer (some ⟨q60,j49*3,none⟩)) (rindexA h13 rfl rfl rfl (fun w=>ixO Tryz.underlying64 (by kernel_rfl) (sz:=3) (hq1 (by omega)) (j:=j49) rfl (by omega) (by omega) w)) fun _ h14=>sw1 h14 rfl (v:=.agg #[.int .i64 ((L.getD j49 nilEv).done),.int .i64 0,.pointer (some ⟨bX,oX+j49*20,none⟩)]) (rld h14 rfl rfl (by have z:=ldOS (P:=Tryz.prog) (itX_len bX oX L) Tryz.underlying68 rfl (by kernel_rfl) (s3.get 3 rfl:Own _ _ _ _ _ _ _ _) (hq1 (by rw [List.length_range];omega)) 0 (j:=j49) (o:=j49*3) (by rw [List.length_range];omega) rfl;rw [range_getD (by omega)] at z;exact z)) fun _ h15=>so (wanted_none rfl) fun _ hK10=>xalloc h15 rfl rfl rfl rfl (z:=[.int .i64 0,.int .i64 0,.pointer none]) (fun _=>rfl) s3 fun _ g1 w4 h16 s4 _ _=>hK10 _ _ ?_
  refine stA h16 s4 0 rfl rfl rfl (by kernel_rfl) rfl rfl rfl rfl fun _ w5 h17 s5 _=>h17.sn [9,15,14,13,7,6,5,4,0,1] rfl fun h18=>hK9 _ _<|sq fun _ hK11=>sqr fun _ hK12=>fav h18 rfl (fa_audit_item_y2_2 _ _) fun _ h19=>ldv h19 s5 0 Tryz.underlying66 rfl rfl rfl rfl fun _ h20=>bv h20 rfl (bNil _ Tryz.underlying66 _ _ _) fun _ h21=>h21.sn [21,9,15,14,13,7,6,5,4,0,1] rfl fun h22=>hK12 _ _<|wcF h22 rfl rfl ?_
  refine h22.sk [9,15,14,13,7,6,5,4,0,1] rfl fun h23=>wp_skip<|hK11 _ _<|sqr fun _ hK13=>mv h23 rfl fun _ h24=>fav h24 rfl (fa_audit_item_y2_2 _ _) fun _ h25=>ldv h25 s5 0 Tryz.underlying66 rfl rfl rfl rfl fun _ h26=>mv h26 rfl fun _ h27=>sw1 h27 rfl (v:=.agg #[.int .i64 ((L.getD j49 nilEv).cl),.int .i64 ((L.getD j49 nilEv).num),.int .i64 ((L.getD j49 nilEv).x.kind),.string (strB ((L.getD j49 nilEv).x.p1)),.string (strB ((L.getD j49 nilEv).x.p2)),.int .i64 ((L.getD j49 nilEv).x.fl),.int .i64 ((L.getD j49 nilEv).x.fd),.int .i64 ((L.getD j49 nilEv).x.off),.int .i64 ((L.getD j49 nilEv).x.n),.string (strB ((L.getD j49 nilEv).x.data)),.int .i64 ((L.getD j49 nilEv).asked),.int .i64 ((L.getD j49 nilEv).done),.int .i64 ((L.getD j49 nilEv).told),.int .i64 ((L.getD j49 nilEv).r.e),.int .i64 ((L.getD j49 nilEv).r.fd),.string (strB ((L.getD j49 nilEv).r.data)),.slice ((L.getD j49 nilEv).na) ((L.getD j49 nilEv).r.names.length) ((L.getD j49 nilEv).nc),.int .i64 ((L.getD j49 nilEv).r.kind),.int .i64 ((L.getD j49 nilEv).r.links),.int .i64 ((L.getD j49 nilEv).r.size)]) (rld h27 rfl rfl (ldX (sz:=20) (n:=n) (f:=(fun i=>evC (L.getD i nilEv))) Tryz.underlying35 rfl (by kernel_rfl) (fun _=>rfl) (hX (by omega)).2 (Nat.le_refl _) (s5.get 5 rfl:Below _ _ _∧_) (j:=j49) (by omega) rfl)) fun _ h28=>?_
  have hw102:=hw j49 (by omega)
  refine cl h28 rfl cp_audit_fits_y2 (fitsX_s (cf:=cf) (ob:=ob) (n:=j49) (A:=A50) (F:=(stE L j49)) (G:=stE L (j49+1)) (r:=rpE L j49) (ev:=(L.getD j49 nilEv)) (s5.pk [1,2,3,5,0,4,6] rfl) hA47 (by omega) hw102.1 hw102.2.1 hw102.2.2.1 hw102.2.2.2.1 rfl hw102.2.2.2.2.1 hw102.2.2.2.2.2.1 hw102.2.2.2.2.2.2 (rp_names hA47 (by omega))) fun _ v3 w6 r3 h29=>?_
  obtain ⟨Ax103,rfl,s6,hA108⟩:=r3
  refine mvs 2 h29 rfl fun _ h30=>sg h30 (wT h30 rfl rfl rfl) rfl rfl rfl (v:=.int .i64 (wrE L j49)) (fun hC1=>by have hq:=(notT hC1);exact rmove h30 rfl rfl _) fun _ h31=>sg h31 (wT h31 rfl rfl rfl) rfl rfl rfl (v:=.bool (decide (wrE L j49=0))) (fun hC2=>by have hq:=(notT hC2);exact rbin h31 rfl (opg rfl hC2) rfl (cEq _ _ _ _ rfl) _) fun _ h32=>sv1 h32 rfl (v:=.bool ((!(fitB (L.getD j49 nilEv) (rpE L j49)))&&(decide (wrE L j49=0)))) (rpickA h32 rfl (E:=(!(fitB (L.getD j49 nilEv) (rpE L j49)))) (F:=(decide (wrE L j49=0))) rfl rfl rfl (fun e=>if_pos (by rw [e];try rfl))) fun _ h33=>h33.sn [36,9,15,14,13,7,6,5,4,0,1] rfl fun h34=>hK13 _ _ ?_
  rcases bC ((!(fitB (L.getD j49 nilEv) (rpE L j49)))&&(decide (wrE L j49=0))) with hc2 | hc2
  ·skip
   have hp2:((fitB (L.getD j49 nilEv) (rpE L j49))=false)∧(wrE L j49=0):=(And.intro (notT (andT hc2).1) (dT (andT hc2).2))
   refine wcT h34 rfl hc2<|h34.sk [9,15,14,13,7,6,5,4,0,1] rfl fun h35=>wp_region_lit<|fav h35 rfl (fa_audit_item_y2_2 _ _) fun _ h36=>ldv h36 s6 4 Tryz.underlying66 rfl rfl rfl rfl fun _ h37=>mv h37 rfl fun _ h38=>sv1 h38 rfl (v:=.pointer (some ⟨bX,oX+j49*20+1,none⟩)) (rfa h38 rfl rfl (fun w=>fa_api_Event_y2_1 bX (oX+j49*20) w)) fun _ h39=>sw1 h39 rfl (v:=.int .i64 ((L.getD j49 nilEv).num)) (rld h39 rfl rfl (ldXc (sz:=20) (n:=n) (f:=(fun i=>evC (L.getD i nilEv))) Tryz.underlying3 rfl (hX (by omega)).2 (Nat.le_refl _) (s6.get 3 rfl:Below _ _ _∧_) (j:=j49) (i:=1) (by omega) rfl rfl)) fun _ h40=>h40.sk [41,40,39,38,37,9,15,14,13,6,5,4,0,1] rfl fun h41=>mv h41 rfl fun _ h42=>?_
   refine h42.sn [7,9,15,14,13,6,5,4,0,1] rfl fun h43=>hK7 _ _<|wp_region_lit<|bv h43 (z:=.int .i64 ((j49+1:Nat):Int)) rfl (bAdd _ _ _ (by omega) (by omega) (by omega)) fun _ h44=>h44.sk [42,7,9,14,13,6,5,4,0,1] rfl fun h45=>mv h45 rfl fun _ h46=>h46.sk [15,7,9,14,13,6,5,4,0,1] rfl fun h47=>wpList_nil ?_
   rw [← wrE_bad (L:=L) (j:=j49) hc2] at h47
   exact hK4 (j49+1) Ax103 _ _ ⟨h47.subs rfl,(s6.pk [0,1,2,5,3,6] rfl),hA108,by omega⟩ (by omega)
  ·skip
   have hp3:((fitB (L.getD j49 nilEv) (rpE L j49))=true)∨(¬ (wrE L j49=0)):=((andF hc2).imp (fun q=>(notF q)) (fun q=>(dF q)))
   refine wcF h34 rfl hc2<|h34.sk [9,15,14,13,7,6,5,4,0,1] rfl fun h48=>wp_skip<|hK7 _ _<|wp_region_lit<|bv h48 (z:=.int .i64 ((j49+1:Nat):Int)) rfl (bAdd _ _ _ (by omega) (by omega) (by omega)) fun _ h49=>h49.sk [42,9,14,13,7,6,5,4,0,1] rfl fun h50=>mv h50 rfl fun _ h51=>h51.sk [15,9,14,13,7,6,5,4,0,1] rfl fun h52=>wpList_nil ?_
   rw [← wrE_ok (L:=L) (j:=j49) hc2] at h52
   exact hK4 (j49+1) Ax103 _ _ ⟨h52.subs rfl,(s6.pk [0,1,2,5,3,6] rfl),hA108,by omega⟩ (by omega)
 ·skip
  have hp4:¬ ((j49:Int)<(n:Int)):=(dF hc1)
  refine wcF h12 rfl hc1<|h12.sk [15,14,13,7,6,5,4,0,1] rfl fun h53=>wp_exit ?_
  refine hK1 _ _ ?_
  refine sqr fun _ hK14=>mvs 2 h53 rfl fun _ h54=>h54.sk [44,43,15,14,13,7,6,5,0,1] rfl fun h55=>mv h55 rfl fun _ h56=>h56.sk [4,44,43,15,14,13,7,6,0,1] rfl fun h57=>mv h57 rfl fun _ h58=>h58.sn [5,4,15,14,13,7,6,0,1] rfl fun h59=>hK14 _ _<|wp_ret ?_
  try simp only [Exit.then,Exit.inBlock]
  refine retR (v:=.tuple #[.pointer (some ⟨cf,0,none⟩),.int .i64 (wrE L j49)]) (res2 h59 rfl rfl rfl) h59.defs ?_
  have hjn:j49=n:=by omega
  exact ⟨cf,wrE L n,by rw [hjn],Sep.tail_un (xs:=[_]) (s3.pk [4,5] rfl),rfl⟩

end Go.Proofs.YtpdjnefgkcmdnaaGreatDoor
/- stage 25: few; parts of elements (sx/aw.py) -/
namespace Go.Proofs.YtpdjnefgkcmdnaaGreatDoor
open Go.RowKit
set_option linter.unusedSimpArgs false
set_option linter.unusedVariables false
set_option maxRecDepth 100000

theorem Sep.many_cons {w:World} {xs Rs:List Ch} {c:Ch} (h:Sep w (xs++[c,Ch.many Rs])):Sep w (xs++[Ch.many (c::Rs)]):=by
 have z:Sep w ((xs++[c])++[Ch.many Rs]):=by rw [List.append_assoc];exact h
 have z2:=Sep.tail_un z
 rw [List.append_assoc] at z2
 exact Sep.tail_many z2
theorem Sep.mem {w:World} {Rs:List Ch} (h:Sep w Rs) {c:Ch} (hc:c∈Rs):c.P w:=by
 obtain ⟨i,hi,e⟩:=List.getElem_of_mem hc
 exact h.all i c (by rw [List.getElem?_eq_getElem hi,e])
theorem Sep.snocNil {w:World} {xs:List Ch} (h:Sep w xs):Sep w (xs++[Ch.many []]):=Sep.tail_many (by rw [List.append_nil];exact h)
theorem ldOSq {P:Program} {α:Type} {enc:α→List Value} {sz:Nat} (henc:∀ x,(enc x).length=sz) {T:TypeId} {k:TypeDesc} (hu:P.underlying T=some k) (hk:k.isRow=true) {m:Nat} (hn:(P.info? T).map (·.size)=some m) {w:World} {B:Nat} {e:TypeId} {a:Option Addr} {q c j i o:Nat} {L:List α} (h:Own w B e sz a L.length c (L.flatMap enc)) (ha:a=some ⟨q,0,none⟩) (z:α) (hj:j<L.length) (hi:i+m≤sz) (ho:j*sz+i=o) {cs:List Value} (hv:((enc (L.getD j z)).drop i).take m=cs) :
  (Instr.loadAt T (.pointer (some ⟨q,o,none⟩))).run P w=.ok (.agg cs.toArray) w:=by
 subst ha;subst ho
 obtain ⟨L',hb,_,_,ht,hnc,_⟩:=Own.blk h
 have hlen:cs.length=m:=by rw [← hv,List.length_take,List.length_drop,henc];omega
 refine ldA hu hk hn hb ?_ hlen
 rw [← hv]
 have hle:(j+1)*sz≤L.length*sz:=Nat.mul_le_mul_right _ hj
 rw [Nat.succ_mul] at hle
 refine List.ext_getElem? fun t=>?_
 rw [List.getElem?_take,List.getElem?_take]
 split
 ·rename_i ht2
  rw [List.getElem?_drop,List.getElem?_drop]
  have g:=ls_get henc (L:=L) (j:=j) (k:=i+t) (o:=j*sz+i+t) z hj (by omega) (by omega)
  rw [← g,← ht,List.getElem?_take,if_pos (by omega)]
 ·rfl
theorem splice_part {X A V:List Value} {p:Nat} (hA:(X.drop p).take A.length=A) (hl:p+A.length+V.length≤X.length):splice X (p+A.length) V=splice X p (A++V):=by
 unfold splice
 have e:X.take (p+A.length)=X.take p++A:=by rw [List.take_add,hA]
 rw [e,List.append_assoc,List.length_append,← Nat.add_assoc]
 simp
/-- an event's reply -/
def repC (r:RepM) (a:Option Addr) (c:Nat):List Value:=[.int .i64 r.e,.int .i64 r.fd,.string (strB r.data),.slice a r.names.length c,.int .i64 r.kind,.int .i64 r.links,.int .i64 r.size]
def setR (ev:EvM) (r:RepM) (a:Option Addr) (c:Nat):EvM:={ ev with r:=r,na:=a,nc:=c }
/-- the reply of an event in a list is stored anew -/
theorem xstoreE {o:Oper} {a:Act} {N:Nat} {l:List (Nat×Value)} {w:World} {cs:List Ch} {K:Act→World→Prop} {Q:Exit→Act→World→Prop} (h:Kn N l a) (hd:o.dst=none) {x y:Operand} (ho:o.op=.store 28 x y) (hS:Sep w cs) (i:Nat) {ad:Option Addr} {q c j:Nat} {L:List EvM} (hi:cs[i]? = some (ownC 0 35 20 ad L.length c (L.flatMap evC))) (ha:ad=some ⟨q,0,none⟩) (hx:opv l x=some (.pointer (some ⟨q,j*20+13,none⟩))) {r:RepM} {na:Option Addr} {nc:Nat} (hy:opv l y=some (.agg (repC r na nc).toArray)) (hj:j<L.length)
  (k:∀ a' w',Kn N l a'→Sep w' (cs.set i (ownC 0 35 20 ad L.length c ((L.set j (setR (L.getD j nilEv) r na nc)).flatMap evC)))→K a' w'):Oper.wp Tryz.prog o a w K Q:=by
 subst ha
 have hO:Own w 0 35 20 (some ⟨q,0,none⟩) L.length c (L.flatMap evC):=hS.get i hi
 obtain ⟨L',hb,hle,hB,hk⟩:=own_splice hO
 have hm:(j+1)*20≤L.length*20:=Nat.mul_le_mul_right _ hj
 have hl7:(repC r na nc).length=7:=rfl
 have hfit:j*20+13+(repC r na nc).length≤L.length*20:=by rw [hl7];omega
 obtain ⟨h2,h3⟩:=Blk.setCells (repC r na nc) (j*20+13) w L' hb (by omega)
 have hr:=run_storeAt_mid (P:=Tryz.prog) w q (j*20+13) 28 (repC r na nc).toArray (by simpa using hb.there (j*20+13) (repC r na nc).length (by rw [hl7];omega)) (by kernel_rfl) (by rw [List.all_toArray];rfl)
 have hown:=hk _ (j*20+13) (repC r na nc) hfit h2
 have hAl:((evC (L.getD j nilEv)).take 13).length=13:=rfl
 have hev:evC (setR (L.getD j nilEv) r na nc)=(evC (L.getD j nilEv)).take 13++repC r na nc:=rfl
 have hspl:splice (L.flatMap evC) (j*20+13) (repC r na nc)=(L.set j (setR (L.getD j nilEv) r na nc)).flatMap evC:=by
  rw [← ls_set evC_len hj rfl,hev]
  refine splice_part (A:=(evC (L.getD j nilEv)).take 13) (p:=j*20) ?_ ?_
  ·rw [hAl,← ls_all evC_len nilEv hj rfl,List.take_take];rfl
  ·rw [ls_len evC_len,hAl,hl7];omega
 rw [hspl] at hown
 refine op_skip (w':=w.setCells q (j*20+13) (repC r na nc)) h hd ?_ fun a' h'=>k a' _ h' (hS.upd i hi (Turns.of_grown (X:=fun k=>k=q) h3 rfl) (fun k _ hk=>by subst hk;rfl) (c':=ownC 0 35 20 (some ⟨q,0,none⟩) L.length c ((L.set j (setR (L.getD j nilEv) r na nc)).flatMap evC)) hown (fun k hk=>.inl hk))
 unfold execOp;rw [ho];simp only [h.op hx,h.op hy]
 rw [Sem.run_bind,run_storeVal (rfl:(Value.agg (repC r na nc).toArray).cells=(repC r na nc).toArray),hr]
 rfl
theorem ExtA.later {W w:World} {a:Option Addr} {n c sz:Nat} {f:Nat→List Value} (h:ExtA W a n c sz f) (hb:Below W.heap.size W w):ExtA w a n c sz f:=
 ⟨h.1,h.2.1,fun hn=>by obtain ⟨b,off,e,h1,h2⟩:=h.2.2 hn;exact ⟨b,off,e,Nat.lt_of_lt_of_le h1 hb.size,fun i hi j v hv=>ExtC.cell ⟨h1,h2⟩ (Nat.le_refl _) hb hi hv⟩⟩
theorem ext_own {w:World} {B:Nat} {e:TypeId} {α:Type} {enc:α→List Value} {sz:Nat} (henc:∀ x,(enc x).length=sz) (z:α) {a:Option Addr} {c:Nat} {L:List α} (h:Own w B e sz a L.length c (L.flatMap enc)) (hc:c≤maxLen):ExtA w a L.length c sz (fun i=>enc (L.getD i z)):=by
 refine ⟨own_cap h,hc,fun hn=>?_⟩
 obtain ⟨q,hq⟩:=own_someO h hn
 subst hq
 obtain ⟨L',hb,hl,_,ht,hnc,_⟩:=Own.blk h
 refine ⟨q,0,rfl,hb.lt,fun i hi j v hv=>?_⟩
 have hjs:j<sz:=by rw [← henc (L.getD i z)];exact (List.getElem?_eq_some_iff.1 hv).1
 have g:=ls_get henc (L:=L) (j:=i) (k:=j) (o:=i*sz+j) z hi hjs rfl
 rw [hv,← ht,List.getElem?_take] at g
 split at g
 ·rw [Nat.zero_add]
  obtain ⟨g1,g2⟩:=List.getElem?_eq_some_iff.1 g
  rw [hb.cell g1,g2]
 ·cases g
theorem own_capM {w:World} {B:Nat} {e:TypeId} {sz:Nat} {a:Option Addr} {n c:Nat} {cs:List Value} (h:Own w B e sz a n c cs):c≤maxLen:=by
 obtain ⟨h0,h⟩:=h
 rcases h with ⟨hv,h0⟩ | ⟨g',cap,cur,hv,hg,hh,h1,h2,h3,h4⟩
 ·cases hv;exact Nat.zero_le _
 ·cases hv;exact h2
theorem EEv:ElemT Tryz.prog 22 35 20 208:=elemT Tryz.underlying22 (z:=.agg #[.int .i64 0,.int .i64 0,.int .i64 0,.string ⟨#[]⟩,.string ⟨#[]⟩,.int .i64 0,.int .i64 0,.int .i64 0,.int .i64 0,.string ⟨#[]⟩,.int .i64 0,.int .i64 0,.int .i64 0,.int .i64 0,.int .i64 0,.string ⟨#[]⟩,.slice none 0 0,.int .i64 0,.int .i64 0,.int .i64 0]) (by kernel_rfl) rfl (by omega)
/-- an event as it is handed in: of its names their number alone -/
structure EvA where
 cl:Int
 num:Int
 x:CallM
 asked:Int
 done:Int
 told:Int
 e:Int
 fd:Int
 data:List UInt8
 na:Option Addr
 nn:Nat
 nc:Nat
 kind:Int
 links:Int
 size:Int
def nilA:EvA:=⟨0,0,⟨0,[],[],0,0,0,0,[]⟩,0,0,0,0,0,[],none,0,0,0,0,0⟩
def evA (x:EvA):List Value:=[.int .i64 x.cl,.int .i64 x.num,.int .i64 x.x.kind,.string (strB x.x.p1),.string (strB x.x.p2),.int .i64 x.x.fl,.int .i64 x.x.fd,.int .i64 x.x.off,.int .i64 x.x.n,.string (strB x.x.data),.int .i64 x.asked,.int .i64 x.done,.int .i64 x.told,.int .i64 x.e,.int .i64 x.fd,.string (strB x.data),.slice x.na x.nn x.nc,.int .i64 x.kind,.int .i64 x.links,.int .i64 x.size]
theorem evA_len (x:EvA):(evA x).length=20:=rfl
def cutK (x:CallM):CallM:={ x with p1:=x.p1.take 60,p2:=x.p2.take 60,data:=x.data.take 80 }
def cutA (v:EvA):EvA:={ v with x:=cutK v.x,data:=v.data.take 80,nn:=min v.nn 20 }
theorem map_getD {g:Nat→EvA} {n j:Nat} (hj:j<n):((List.range n).map g).getD j nilA=g j:=by
 rw [List.getD_eq_getElem?_getD,List.getElem?_map,List.getElem?_range hj];rfl

theorem fa_api_Event_y3_6 (g off:Nat) (w:World):(Instr.fieldAt 35 (.pointer (some ⟨g,off,none⟩)) 6).run Tryz.prog w=.ok (.pointer (some ⟨g,off+13,none⟩)) w:=rfl
theorem fa_api_Event_y3_2 (g off:Nat) (w:World):(Instr.fieldAt 35 (.pointer (some ⟨g,off,none⟩)) 2).run Tryz.prog w=.ok (.pointer (some ⟨g,off+2,none⟩)) w:=rfl

set_option maxHeartbeats 4000000 in
theorem few_s {w:World} {R:List Ch} {W1:World} {a0:Option Addr} {n0 c0:Nat} {f:Nat→EvA} (hS0:Sep w ([oldC W1 W1.heap.size]++R)) (rb:ExtA W1 a0 n0 c0 20 (fun i=>evA (f i))) (hc:∀ i,i<n0→(f i).nn≤(f i).nc) :
  CallsR Tryz.prog 5 #[.slice a0 n0 c0] w (fun v w'=>∃ ia ic,v=.slice ia (min n0 25) ic∧Sep w' ([ownC 0 35 20 ia ((List.range (min n0 25)).map (fun t=>cutA (f t))).length ic (((List.range (min n0 25)).map (fun t=>cutA (f t))).flatMap evA),oldC W1 W1.heap.size]++R)):=by
 have hS:Sep w [oldC W1 W1.heap.size,Ch.many R]:=Sep.tail_many (xs:=[_]) hS0;clear hS0
 have hn0:=rb.lt;unfold maxLen at hn0
 obtain ⟨bX,oX,hX⟩:=rb.at
 refine enterR Tryz.func5 rfl (N:=80) Tryz.ntmps5 (by show 1≤80;decide) [(0,.slice a0 n0 c0)] rfl fun _ h1=>sqr fun _ hK3=>mv h1 rfl fun _ h4=>wpList_nil<|hK3 _ _<|sq fun _ hK6=>?_
 have s7:=hS.ownNil 0 35 20
 have s8:Sep w [ownC 0 35 20 none ((List.range 0).map (fun t=>cutA (f t))).length 0 (((List.range 0).map (fun t=>cutA (f t))).flatMap evA),oldC W1 W1.heap.size,Ch.many R]:=s7
 refine wp_region_lit<|mv h4 rfl fun _ h9=>wpList_nil<|hK6 _ _<|sq fun _ hK1=>sqr fun _ hK2=>mv h9 rfl fun _ h2=>wpList_nil<|hK2 _ _<|wp_block ?_
 refine wp_loop3 (fun (i:Nat) (ia:Option Addr) (ic:Nat) a' w'=>Kn 80 [(4,.int .i64 (i:Int)),(3,.slice ia (((List.range i).map (fun t=>cutA (f t))).length) ic),(2,.slice none 0 0),(0,.slice a0 n0 c0)] a'∧Sep w' [ownC 0 35 20 ia ((List.range i).map (fun t=>cutA (f t))).length ic (((List.range i).map (fun t=>cutA (f t))).flatMap evA),oldC W1 W1.heap.size,Ch.many R]∧(i≤n0∧i≤25)) (fun (i:Nat) (ia:Option Addr) (ic:Nat)=>25-i) 0 none 0 ⟨h2.subs rfl,s8,by omega⟩ ?_
 rintro i1 ia22 ic23 a1 w1 ⟨h3,s1,hi20⟩ K1 hK4
 refine sq fun _ hK5=>sqr fun _ hK7=>mvs 2 h3 rfl fun _ h5=>sv1 h5 rfl (v:=.int .i64 (n0:Int)) (rlenS h5 rfl rfl Tryz.underlying22) fun _ h6=>bv h6 (z:=.bool (decide ((i1:Int)<(n0:Int)))) rfl (cLt _ _ _ _ rfl) fun _ h7=>mv h7 rfl fun _ h8=>sg h8 (wT h8 rfl rfl rfl) rfl rfl rfl (v:=.int .i64 (i1:Int)) (fun hC1=>by have hq:=(dT hC1);exact rmove h8 rfl rfl _) fun _ h10=>sg h10 (wT h10 rfl rfl rfl) rfl rfl rfl (v:=.bool (decide ((i1:Int)<25))) (fun hC2=>by have hq:=(dT hC2);exact rbin h10 rfl (opg rfl hC2) rfl (cLt _ _ _ _ rfl) _) fun _ h11=>sv1 h11 rfl (v:=.bool ((decide ((i1:Int)<(n0:Int)))&&(decide ((i1:Int)<25)))) (rpickA h11 rfl (E:=(decide ((i1:Int)<(n0:Int)))) (F:=(decide ((i1:Int)<25))) rfl rfl rfl (fun e=>if_pos (by rw [e];try rfl))) fun _ h12=>h12.sn [13,4,3,2,0] rfl fun h13=>hK7 _ _ ?_
 rcases bC ((decide ((i1:Int)<(n0:Int)))&&(decide ((i1:Int)<25))) with hc1 | hc1
 ·skip
  have hp3:((i1:Int)<(n0:Int))∧((i1:Int)<25):=(And.intro (dT (andT hc1).1) (dT (andT hc1).2))
  refine wcT h13 rfl hc1<|h13.sk [4,3,2,0] rfl fun h14=>wp_skip<|hK5 _ _<|sq fun _ hK8=>wp_block ?_
  refine sqr fun _ hK9=>mvs 2 h14 rfl fun _ h15=>sv1 h15 rfl (v:=.pointer (some ⟨bX,oX+i1*20,none⟩)) (rindexA h15 rfl rfl rfl (fun w=>ixO Tryz.underlying22 (by kernel_rfl) (sz:=20) (hX (by omega)).1 (j:=i1) rfl (by omega) rfl w)) fun _ h16=>sw1 h16 rfl (v:=.agg #[.int .i64 ((f i1).cl),.int .i64 ((f i1).num),.int .i64 ((f i1).x.kind),.string (strB ((f i1).x.p1)),.string (strB ((f i1).x.p2)),.int .i64 ((f i1).x.fl),.int .i64 ((f i1).x.fd),.int .i64 ((f i1).x.off),.int .i64 ((f i1).x.n),.string (strB ((f i1).x.data)),.int .i64 ((f i1).asked),.int .i64 ((f i1).done),.int .i64 ((f i1).told),.int .i64 ((f i1).e),.int .i64 ((f i1).fd),.string (strB ((f i1).data)),.slice ((f i1).na) ((f i1).nn) ((f i1).nc),.int .i64 ((f i1).kind),.int .i64 ((f i1).links),.int .i64 ((f i1).size)]) (rld h16 rfl rfl (ldX (sz:=20) (n:=n0) (f:=(fun i=>evA (f i))) Tryz.underlying35 rfl (by kernel_rfl) (fun _=>rfl) (hX (by omega)).2 (Nat.le_refl _) (s1.get 1 rfl:Below _ _ _∧_) (j:=i1) (by omega) rfl)) fun _ h17=>so (wanted_none rfl) fun _ hK10=>xalloc h17 rfl rfl rfl rfl (z:=[.int .i64 0,.int .i64 0,.int .i64 0,.string (strB []),.string (strB []),.int .i64 0,.int .i64 0,.int .i64 0,.int .i64 0,.string (strB []),.int .i64 0,.int .i64 0,.int .i64 0,.int .i64 0,.int .i64 0,.string (strB []),.slice none 0 0,.int .i64 0,.int .i64 0,.int .i64 0]) (fun _=>rfl) s1 fun _ g1 w2 h18 s2 _ _=>hK10 _ _ ?_
  refine stA h18 s2 0 rfl rfl rfl (by kernel_rfl) rfl rfl rfl rfl fun _ w3 h19 s3 _=>h19.sn [5,4,3,2,0] rfl fun h20=>hK9 _ _<|sq fun K2 hK11=>?_
  have hJ74:∀ (p1:List UInt8) a' w',Kn 80 [(5,.pointer (some ⟨g1,0,none⟩)),(4,.int .i64 (i1:Int)),(3,.slice ia22 (((List.range i1).map (fun t=>cutA (f t))).length) ic23),(2,.slice none 0 0),(0,.slice a0 n0 c0)] a'→Sep w' [blkC g1 35 [.int .i64 ((f i1).cl),.int .i64 ((f i1).num),.int .i64 ((f i1).x.kind),.string (strB p1),.string (strB ((f i1).x.p2)),.int .i64 ((f i1).x.fl),.int .i64 ((f i1).x.fd),.int .i64 ((f i1).x.off),.int .i64 ((f i1).x.n),.string (strB ((f i1).x.data)),.int .i64 ((f i1).asked),.int .i64 ((f i1).done),.int .i64 ((f i1).told),.int .i64 ((f i1).e),.int .i64 ((f i1).fd),.string (strB ((f i1).data)),.slice ((f i1).na) ((f i1).nn) ((f i1).nc),.int .i64 ((f i1).kind),.int .i64 ((f i1).links),.int .i64 ((f i1).size)],ownC 0 35 20 ia22 ((List.range i1).map (fun t=>cutA (f t))).length ic23 (((List.range i1).map (fun t=>cutA (f t))).flatMap evA),oldC W1 W1.heap.size,Ch.many R]→(p1=(f i1).x.p1.take 60)→K2 a' w':=by
   intro p1 a2 w4 h21 s4 hp1
   refine hK11 _ _ ?_
   refine sq fun K3 hK12=>?_
   have hJ80:∀ (p2:List UInt8) a' w',Kn 80 [(5,.pointer (some ⟨g1,0,none⟩)),(4,.int .i64 (i1:Int)),(3,.slice ia22 (((List.range i1).map (fun t=>cutA (f t))).length) ic23),(2,.slice none 0 0),(0,.slice a0 n0 c0)] a'→Sep w' [blkC g1 35 [.int .i64 ((f i1).cl),.int .i64 ((f i1).num),.int .i64 ((f i1).x.kind),.string (strB p1),.string (strB p2),.int .i64 ((f i1).x.fl),.int .i64 ((f i1).x.fd),.int .i64 ((f i1).x.off),.int .i64 ((f i1).x.n),.string (strB ((f i1).x.data)),.int .i64 ((f i1).asked),.int .i64 ((f i1).done),.int .i64 ((f i1).told),.int .i64 ((f i1).e),.int .i64 ((f i1).fd),.string (strB ((f i1).data)),.slice ((f i1).na) ((f i1).nn) ((f i1).nc),.int .i64 ((f i1).kind),.int .i64 ((f i1).links),.int .i64 ((f i1).size)],ownC 0 35 20 ia22 ((List.range i1).map (fun t=>cutA (f t))).length ic23 (((List.range i1).map (fun t=>cutA (f t))).flatMap evA),oldC W1 W1.heap.size,Ch.many R]→(p2=(f i1).x.p2.take 60)→K3 a' w':=by
    intro p2 a3 w5 h22 s5 hp2
    refine hK12 _ _ ?_
    refine sq fun K4 hK13=>?_
    have hJ86:∀ (dd:List UInt8) a' w',Kn 80 [(5,.pointer (some ⟨g1,0,none⟩)),(4,.int .i64 (i1:Int)),(3,.slice ia22 (((List.range i1).map (fun t=>cutA (f t))).length) ic23),(2,.slice none 0 0),(0,.slice a0 n0 c0)] a'→Sep w' [blkC g1 35 [.int .i64 ((f i1).cl),.int .i64 ((f i1).num),.int .i64 ((f i1).x.kind),.string (strB p1),.string (strB p2),.int .i64 ((f i1).x.fl),.int .i64 ((f i1).x.fd),.int .i64 ((f i1).x.off),.int .i64 ((f i1).x.n),.string (strB dd),.int .i64 ((f i1).asked),.int .i64 ((f i1).done),.int .i64 ((f i1).told),.int .i64 ((f i1).e),.int .i64 ((f i1).fd),.string (strB ((f i1).data)),.slice ((f i1).na) ((f i1).nn) ((f i1).nc),.int .i64 ((f i1).kind),.int .i64 ((f i1).links),.int .i64 ((f i1).size)],ownC 0 35 20 ia22 ((List.range i1).map (fun t=>cutA (f t))).length ic23 (((List.range i1).map (fun t=>cutA (f t))).flatMap evA),oldC W1 W1.heap.size,Ch.many R]→(dd=(f i1).x.data.take 80)→K4 a' w':=by
     intro dd a4 w6 h23 s6 hdd
     refine hK13 _ _ ?_
     refine sq fun K5 hK14=>?_
     have hJ92:∀ (rd:List UInt8) a' w',Kn 80 [(5,.pointer (some ⟨g1,0,none⟩)),(4,.int .i64 (i1:Int)),(3,.slice ia22 (((List.range i1).map (fun t=>cutA (f t))).length) ic23),(2,.slice none 0 0),(0,.slice a0 n0 c0)] a'→Sep w' [blkC g1 35 [.int .i64 ((f i1).cl),.int .i64 ((f i1).num),.int .i64 ((f i1).x.kind),.string (strB p1),.string (strB p2),.int .i64 ((f i1).x.fl),.int .i64 ((f i1).x.fd),.int .i64 ((f i1).x.off),.int .i64 ((f i1).x.n),.string (strB dd),.int .i64 ((f i1).asked),.int .i64 ((f i1).done),.int .i64 ((f i1).told),.int .i64 ((f i1).e),.int .i64 ((f i1).fd),.string (strB rd),.slice ((f i1).na) ((f i1).nn) ((f i1).nc),.int .i64 ((f i1).kind),.int .i64 ((f i1).links),.int .i64 ((f i1).size)],ownC 0 35 20 ia22 ((List.range i1).map (fun t=>cutA (f t))).length ic23 (((List.range i1).map (fun t=>cutA (f t))).flatMap evA),oldC W1 W1.heap.size,Ch.many R]→(rd=(f i1).data.take 80)→K5 a' w':=by
      intro rd a5 w7 h24 s9 hrd
      refine hK14 _ _ ?_
      refine sq fun K6 hK15=>?_
      have hJ98:∀ (nn:Nat) a' w',Kn 80 [(5,.pointer (some ⟨g1,0,none⟩)),(4,.int .i64 (i1:Int)),(3,.slice ia22 (((List.range i1).map (fun t=>cutA (f t))).length) ic23),(2,.slice none 0 0),(0,.slice a0 n0 c0)] a'→Sep w' [blkC g1 35 [.int .i64 ((f i1).cl),.int .i64 ((f i1).num),.int .i64 ((f i1).x.kind),.string (strB p1),.string (strB p2),.int .i64 ((f i1).x.fl),.int .i64 ((f i1).x.fd),.int .i64 ((f i1).x.off),.int .i64 ((f i1).x.n),.string (strB dd),.int .i64 ((f i1).asked),.int .i64 ((f i1).done),.int .i64 ((f i1).told),.int .i64 ((f i1).e),.int .i64 ((f i1).fd),.string (strB rd),.slice ((f i1).na) nn ((f i1).nc),.int .i64 ((f i1).kind),.int .i64 ((f i1).links),.int .i64 ((f i1).size)],ownC 0 35 20 ia22 ((List.range i1).map (fun t=>cutA (f t))).length ic23 (((List.range i1).map (fun t=>cutA (f t))).flatMap evA),oldC W1 W1.heap.size,Ch.many R]→(nn=min (f i1).nn 20)→K6 a' w':=by
       intro nn a6 w8 h25 s10 hnn
       refine hK15 _ _ ?_
       have hgr:∀ y:EvA,y=cutA (f i1)→(List.range i1).map (fun t=>cutA (f t))++[y]=(List.range (i1+1)).map (fun t=>cutA (f t)):=fun y hy=>by rw [hy,List.range_succ,List.map_append];rfl
       refine wp_region_lit<|mv h25 rfl fun _ h26=>sw1 h26 rfl (v:=.agg #[.int .i64 ((f i1).cl),.int .i64 ((f i1).num),.int .i64 ((f i1).x.kind),.string (strB p1),.string (strB p2),.int .i64 ((f i1).x.fl),.int .i64 ((f i1).x.fd),.int .i64 ((f i1).x.off),.int .i64 ((f i1).x.n),.string (strB dd),.int .i64 ((f i1).asked),.int .i64 ((f i1).done),.int .i64 ((f i1).told),.int .i64 ((f i1).e),.int .i64 ((f i1).fd),.string (strB rd),.slice ((f i1).na) nn ((f i1).nc),.int .i64 ((f i1).kind),.int .i64 ((f i1).links),.int .i64 ((f i1).size)]) (rld h26 rfl rfl (ldA Tryz.underlying35 rfl (n:=20) (by kernel_rfl) (s10.get 0 rfl:Blk _ _ _ _) rfl rfl)) fun _ h27=>so (wanted_none rfl) fun _ hK16=>xbuildS h27 rfl rfl rfl (E:=35) (xs:=[(0,.tmp 76)]) rfl (vs:=[(0,.agg #[.int .i64 ((f i1).cl),.int .i64 ((f i1).num),.int .i64 ((f i1).x.kind),.string (strB p1),.string (strB p2),.int .i64 ((f i1).x.fl),.int .i64 ((f i1).x.fd),.int .i64 ((f i1).x.off),.int .i64 ((f i1).x.n),.string (strB dd),.int .i64 ((f i1).asked),.int .i64 ((f i1).done),.int .i64 ((f i1).told),.int .i64 ((f i1).e),.int .i64 ((f i1).fd),.string (strB rd),.slice ((f i1).na) nn ((f i1).nc),.int .i64 ((f i1).kind),.int .i64 ((f i1).links),.int .i64 ((f i1).size)])]) rfl (z:=[.int .i64 ((f i1).cl),.int .i64 ((f i1).num),.int .i64 ((f i1).x.kind),.string (strB p1),.string (strB p2),.int .i64 ((f i1).x.fl),.int .i64 ((f i1).x.fd),.int .i64 ((f i1).x.off),.int .i64 ((f i1).x.n),.string (strB dd),.int .i64 ((f i1).asked),.int .i64 ((f i1).done),.int .i64 ((f i1).told),.int .i64 ((f i1).e),.int .i64 ((f i1).fd),.string (strB rd),.slice ((f i1).na) nn ((f i1).nc),.int .i64 ((f i1).kind),.int .i64 ((f i1).links),.int .i64 ((f i1).size)]) (fun _=>by kernel_rfl) s10 fun _ g2 w9 h28 s11 _ _=>hK16 _ _ ?_
       refine so (wanted_none rfl) fun _ hK17=>xappS evA_len h28 rfl rfl rfl rfl EEv s11 2 rfl rfl 0 (y:=(⟨(f i1).cl,(f i1).num,⟨(f i1).x.kind,p1,p2,(f i1).x.fl,(f i1).x.fd,(f i1).x.off,(f i1).x.n,dd⟩,(f i1).asked,(f i1).done,(f i1).told,(f i1).e,(f i1).fd,rd,(f i1).na,nn,(f i1).nc,(f i1).kind,(f i1).links,(f i1).size⟩:EvA)) rfl rfl rfl (by decide) (by rw [List.length_map,List.length_range];omega) (L':=(List.range (i1+1)).map (fun t=>cutA (f t))) (hgr _ (by rw [hp1,hp2,hdd,hrd,hnn];rfl)) fun _ p115 c116 w10 h29 s12=>hK17 _ _ ?_
       have s13:=s12.pk [1,2,3,4] rfl;clear s12
       refine h29.sk [78,77,76,75,5,4,2,0] rfl fun h30=>mv h30 rfl fun _ h31=>h31.sn [3,5,4,2,0] rfl fun h32=>hK8 _ _<|wp_region_lit<|mv h32 rfl fun _ h33=>bv h33 (z:=.int .i64 ((i1+1:Nat):Int)) rfl (bAdd _ _ _ (by omega) (by omega) (by omega)) fun _ h34=>h34.sk [15,14,3,5,2,0] rfl fun h35=>mv h35 rfl fun _ h36=>h36.sk [4,3,5,2,0] rfl fun h37=>?_
       refine wpList_nil ?_
       exact hK4 (i1+1) p115 c116 _ _ ⟨h37.subs rfl,(s13.pk [1,2,3] rfl),by omega⟩ (by omega)
      refine sq fun _ hK18=>?_
      have hnc:=hc i1 (by omega)
      refine wp_region_lit<|fav h24 rfl (fa_api_Event_y3_6 _ _) fun _ h38=>fav h38 rfl (fz_api_Reply_3 _ _) fun _ h39=>ldv h39 s9 0 Tryz.underlying24 rfl rfl rfl rfl fun _ h40=>sv1 h40 rfl (v:=.int .i64 (((f i1).nn:Nat):Int)) (rlenS h40 rfl rfl Tryz.underlying24) fun _ h41=>bv h41 (z:=.bool (decide ((((f i1).nn:Nat):Int)>20))) rfl (cGt _ _ _ _ rfl) fun _ h42=>h42.sn [68,5,4,3,2,0] rfl fun h43=>hK18 _ _ ?_
      rcases bC (decide ((((f i1).nn:Nat):Int)>20)) with hc2 | hc2
      ·skip
       have hp4:(((f i1).nn:Nat):Int)>20:=(dT hc2)
       refine wcT h43 rfl hc2<|h43.sk [5,4,3,2,0] rfl fun h44=>wp_region_lit<|fav h44 rfl (fa_api_Event_y3_6 _ _) fun _ h45=>fav h45 rfl (fz_api_Reply_3 _ _) fun _ h46=>ldv h46 s9 0 Tryz.underlying24 rfl rfl rfl rfl fun _ h47=>sv1 h47 rfl (v:=.slice ((f i1).na) 20 ((f i1).nc)) (rslT h47 rfl rfl (vl:=none) (vh:=some (.int .i64 20)) rfl rfl (fun w=>slL 24 9 Tryz.underlying24 (by kernel_rfl) ((f i1).na) ((f i1).nn) ((f i1).nc) (b:=20) (by omega) w)) fun _ h48=>fav h48 rfl (fa_api_Event_y3_6 _ _) fun _ h49=>fav h49 rfl (fz_api_Reply_3 _ _) fun _ h50=>st1 h50 s9 0 rfl rfl (by kernel_rfl) rfl rfl rfl rfl fun _ w11 h51 s14 _=>?_
       refine h51.sk [5,4,3,2,0] rfl fun h52=>wpList_nil ?_
       exact hJ98 20 _ _ (h52.subs rfl) s14 (by omega)
      ·skip
       have hp5:¬ ((((f i1).nn:Nat):Int)>20):=(dF hc2)
       refine wcF h43 rfl hc2<|h43.sk [5,4,3,2,0] rfl fun h53=>wp_skip ?_
       exact hJ98 ((f i1).nn) _ _ (h53.subs rfl) s9 (by omega)
     refine sqr fun _ hK19=>fav h23 rfl (fa_api_Event_y3_6 _ _) fun _ h54=>fav h54 rfl (fz_api_Reply_2 _ _) fun _ h55=>ldv h55 s6 0 Tryz.underlying9 rfl rfl rfl rfl fun _ h56=>sv1 h56 rfl (v:=.int .i64 ((((f i1).data).length:Nat):Int)) (rlenT h56 rfl rfl Tryz.underlying9) fun _ h57=>bv h57 (z:=.bool (decide (((((f i1).data).length:Nat):Int)>80))) rfl (cGt _ _ _ _ rfl) fun _ h58=>h58.sn [57,5,4,3,2,0] rfl fun h59=>hK19 _ _ ?_
     rcases bC (decide (((((f i1).data).length:Nat):Int)>80)) with hc3 | hc3
     ·skip
      have hp6:((((f i1).data).length:Nat):Int)>80:=(dT hc3)
      refine wcT h59 rfl hc3<|h59.sk [5,4,3,2,0] rfl fun h60=>wp_region_lit<|fav h60 rfl (fa_api_Event_y3_6 _ _) fun _ h61=>fav h61 rfl (fz_api_Reply_2 _ _) fun _ h62=>ldv h62 s6 0 Tryz.underlying9 rfl rfl rfl rfl fun _ h63=>sv1 h63 rfl (v:=.string (strB (((f i1).data).take 80))) (rslT h63 rfl rfl (vl:=none) (vh:=(some (.int .i64 80))) rfl rfl (fun w=>(fun w=>((slT 9 Tryz.underlying9 ((f i1).data) (a:=0) (b:=80) (.inl ⟨rfl,rfl⟩) (.inr ⟨_,rfl,rfl⟩) (by omega) (by omega)) w).trans (by rw [List.drop_zero])) w)) fun _ h64=>fav h64 rfl (fa_api_Event_y3_6 _ _) fun _ h65=>fav h65 rfl (fz_api_Reply_2 _ _) fun _ h66=>st1 h66 s6 0 rfl rfl (by kernel_rfl) rfl rfl rfl rfl fun _ w12 h67 s15 _=>?_
      refine h67.sk [5,4,3,2,0] rfl fun h68=>wpList_nil ?_
      exact hJ92 (((f i1).data).take 80) _ _ (h68.subs rfl) s15 rfl
     ·skip
      have hp7:¬ (((((f i1).data).length:Nat):Int)>80):=(dF hc3)
      refine wcF h59 rfl hc3<|h59.sk [5,4,3,2,0] rfl fun h69=>wp_skip ?_
      exact hJ92 ((f i1).data) _ _ (h69.subs rfl) s6 ((List.take_of_length_le (by omega)).symm)
    refine sqr fun _ hK20=>fav h22 rfl (fa_api_Event_y3_2 _ _) fun _ h70=>fav h70 rfl (fz_api_Call_7 _ _) fun _ h71=>ldv h71 s5 0 Tryz.underlying9 rfl rfl rfl rfl fun _ h72=>sv1 h72 rfl (v:=.int .i64 ((((f i1).x.data).length:Nat):Int)) (rlenT h72 rfl rfl Tryz.underlying9) fun _ h73=>bv h73 (z:=.bool (decide (((((f i1).x.data).length:Nat):Int)>80))) rfl (cGt _ _ _ _ rfl) fun _ h74=>h74.sn [46,5,4,3,2,0] rfl fun h75=>hK20 _ _ ?_
    rcases bC (decide (((((f i1).x.data).length:Nat):Int)>80)) with hc4 | hc4
    ·skip
     have hp8:((((f i1).x.data).length:Nat):Int)>80:=(dT hc4)
     refine wcT h75 rfl hc4<|h75.sk [5,4,3,2,0] rfl fun h76=>wp_region_lit<|fav h76 rfl (fa_api_Event_y3_2 _ _) fun _ h77=>fav h77 rfl (fz_api_Call_7 _ _) fun _ h78=>ldv h78 s5 0 Tryz.underlying9 rfl rfl rfl rfl fun _ h79=>sv1 h79 rfl (v:=.string (strB (((f i1).x.data).take 80))) (rslT h79 rfl rfl (vl:=none) (vh:=(some (.int .i64 80))) rfl rfl (fun w=>(fun w=>((slT 9 Tryz.underlying9 ((f i1).x.data) (a:=0) (b:=80) (.inl ⟨rfl,rfl⟩) (.inr ⟨_,rfl,rfl⟩) (by omega) (by omega)) w).trans (by rw [List.drop_zero])) w)) fun _ h80=>fav h80 rfl (fa_api_Event_y3_2 _ _) fun _ h81=>fav h81 rfl (fz_api_Call_7 _ _) fun _ h82=>st1 h82 s5 0 rfl rfl (by kernel_rfl) rfl rfl rfl rfl fun _ w13 h83 s16 _=>?_
     refine h83.sk [5,4,3,2,0] rfl fun h84=>wpList_nil ?_
     exact hJ86 (((f i1).x.data).take 80) _ _ (h84.subs rfl) s16 rfl
    ·skip
     have hp9:¬ (((((f i1).x.data).length:Nat):Int)>80):=(dF hc4)
     refine wcF h75 rfl hc4<|h75.sk [5,4,3,2,0] rfl fun h85=>wp_skip ?_
     exact hJ86 ((f i1).x.data) _ _ (h85.subs rfl) s5 ((List.take_of_length_le (by omega)).symm)
   refine sqr fun _ hK21=>fav h21 rfl (fa_api_Event_y3_2 _ _) fun _ h86=>fav h86 rfl (fz_api_Call_2 _ _) fun _ h87=>ldv h87 s4 0 Tryz.underlying9 rfl rfl rfl rfl fun _ h88=>sv1 h88 rfl (v:=.int .i64 ((((f i1).x.p2).length:Nat):Int)) (rlenT h88 rfl rfl Tryz.underlying9) fun _ h89=>bv h89 (z:=.bool (decide (((((f i1).x.p2).length:Nat):Int)>60))) rfl (cGt _ _ _ _ rfl) fun _ h90=>h90.sn [35,5,4,3,2,0] rfl fun h91=>hK21 _ _ ?_
   rcases bC (decide (((((f i1).x.p2).length:Nat):Int)>60)) with hc5 | hc5
   ·skip
    have hp10:((((f i1).x.p2).length:Nat):Int)>60:=(dT hc5)
    refine wcT h91 rfl hc5<|h91.sk [5,4,3,2,0] rfl fun h92=>wp_region_lit<|fav h92 rfl (fa_api_Event_y3_2 _ _) fun _ h93=>fav h93 rfl (fz_api_Call_2 _ _) fun _ h94=>ldv h94 s4 0 Tryz.underlying9 rfl rfl rfl rfl fun _ h95=>sv1 h95 rfl (v:=.string (strB (((f i1).x.p2).take 60))) (rslT h95 rfl rfl (vl:=none) (vh:=(some (.int .i64 60))) rfl rfl (fun w=>(fun w=>((slT 9 Tryz.underlying9 ((f i1).x.p2) (a:=0) (b:=60) (.inl ⟨rfl,rfl⟩) (.inr ⟨_,rfl,rfl⟩) (by omega) (by omega)) w).trans (by rw [List.drop_zero])) w)) fun _ h96=>fav h96 rfl (fa_api_Event_y3_2 _ _) fun _ h97=>fav h97 rfl (fz_api_Call_2 _ _) fun _ h98=>st1 h98 s4 0 rfl rfl (by kernel_rfl) rfl rfl rfl rfl fun _ w14 h99 s17 _=>?_
    refine h99.sk [5,4,3,2,0] rfl fun h100=>wpList_nil ?_
    exact hJ80 (((f i1).x.p2).take 60) _ _ (h100.subs rfl) s17 rfl
   ·skip
    have hp11:¬ (((((f i1).x.p2).length:Nat):Int)>60):=(dF hc5)
    refine wcF h91 rfl hc5<|h91.sk [5,4,3,2,0] rfl fun h101=>wp_skip ?_
    exact hJ80 ((f i1).x.p2) _ _ (h101.subs rfl) s4 ((List.take_of_length_le (by omega)).symm)
  refine sqr fun _ hK22=>fav h20 rfl (fa_api_Event_y3_2 _ _) fun _ h102=>fav h102 rfl (fz_api_Call_1 _ _) fun _ h103=>ldv h103 s3 0 Tryz.underlying9 rfl rfl rfl rfl fun _ h104=>sv1 h104 rfl (v:=.int .i64 ((((f i1).x.p1).length:Nat):Int)) (rlenT h104 rfl rfl Tryz.underlying9) fun _ h105=>bv h105 (z:=.bool (decide (((((f i1).x.p1).length:Nat):Int)>60))) rfl (cGt _ _ _ _ rfl) fun _ h106=>h106.sn [24,5,4,3,2,0] rfl fun h107=>hK22 _ _ ?_
  rcases bC (decide (((((f i1).x.p1).length:Nat):Int)>60)) with hc6 | hc6
  ·skip
   have hp12:((((f i1).x.p1).length:Nat):Int)>60:=(dT hc6)
   refine wcT h107 rfl hc6<|h107.sk [5,4,3,2,0] rfl fun h108=>wp_region_lit<|fav h108 rfl (fa_api_Event_y3_2 _ _) fun _ h109=>fav h109 rfl (fz_api_Call_1 _ _) fun _ h110=>ldv h110 s3 0 Tryz.underlying9 rfl rfl rfl rfl fun _ h111=>sv1 h111 rfl (v:=.string (strB (((f i1).x.p1).take 60))) (rslT h111 rfl rfl (vl:=none) (vh:=(some (.int .i64 60))) rfl rfl (fun w=>(fun w=>((slT 9 Tryz.underlying9 ((f i1).x.p1) (a:=0) (b:=60) (.inl ⟨rfl,rfl⟩) (.inr ⟨_,rfl,rfl⟩) (by omega) (by omega)) w).trans (by rw [List.drop_zero])) w)) fun _ h112=>fav h112 rfl (fa_api_Event_y3_2 _ _) fun _ h113=>fav h113 rfl (fz_api_Call_1 _ _) fun _ h114=>st1 h114 s3 0 rfl rfl (by kernel_rfl) rfl rfl rfl rfl fun _ w15 h115 s18 _=>?_
   refine h115.sk [5,4,3,2,0] rfl fun h116=>wpList_nil ?_
   exact hJ74 (((f i1).x.p1).take 60) _ _ (h116.subs rfl) s18 rfl
  ·skip
   have hp13:¬ (((((f i1).x.p1).length:Nat):Int)>60):=(dF hc6)
   refine wcF h107 rfl hc6<|h107.sk [5,4,3,2,0] rfl fun h117=>wp_skip ?_
   exact hJ74 ((f i1).x.p1) _ _ (h117.subs rfl) s3 ((List.take_of_length_le (by omega)).symm)
 ·skip
  have hp14:(¬ ((i1:Int)<(n0:Int)))∨(¬ ((i1:Int)<25)):=((andF hc1).imp (fun q=>(dF q)) (fun q=>(dF q)))
  refine wcF h13 rfl hc1<|h13.sk [4,3,2,0] rfl fun h118=>wp_exit ?_
  refine hK1 _ _ ?_
  refine sqr fun _ hK23=>mv h118 rfl fun _ h119=>h119.sk [79,4,3,0] rfl fun h120=>mv h120 rfl fun _ h121=>h121.sn [2,4,3,0] rfl fun h122=>hK23 _ _<|wp_ret ?_
  try simp only [Exit.then,Exit.inBlock]
  refine retR (v:=.slice ia22 (((List.range i1).map (fun t=>cutA (f t))).length) ic23) (res1 h122 rfl rfl) h122.defs ?_
  have hin:i1=min n0 25:=by omega
  rw [hin] at s1
  exact ⟨ia22,ic23,by rw [← hin,List.length_map,List.length_range],Sep.tail_un (xs:=[_,_]) s1⟩

end Go.Proofs.YtpdjnefgkcmdnaaGreatDoor
/- stage 25: replies compared, lives; the pure part (sx/aw.py) -/
namespace Go.Proofs.YtpdjnefgkcmdnaaGreatDoor
open Go.RowKit
set_option linter.unusedSimpArgs false
set_option linter.unusedVariables false
set_option maxRecDepth 100000

theorem walk_e (F:FsM):∀ (L:List ByteArray) (n:Nat),(walkF F n L).1=0∨(walkF F n L).1=10∨(walkF F n L).1=12
 | [],n=>.inl rfl
 | s::L,n=>by
  unfold walkF
  by_cases hd:F.dir n=true
  ·rw [if_pos hd]
   cases lookE F.E n s with
   | none=>exact .inr (.inl rfl)
   | some m=>exact walk_e F L m
  ·rw [if_neg hd];exact .inr (.inr rfl)
theorem find_ne (F:FsM) (X:List UInt8):¬ (findF F X).1=18:=by
 cases h:pathO X with
 | none=>rw [findF_no h];decide
 | some L=>rw [findF_yes h];have:=walk_e F L 0;omega
theorem place_ne (F:FsM) (X:List UInt8):¬ (placeF F X).1=18:=by
 unfold placeF
 split
 ·decide
 ·split
  ·decide
  ·rename_i L hL hne
   have:=walk_e F L.dropLast 0
   unfold placeL
   split
   ·split<;>(first | (show ¬ (0:Int)=18;decide) | (show ¬ (12:Int)=18;decide))
   ·show ¬ (walkF F 0 L.dropLast).1=18;omega
/-- no call tells that there is no room -/
theorem do_ne18 (F:FsM) (c:Int) (x:CallM):¬ (doF F c x).2.e=18:=by
 unfold doF
 split
 ·show ¬ (1:Int)=18;decide
 ·refine kindF_all (Pr:=fun p=>¬ p.2.e=18) ?_ ?_ ?_ ?_ ?_ ?_ ?_ ?_ ?_ ?_ ?_ ?_ ?_ (by show ¬ (15:Int)=18;decide)
  ·unfold openF;(repeat' split)<;>simp [errR,fdR,find_ne]
  ·unfold closeF;(repeat' split)<;>simp [errR]
  ·unfold readF;(repeat' split)<;>simp [errR,dataR]
  ·unfold writeF;(repeat' split)<;>simp [errR]
  ·unfold truncF;(repeat' split)<;>simp [errR]
  ·unfold syncF;(repeat' split)<;>simp [errR]
  ·unfold mkdirF;(repeat' split)<;>simp [errR,place_ne]
  ·unfold rmdirF;(repeat' split)<;>simp [errR,find_ne]
  ·unfold linksF;(repeat' split)<;>simp [errR,find_ne,place_ne]
  ·unfold unlinkF;(repeat' split)<;>simp [errR,find_ne]
  ·unfold renameF renamedF;(repeat' split)<;>simp [errR,find_ne,place_ne]
  ·unfold listF;(repeat' split)<;>simp [errR,namesR,find_ne]
  ·unfold statF;(repeat' split)<;>simp [errR,infoR,find_ne]
/-- the document's file system behind so many calls; what it tells; the events that say so -/
def docF (f:Nat→EvA):Nat→FsM
 | 0=>fs0
 | j+1=>(doF (docF f j) (f j).cl (cutK (f j).x)).1
def docR (f:Nat→EvA) (j:Nat):RepM:=(doF (docF f j) (f j).cl (cutK (f j).x)).2
def ownE (f:Nat→EvA) (j:Nat) (na:Option Addr) (nc:Nat):EvM:=⟨(f j).cl,((j+1:Nat):Int),cutK (f j).x,((3*j+1:Nat):Int),((3*j+2:Nat):Int),((3*j+3:Nat):Int),docR f j,na,nc⟩
theorem docF_ok (f:Nat→EvA):∀ j,FsOk (docF f j)
 | 0=>fs0_ok
 | j+1=>(docF_ok f j).do_ _ _
theorem docF_sz (f:Nat→EvA):∀ j,SzF (docF f j) j
 | 0=>fs0_sz
 | j+1=>(docF_sz f j).do_ _ _
def OwnsE (f:Nat→EvA) (O:List EvM) (n:Nat):Prop:=∀ j,j<n→∃ na nc,O.getD j nilEv=ownE f j na nc
theorem OwnsE.snoc {f:Nat→EvA} {O:List EvM} {n:Nat} (h:OwnsE f O n) (hl:O.length=n) (na:Option Addr) (nc:Nat):OwnsE f (O++[ownE f n na nc]) (n+1):=by
 intro j hj
 by_cases hjn:j<n
 ·obtain ⟨a,c,e⟩:=h j hjn
  exact ⟨a,c,by rw [List.getD_eq_getElem?_getD,List.getElem?_append_left (by omega),← List.getD_eq_getElem?_getD];exact e⟩
 ·obtain rfl:j=n:=by omega
  exact ⟨na,nc,by rw [List.getD_eq_getElem?_getD,List.getElem?_append_right (by omega),hl,Nat.sub_self];rfl⟩
def nmC (x:EvM):Ch:=ownC 0 9 1 x.na x.r.names.length x.nc (x.r.names.flatMap sE)
theorem nm_snoc {Rs:List Ch} {O:List EvM} {n:Nat} {y:EvM} (h:∀ j,j<n→nmC (O.getD j nilEv)∈Rs) (hl:O.length=n):∀ j,j<n+1→nmC ((O++[y]).getD j nilEv)∈nmC y::Rs:=by
 intro j hj
 by_cases hjn:j<n
 ·rw [List.getD_eq_getElem?_getD,List.getElem?_append_left (by omega),← List.getD_eq_getElem?_getD]
  exact List.mem_cons_of_mem _ (h j hjn)
 ·obtain rfl:j=n:=by omega
  rw [List.getD_eq_getElem?_getD,List.getElem?_append_right (by omega),hl,Nat.sub_self]
  exact List.mem_cons_self
/-- events whose callers and calls are those -/
def SameCalls (f:Nat→EvA) (O:List EvM) (n:Nat):Prop:=∀ j,j<n→(O.getD j nilEv).cl=(f j).cl∧(O.getD j nilEv).x=cutK (f j).x
theorem OwnsE.calls {f:Nat→EvA} {O:List EvM} {n:Nat} (h:OwnsE f O n):SameCalls f O n:=fun j hj=>by
 obtain ⟨a,c,e⟩:=h j hj;rw [e];exact ⟨rfl,rfl⟩
theorem stE_d {f:Nat→EvA} {O:List EvM} {n:Nat} (h:SameCalls f O n):∀ j,j≤n→stE O j=docF f j
 | 0,_=>rfl
 | j+1,hj=>by
  show (doF (stE O j) (O.getD j nilEv).cl (O.getD j nilEv).x).1=_
  rw [stE_d h j (by omega),(h j (by omega)).1,(h j (by omega)).2];rfl
theorem rpE_d {f:Nat→EvA} {O:List EvM} {n:Nat} (h:SameCalls f O n) {j:Nat} (hj:j<n):rpE O j=docR f j:=by
 unfold rpE;rw [stE_d h j (by omega),(h j hj).1,(h j hj).2];rfl
theorem own_fit {f:Nat→EvA} {j:Nat} (na:Option Addr) (nc:Nat):fitB (ownE f j na nc) (docR f j)=true:=by
 rw [fitB_is (ev:=ownE f j na nc) (r:=docR f j) (by show ((3*j+3:Nat):Int)>0;omega) (eqA_iff.2 rfl)]
 exact decide_eq_true ⟨by show ((3*j+1:Nat):Int)≤((3*j+2:Nat):Int);omega,by show ((3*j+2:Nat):Int)≤((3*j+3:Nat):Int);omega⟩
theorem wr_own {f:Nat→EvA} {O:List EvM} {n:Nat} (h:OwnsE f O n):∀ j,j≤n→wrE O j=0
 | 0,_=>rfl
 | j+1,hj=>by
  obtain ⟨a,c,e⟩:=h j (by omega)
  rw [wrE_ok (by rw [e,rpE_d h.calls (by omega),own_fit];rfl)]
  exact wr_own h j (by omega)
theorem set_ne {O:List EvM} {k j:Nat} {y:EvM} (hjk:j≠k):(O.set k y).getD j nilEv=O.getD j nilEv:=by
 rw [List.getD_eq_getElem?_getD,List.getElem?_set,if_neg (fun e=>hjk e.symm),← List.getD_eq_getElem?_getD]
theorem set_at {O:List EvM} {k:Nat} {y:EvM} (hk:k<O.length):(O.set k y).getD k nilEv=y:=by
 rw [List.getD_eq_getElem?_getD,List.getElem?_set,if_pos rfl,if_pos hk];rfl
theorem set_calls {f:Nat→EvA} {O:List EvM} {n k:Nat} (h:OwnsE f O n) (hk:k<O.length) {r:RepM} {a:Option Addr} {c:Nat}:SameCalls f (O.set k (setR (O.getD k nilEv) r a c)) n:=by
 intro j hj
 by_cases e:j=k
 ·subst e;rw [set_at hk];exact h.calls j hj
 ·rw [set_ne e];exact h.calls j hj
/-- one reply is told otherwise: its event is the first that does not fit -/
theorem wr_set {f:Nat→EvA} {O:List EvM} {n k:Nat} (h:OwnsE f O n) (hl:O.length=n) (hk:k<n) {r:RepM} {a:Option Addr} {c:Nat} (hr:eqA (docR f k) r=false):∀ j,j≤n→wrE (O.set k (setR (O.getD k nilEv) r a c)) j=if j≤k then 0 else ((k+1:Nat):Int)
 | 0,_=>by rw [if_pos (Nat.zero_le _)];rfl
 | j+1,hj=>by
  have ih:=wr_set h hl hk (a:=a) (c:=c) hr j (by omega)
  have hcl:=set_calls (r:=r) (a:=a) (c:=c) h (k:=k) (by omega)
  by_cases e:j=k
  ·subst e
   obtain ⟨a0,c0,e0⟩:=h j (by omega)
   rw [if_neg (by omega)]
   rw [if_pos (Nat.le_refl _)] at ih
   have hb:fitB ((O.set j (setR (O.getD j nilEv) r a c)).getD j nilEv) (rpE (O.set j (setR (O.getD j nilEv) r a c)) j)=false:=by
    rw [rpE_d hcl (by omega),set_at (by omega),e0]
    exact fitB_bad (by show ((3*j+3:Nat):Int)>0;omega) hr
   rw [wrE_bad (by rw [hb,ih];rfl),set_at (by omega),e0];rfl
  ·have hb:fitB ((O.set k (setR (O.getD k nilEv) r a c)).getD j nilEv) (rpE (O.set k (setR (O.getD k nilEv) r a c)) j)=true:=by
    obtain ⟨a0,c0,e0⟩:=h j (by omega)
    rw [rpE_d hcl (by omega),set_ne e,e0];exact own_fit _ _
   rw [wrE_ok (by rw [hb];rfl),ih]
   by_cases q:j≤k
   ·rw [if_pos q,if_pos (by omega)]
   ·rw [if_neg q,if_neg (by omega)]
theorem sameR_iff {r s:RepM}:sameR r s=true↔r=s:=by
 obtain ⟨a1,a2,a3,a4,a5,a6,a7⟩:=r;obtain ⟨b1,b2,b3,b4,b5,b6,b7⟩:=s
 simp only [sameR,Bool.and_eq_true,decide_eq_true_eq,RepM.mk.injEq]
 constructor
 ·rintro ⟨⟨⟨⟨h7,h1⟩,h2⟩,h3⟩,h4,h5,h6⟩;exact ⟨h1,h2,h3,h7,h4,h5,h6⟩
 ·rintro ⟨h1,h2,h3,h7,h4,h5,h6⟩;exact ⟨⟨⟨⟨h7,h1⟩,h2⟩,h3⟩,h4,h5,h6⟩
theorem eqA_not {r s:RepM} (h:sameR r s=false):eqA r s=false:=by
 cases e:eqA r s with
 | false=>rfl
 | true=>rw [sameR_iff.2 (eqA_iff.1 e)] at h;cases h
theorem nm_ext {w:World} {Rs:List Ch} (hM:Sep w Rs) {x:EvM} (h:nmC x∈Rs):ExtA w x.na x.r.names.length x.nc 1 (fun k=>[.string (x.r.names.getD k noNm)]):=by
 have z:Own w 0 9 1 x.na x.r.names.length x.nc (x.r.names.flatMap sE):=hM.mem h
 exact ext_own sE_len noNm z (own_capM z)
theorem own_rise {f:Nat→EvA} {O:List EvM} {n:Nat} (h:OwnsE f O n):(∀ i,i<n→1≤(O.getD i nilEv).done)∧∀ i j,i<j→j<n→(O.getD i nilEv).done≤(O.getD j nilEv).done:=by
 refine ⟨fun i hi=>?_,fun i j hij hj=>?_⟩
 ·obtain ⟨a,c,e⟩:=h i hi;rw [e];show 1≤((3*i+2:Nat):Int);omega
 ·obtain ⟨a,c,e⟩:=h i (by omega);obtain ⟨a',c',e'⟩:=h j hj;rw [e,e'];show ((3*i+2:Nat):Int)≤((3*j+2:Nat):Int);omega
theorem own_wf {w:World} {Rs:List Ch} {f:Nat→EvA} {O:List EvM} {n:Nat} (h:OwnsE f O n) (hN:∀ j,j<n→nmC (O.getD j nilEv)∈Rs) (hM:Sep w Rs) (hx:∀ j,j<n→(Lit.int .i64 (f j).x.fd).wf=true):∀ i,i<n→wfEX w (O.getD i nilEv):=by
 intro i hi
 have hn:=nm_ext hM (hN i hi)
 obtain ⟨a,c,e⟩:=h i hi
 rw [e] at hn ⊢
 refine ⟨?_,?_,?_,hx i hi,fun q=>do_ne18 _ _ _ q.2,.inl (by show ((3*i+3:Nat):Int)>0;omega),hn⟩
 ·show ((f i).x.p1.take 60).length≤1000;rw [List.length_take];omega
 ·show ((f i).x.p2.take 60).length≤1000;rw [List.length_take];omega
 ·show ((f i).x.data.take 80).length≤1000;rw [List.length_take];omega
theorem set_rise {f:Nat→EvA} {O:List EvM} {n k:Nat} (h:OwnsE f O n) (hk:k<O.length) {r:RepM} {a:Option Addr} {c:Nat}:(∀ i,i<n→1≤((O.set k (setR (O.getD k nilEv) r a c)).getD i nilEv).done)∧∀ i j,i<j→j<n→((O.set k (setR (O.getD k nilEv) r a c)).getD i nilEv).done≤((O.set k (setR (O.getD k nilEv) r a c)).getD j nilEv).done:=by
 have e:∀ i,((O.set k (setR (O.getD k nilEv) r a c)).getD i nilEv).done=(O.getD i nilEv).done:=by
  intro i
  by_cases q:i=k
  ·subst q;rw [set_at hk];rfl
  ·rw [set_ne q]
 obtain ⟨h1,h2⟩:=own_rise h
 exact ⟨fun i hi=>by rw [e];exact h1 i hi,fun i j hij hj=>by rw [e,e];exact h2 i j hij hj⟩
theorem set_wf {w:World} {f:Nat→EvA} {O:List EvM} {n k:Nat} (hO:OwnsE f O n) (h:∀ i,i<n→wfEX w (O.getD i nilEv)) (hk:k<O.length) {r:RepM} {a:Option Addr} {c:Nat} (he:¬ r.e=18) (hx:ExtA w a r.names.length c 1 (fun k=>[.string (r.names.getD k noNm)])):∀ i,i<n→wfEX w ((O.set k (setR (O.getD k nilEv) r a c)).getD i nilEv):=by
 intro i hi
 by_cases q:i=k
 ·subst q
  rw [set_at hk]
  obtain ⟨h1,h2,h3,h4,h5,h6,h7⟩:=h i hi
  obtain ⟨a0,c0,e0⟩:=hO i hi
  exact ⟨h1,h2,h3,h4,fun z=>he z.2,.inl (by rw [e0];show ((3*i+3:Nat):Int)>0;omega),hx⟩
 ·rw [set_ne q];exact h i hi
/-- Run, whatever lies around -/
theorem runS_s {w:World} {R:List Ch} (hS:Sep w R) {ea:Option Addr} {n2:Nat} {L:List EvM} (rb:ExtA w ea L.length n2 20 (fun i=>evC (L.getD i nilEv))) (hn:L.length≤25) (hd:(∀ i,i<L.length→1≤(L.getD i nilEv).done)∧∀ i j,i<j→j<L.length→(L.getD i nilEv).done≤(L.getD j nilEv).done) (hw:∀ i,i<L.length→wfEX w (L.getD i nilEv)) :
  CallsR Tryz.prog 8 #[.slice ea L.length n2,.slice none 0 0] w (fun v w'=>∃ cf M,v=.tuple #[.pointer (some ⟨cf,0,none⟩),.int .i64 M]∧Sep w' R∧M=wrE L L.length):=
 Calls.mono (runX_s (R:=[]) (Sep.start w) rb hn hd.1 hd.2 hw) fun e W' ⟨v,e1,cf,M,e2,s,h⟩=>⟨v,e1,cf,M,e2,hS.mono (s.get 0 rfl:Below _ _ _∧_).1,h⟩
structure LpV where
 O:List EvM
 oa:Option Addr
 oc:Nat
 Rs:List Ch
theorem tmod_nat {z:Int} {n:Nat} (hz:0≤z) (hn:0<n):∃ k:Nat,z.tmod (n:Int)=(k:Int)∧k<n:=by
 obtain ⟨m,rfl⟩:=Int.eq_ofNat_of_zero_le hz
 exact ⟨m % n,by show ((m:Int)).tmod (n:Int)=_;rw [Int.ofNat_tmod],Nat.mod_lt _ hn⟩

def lvA:EvM:=⟨1,5,⟨1,[47,97],[],1,0,0,0,[]⟩,1,2,3,⟨0,0,[],[],0,0,0⟩,none,0⟩
def lvB:EvM:=⟨1,5,⟨1,[47,97],[],1,0,0,0,[]⟩,1,2,3,⟨0,1,[],[],0,0,0⟩,none,0⟩

theorem lvA_wr:wrE [lvA] 1=0:=by decide +kernel
theorem lvB_wr:wrE [lvB] 1=5:=by decide +kernel
theorem ext_nil (w:World) (f:Nat→List Value):ExtA w none 0 0 1 f:=⟨Nat.le_refl _,Nat.zero_le _,fun h=>absurd h (Nat.lt_irrefl _)⟩
theorem one_rise {ev:EvM} (h:1≤ev.done):(∀ i,i < [ev].length→1≤([ev].getD i nilEv).done)∧∀ i j,i<j→j < [ev].length→([ev].getD i nilEv).done≤([ev].getD j nilEv).done:=
 ⟨fun i hi=>(show i=0 by simpa using hi) ▸ h,fun i j h1 h2=>absurd h2 (by simp;omega)⟩
theorem one_wfX {w:World} {ev:EvM} (h:wfEX w ev):∀ i,i < [ev].length→wfEX w ([ev].getD i nilEv):=fun i hi=>(show i=0 by simpa using hi) ▸ h
theorem lvA_wfX (w:World):wfEX w lvA:=⟨by decide,by decide,by decide,by decide,by decide,by decide,ext_nil w _⟩
theorem lvB_wfX (w:World):wfEX w lvB:=⟨by decide,by decide,by decide,by decide,by decide,by decide,ext_nil w _⟩
theorem ext_blk {w:World} {g:Nat} {e:TypeId} {ev:EvM} (h:Blk w g e ([ev].flatMap evC)):ExtA w (some ⟨g,0,none⟩) [ev].length 1 20 (fun i=>evC ([ev].getD i nilEv)):=by
 refine ⟨Nat.le_refl _,by decide,fun _=>⟨g,0,rfl,h.lt,fun i hi j v hv=>?_⟩⟩
 obtain rfl:i=0:=by simpa using hi
 have hv':(evC ev)[j]? = some v:=hv
 rw [show ([ev].flatMap evC)=evC ev by simp] at h
 obtain ⟨h1,h2⟩:=List.getElem?_eq_some_iff.1 hv'
 rw [show 0+0*20+j=j by omega,h.cell h1,h2]

set_option maxHeartbeats 4000000 in
theorem eqS_api_Info_x12_in (x0:Int) (x1:Int) (x2:Int) (y0:Int) (y1:Int) (y2:Int) (w:World):(Op.equalIn 10000 26 (.agg #[.int .i64 x0,.int .i64 x1,.int .i64 x2]) (.agg #[.int .i64 y0,.int .i64 y1,.int .i64 y2])).run Tryz.prog w=.ok (decide (x0=y0)&&(decide (x1=y1)&&decide (x2=y2))) w:=by
 have u3:=Tryz.underlying3
 have a3:=Tryz.isAgg3
 have z3:=Tryz.sizeOf3
 have hS:Tryz.prog.underlying 26=some (.struct (Tryz.prog.fieldsOf 26)):=by kernel_rfl
 have hp:Tryz.prog.stoodInHeld 26=false:=by kernel_rfl
 rw [show (10000:Nat)=9999+1 from rfl,run_equalIn_agg w 9999 26 _ _ hS hp]
 simp only [Program.fieldsOf,Tryz.underlying26]
 go_simp
 by_cases h0:x0=y0
 case neg=>simp [h0]
 by_cases h1:x1=y1
 case neg=>simp [h0,h1]
 by_cases h2:x2=y2
 case neg=>simp [h0,h1,h2]
 simp [h0,h1,h2]
theorem eqS_api_Info_x12_eql (o p:Operand) (x0:Int) (x1:Int) (x2:Int) (y0:Int) (y1:Int) (y2:Int) (w:World):(do eqGuard .eql 26 o p (.agg #[.int .i64 x0,.int .i64 x1,.int .i64 x2]) (.agg #[.int .i64 y0,.int .i64 y1,.int .i64 y2]);binOp .eql 26 (.agg #[.int .i64 x0,.int .i64 x1,.int .i64 x2]) (.agg #[.int .i64 y0,.int .i64 y1,.int .i64 y2]):Sem Value).run Tryz.prog w=.ok (.bool ((decide (x0=y0)&&(decide (x1=y1)&&decide (x2=y2))))) w:=by
 have e:(Op.equal 26 (.agg #[.int .i64 x0,.int .i64 x1,.int .i64 x2]) (.agg #[.int .i64 y0,.int .i64 y1,.int .i64 y2])).run Tryz.prog w=.ok (decide (x0=y0)&&(decide (x1=y1)&&decide (x2=y2))) w:=eqS_api_Info_x12_in x0 x1 x2 y0 y1 y2 w
 rw [Sem.run_bind,run_eqGuard_agg (P:=Tryz.prog) w .eql 26 o p _ _ (by kernel_rfl)]
 show (binOp .eql 26 _ _).run Tryz.prog w=_
 simp only [binOp,Sem.run_bind,e]
 rfl
theorem cp_audit_Run_x13 (args:Array Value) (w:World):(callFunc 8 args).run Tryz.prog w=.ok (.enter 8 args) w:=by
 have h:=Tryz.func8
 go_simp
theorem fa_api_Event_x13_6 (g off:Nat) (w:World):(Instr.fieldAt 35 (.pointer (some ⟨g,off,none⟩)) 6).run Tryz.prog w=.ok (.pointer (some ⟨g,off+13,none⟩)) w:=rfl

set_option maxHeartbeats 4000000 in
theorem same05X_s {w:World} {R:List Ch} {W1:World} {b b2:Option Addr} {c c2:Nat} {L M:List ByteArray} (hS0:Sep w ([oldC W1 W1.heap.size]++R)) (hx:ExtA W1 b L.length c 1 (fun k=>[.string (L.getD k noNm)])) (hy:ExtA W1 b2 M.length c2 1 (fun k=>[.string (M.getD k noNm)])) (hL:L.length≤100000) :
  CallsR Tryz.prog 28 #[.slice b L.length c,.slice b2 M.length c2] w (fun v w'=>v=.bool (decide (L=M))∧Sep w' ([oldC W1 W1.heap.size]++R)):=by
 have hS:Sep w [oldC W1 W1.heap.size,Ch.many R]:=Sep.tail_many (xs:=[_]) hS0;clear hS0
 obtain ⟨bN,oN,hN⟩:=hx.at
 obtain ⟨bM,oM,hM2⟩:=hy.at
 refine enterR Tryz.func28 rfl (N:=26) Tryz.ntmps28 (by show 2≤26;decide) [(0,.slice b L.length c),(1,.slice b2 M.length c2)] rfl fun _ h1=>sqr fun _ hK3=>mv h1 rfl fun _ h4=>wpList_nil<|hK3 _ _<|sq fun _ hK6=>sqr fun _ hK7=>mv h4 rfl fun _ h8=>sv1 h8 rfl (v:=.int .i64 (L.length:Int)) (rlenS h8 rfl rfl Tryz.underlying24) fun _ h2=>mv h2 rfl fun _ h3=>sv1 h3 rfl (v:=.int .i64 (M.length:Int)) (rlenS h3 rfl rfl Tryz.underlying24) fun _ h5=>bv h5 (z:=.bool (decide ((L.length:Int)≠(M.length:Int)))) rfl (cNe _ _ _ _ rfl) fun _ h6=>?_
 refine h6.sn [10,4,0,1] rfl fun h7=>hK7 _ _ ?_
 rcases bC (decide ((L.length:Int)≠(M.length:Int))) with hc1 | hc1
 ·skip
  have hp1:(L.length:Int)≠(M.length:Int):=(dT hc1)
  refine wcT h7 rfl hc1<|h7.sk [4,0,1] rfl fun h9=>sqr fun _ hK1=>h9.sk [0,1] rfl fun h10=>mv h10 rfl fun _ h11=>wpList_nil<|hK1 _ _<|wp_ret ?_
  try simp only [Exit.then,Exit.inBlock]
  refine retR (v:=.bool false) (res1 h11 rfl rfl) h11.defs ?_
  exact ⟨congrArg Value.bool (decide_eq_false (fun q=>absurd (congrArg List.length q) (by omega))).symm,Sep.tail_un (xs:=[_]) hS⟩
 ·skip
  have hp2:¬ ((L.length:Int)≠(M.length:Int)):=(dF hc1)
  refine wcF h7 rfl hc1<|h7.sk [4,0,1] rfl fun h12=>wp_skip<|hK6 _ _<|sq fun _ hK2=>sqr fun _ hK4=>mv h12 rfl fun _ h13=>wpList_nil<|hK4 _ _<|wp_block ?_
  refine wp_loop1 (fun (i:Nat) a' w'=>Kn 26 [(5,.int .i64 (i:Int)),(4,.bool false),(0,.slice b L.length c),(1,.slice b2 M.length c2)] a'∧Sep w' [oldC W1 W1.heap.size,Ch.many R]∧(L.take i=M.take i)) (fun (i:Nat)=>L.length-i) 0 ⟨h13.subs rfl,hS,rfl⟩ ?_
  rintro i1 a1 w2 ⟨h14,s1,ht37⟩ K1 hK5
  refine sq fun _ hK8=>sqr fun _ hK9=>mvs 2 h14 rfl fun _ h15=>sv1 h15 rfl (v:=.int .i64 (L.length:Int)) (rlenS h15 rfl rfl Tryz.underlying24) fun _ h16=>bv h16 (z:=.bool (decide ((i1:Int)<(L.length:Int)))) rfl (cLt _ _ _ _ rfl) fun _ h17=>h17.sn [14,5,4,0,1] rfl fun h18=>hK9 _ _ ?_
  rcases bC (decide ((i1:Int)<(L.length:Int))) with hc2 | hc2
  ·skip
   have hp3:(i1:Int)<(L.length:Int):=(dT hc2)
   refine wcT h18 rfl hc2<|h18.sk [5,4,0,1] rfl fun h19=>wp_skip<|hK8 _ _<|sq fun _ hK10=>wp_block ?_
   refine sq fun _ hK11=>?_
   have s2:=s1.drew
   refine wp_region_held_drew (S:=fun w'=>Sep w' [oldC W1 W1.heap.size,Ch.many R]) (by kernel_rfl) s2 (fun hq1=>?_)
   refine tv1 hq1 h19 0 rfl rfl (v:=.slice b L.length c) (fun w1 _=>(rmove h19 rfl rfl) w1) fun _ h20=>?_
   refine tv1 hq1 h20 1 rfl rfl (v:=.int .i64 (i1:Int)) (fun w1 _=>(rmove h20 rfl rfl) w1) fun _ h21=>?_
   refine tv1 hq1 h21 2 rfl rfl (v:=.pointer (some ⟨bN,oN+i1*1,none⟩)) (fun w1 _=>(rindexA h21 rfl rfl rfl (fun w=>ixO Tryz.underlying24 (by kernel_rfl) (sz:=1) (hN (by omega)).1 (j:=i1) rfl (by omega) rfl w)) w1) fun _ h22=>?_
   refine tv1 hq1 h22 3 rfl rfl (v:=.string (L.getD i1 noNm)) (fun w1 hSw=>(rld h22 rfl rfl (ldXc (sz:=1) (n:=L.length) (f:=(fun k=>[.string (L.getD k noNm)])) Tryz.underlying9 rfl (hN (by omega)).2 (Nat.le_refl _) (hSw.get 0 rfl:Below _ _ _∧_) (j:=i1) (i:=0) (by omega) rfl rfl))) fun _ h23=>?_
   refine tv1 hq1 h23 4 rfl rfl (v:=.slice b2 M.length c2) (fun w1 _=>(rmove h23 rfl rfl) w1) fun _ h24=>?_
   refine tv1 hq1 h24 5 rfl rfl (v:=.int .i64 (i1:Int)) (fun w1 _=>(rmove h24 rfl rfl) w1) fun _ h25=>?_
   refine tv1 hq1 h25 6 rfl rfl (v:=.pointer (some ⟨bM,oM+i1*1,none⟩)) (fun w1 _=>(rindexA h25 rfl rfl rfl (fun w=>ixO Tryz.underlying24 (by kernel_rfl) (sz:=1) (hM2 (by omega)).1 (j:=i1) rfl (by omega) rfl w)) w1) fun _ h26=>?_
   refine tv1 hq1 h26 7 rfl rfl (v:=.string (M.getD i1 noNm)) (fun w1 hSw=>(rld h26 rfl rfl (ldXc (sz:=1) (n:=M.length) (f:=(fun k=>[.string (M.getD k noNm)])) Tryz.underlying9 rfl (hM2 (by omega)).2 (Nat.le_refl _) (hSw.get 0 rfl:Below _ _ _∧_) (j:=i1) (i:=0) (by omega) rfl rfl))) fun _ h27=>?_
   refine tv1 hq1 h27 8 rfl rfl (v:=.bool (decide ((L.getD i1 noNm)≠(M.getD i1 noNm)))) (fun w1 _=>(rbin h27 rfl rfl rfl (bStrNeB _ _ _ (L.getD i1 noNm) (M.getD i1 noNm) rfl)) w1) fun _ h28=>?_
   refine h28.sk [25,5,4,0,1] rfl fun h29=>?_
   refine wpAnyH_done (by kernel_rfl) ?_ _
   refine hK11 _ _ ?_
   rcases bC (decide ((L.getD i1 noNm)≠(M.getD i1 noNm))) with hc3 | hc3
   ·skip
    have hp4:(L.getD i1 noNm)≠(M.getD i1 noNm):=(dT hc3)
    refine wcT h29 rfl hc3<|h29.sk [5,4,0,1] rfl fun h30=>sqr fun _ hK12=>h30.sk [5,0,1] rfl fun h31=>mv h31 rfl fun _ h32=>wpList_nil<|hK12 _ _<|wp_ret ?_
    try simp only [Exit.then,Exit.inBlock]
    refine retR (v:=.bool false) (res1 h32 rfl rfl) h32.defs ?_
    exact ⟨congrArg Value.bool (decide_eq_false (fun q=>dT hc3 (by rw [q]))).symm,Sep.tail_un (xs:=[_]) s2⟩
   ·skip
    have hp5:¬ ((L.getD i1 noNm)≠(M.getD i1 noNm)):=(dF hc3)
    refine wcF h29 rfl hc3<|h29.sk [5,4,0,1] rfl fun h33=>wp_skip<|hK10 _ _<|wp_region_lit<|mv h33 rfl fun _ h34=>bv h34 (z:=.int .i64 ((i1+1:Nat):Int)) rfl (bAdd _ _ _ (by omega) (by omega) (by omega)) fun _ h35=>h35.sk [16,15,4,0,1] rfl fun h36=>mv h36 rfl fun _ h37=>h37.sk [5,4,0,1] rfl fun h38=>wpList_nil ?_
    exact hK5 (i1+1) _ _ ⟨h38.subs rfl,s2,(take_both (by omega) (by omega) ht37 (Classical.not_not.1 (dF hc3)))⟩ (by omega)
  ·skip
   have hp6:¬ ((i1:Int)<(L.length:Int)):=(dF hc2)
   refine wcF h18 rfl hc2<|h18.sk [5,4,0,1] rfl fun h39=>wp_exit ?_
   refine hK2 _ _ ?_
   refine sqr fun _ hK13=>h39.sk [5,0,1] rfl fun h40=>mv h40 rfl fun _ h41=>wpList_nil<|hK13 _ _<|wp_ret ?_
   try simp only [Exit.then,Exit.inBlock]
   refine retR (v:=.bool true) (res1 h41 rfl rfl) h41.defs ?_
   exact ⟨congrArg Value.bool (decide_eq_true (take_end ht37 (by omega) (by omega))).symm,Sep.tail_un (xs:=[_]) s1⟩

set_option maxHeartbeats 4000000 in
theorem sameReplyX_s {w:World} {R:List Ch} {W1:World} {b b2:Option Addr} {c c2:Nat} {r s:RepM} (hS0:Sep w ([oldC W1 W1.heap.size]++R)) (hx:ExtA W1 b r.names.length c 1 (fun k=>[.string (r.names.getD k noNm)])) (hy:ExtA W1 b2 s.names.length c2 1 (fun k=>[.string (s.names.getD k noNm)])) (hr:r.names.length≤100000) :
  CallsR Tryz.prog 10 #[.agg #[.int .i64 r.e,.int .i64 r.fd,.string (strB r.data),.slice b r.names.length c,.int .i64 r.kind,.int .i64 r.links,.int .i64 r.size],.agg #[.int .i64 s.e,.int .i64 s.fd,.string (strB s.data),.slice b2 s.names.length c2,.int .i64 s.kind,.int .i64 s.links,.int .i64 s.size]] w (fun v w'=>v=.bool (sameR r s)∧Sep w' ([oldC W1 W1.heap.size]++R)):=by
 have hS:Sep w [oldC W1 W1.heap.size,Ch.many R]:=Sep.tail_many (xs:=[_]) hS0;clear hS0
 refine enterR Tryz.func10 rfl (N:=40) Tryz.ntmps10 (by show 2≤40;decide) [(0,.agg #[.int .i64 r.e,.int .i64 r.fd,.string (strB r.data),.slice b r.names.length c,.int .i64 r.kind,.int .i64 r.links,.int .i64 r.size]),(1,.agg #[.int .i64 s.e,.int .i64 s.fd,.string (strB s.data),.slice b2 s.names.length c2,.int .i64 s.kind,.int .i64 s.links,.int .i64 s.size])] rfl fun _ h1=>sqr fun _ hK3=>so (wanted_none rfl) fun _ hK1=>xbox h1 rfl rfl rfl rfl rfl (z:=[.int .i64 r.e,.int .i64 r.fd,.string (strB r.data),.slice b r.names.length c,.int .i64 r.kind,.int .i64 r.links,.int .i64 r.size]) rfl hS fun _ g4 w7 h5 s8 _ _=>hK1 _ _ ?_
 refine so (wanted_none rfl) fun _ hK2=>xbox h5 rfl rfl rfl rfl rfl (z:=[.int .i64 s.e,.int .i64 s.fd,.string (strB s.data),.slice b2 s.names.length c2,.int .i64 s.kind,.int .i64 s.links,.int .i64 s.size]) rfl s8 fun _ g1 w1 h2 s1 _ _=>hK2 _ _ ?_
 refine mv h2 rfl fun _ h3=>wpList_nil<|hK3 _ _<|sqr fun _ hK4=>fav h3 rfl (fz_api_Reply_3 _ _) fun _ h4=>ldv h4 s1 1 Tryz.underlying24 rfl rfl rfl rfl fun _ h6=>fav h6 rfl (fz_api_Reply_3 _ _) fun _ h7=>ldv h7 s1 0 Tryz.underlying24 rfl rfl rfl rfl fun _ h8=>cl h8 rfl cz_commonsref05_Same (same05X_s (L:=r.names) (M:=s.names) (s1.pk [2,0,1,3] rfl) hx hy hr) fun _ v1 w2 r1 h9=>?_
 obtain ⟨rfl,s2⟩:=r1
 refine mv h9 rfl fun _ h10=>h10.sn [5,4,3,2,0,1] rfl fun h11=>hK4 _ _<|sqr fun _ hK5=>mvs 2 h11 rfl fun _ h12=>sg h12 (wT h12 rfl rfl rfl) rfl rfl rfl (v:=.pointer (some ⟨g4,0,none⟩)) (fun hC1=>by have hq:=(dT hC1);exact rfa h12 rfl rfl (fun w=>fz_api_Reply_0 g4 0 w) _) fun _ h13=>sg h13 (wT h13 rfl rfl rfl) rfl rfl rfl (v:=.int .i64 r.e) (fun hC2=>by have hq:=(dT hC2);exact (rld h13 rfl (opg rfl hC2) (ldB Tryz.underlying23 rfl (s2.get 2 rfl:Blk _ _ _ _) rfl))) fun _ h14=>sg h14 (wT h14 rfl rfl rfl) rfl rfl rfl (v:=.pointer (some ⟨g1,0,none⟩)) (fun hC3=>by have hq:=(dT hC3);exact rfa h14 rfl rfl (fun w=>fz_api_Reply_0 g1 0 w) _) fun _ h15=>sg h15 (wT h15 rfl rfl rfl) rfl rfl rfl (v:=.int .i64 s.e) (fun hC4=>by have hq:=(dT hC4);exact (rld h15 rfl (opg rfl hC4) (ldB Tryz.underlying23 rfl (s2.get 1 rfl:Blk _ _ _ _) rfl))) fun _ h16=>sg h16 (wT h16 rfl rfl rfl) rfl rfl rfl (v:=.bool (decide (r.e=s.e))) (fun hC5=>by have hq:=(dT hC5);exact rbin h16 rfl (opg rfl hC5) (opg rfl hC5) (cEq _ _ _ _ rfl) _) fun _ h17=>?_
 refine sv1 h17 rfl (v:=.bool ((decide (r.names=s.names))&&(decide (r.e=s.e)))) (rpickA h17 rfl (E:=(decide (r.names=s.names))) (F:=(decide (r.e=s.e))) rfl rfl rfl (fun e=>if_pos (by rw [e];try rfl))) fun _ h18=>mv h18 rfl fun _ h19=>sg h19 (wT h19 rfl rfl rfl) rfl rfl rfl (v:=.pointer (some ⟨g4,1,none⟩)) (fun hC6=>by have hq:=(And.intro (dT (andT hC6).1) (dT (andT hC6).2));exact rfa h19 rfl rfl (fun w=>fz_api_Reply_1 g4 0 w) _) fun _ h20=>sg h20 (wT h20 rfl rfl rfl) rfl rfl rfl (v:=.int .i64 r.fd) (fun hC7=>by have hq:=(And.intro (dT (andT hC7).1) (dT (andT hC7).2));exact (rld h20 rfl (opg rfl hC7) (ldB Tryz.underlying3 rfl (s2.get 2 rfl:Blk _ _ _ _) rfl))) fun _ h21=>sg h21 (wT h21 rfl rfl rfl) rfl rfl rfl (v:=.pointer (some ⟨g1,1,none⟩)) (fun hC8=>by have hq:=(And.intro (dT (andT hC8).1) (dT (andT hC8).2));exact rfa h21 rfl rfl (fun w=>fz_api_Reply_1 g1 0 w) _) fun _ h22=>sg h22 (wT h22 rfl rfl rfl) rfl rfl rfl (v:=.int .i64 s.fd) (fun hC9=>by have hq:=(And.intro (dT (andT hC9).1) (dT (andT hC9).2));exact (rld h22 rfl (opg rfl hC9) (ldB Tryz.underlying3 rfl (s2.get 1 rfl:Blk _ _ _ _) rfl))) fun _ h23=>sg h23 (wT h23 rfl rfl rfl) rfl rfl rfl (v:=.bool (decide (r.fd=s.fd))) (fun hC10=>by have hq:=(And.intro (dT (andT hC10).1) (dT (andT hC10).2));exact rbin h23 rfl (opg rfl hC10) (opg rfl hC10) (cEq _ _ _ _ rfl) _) fun _ h24=>sv1 h24 rfl (v:=.bool (((decide (r.names=s.names))&&(decide (r.e=s.e)))&&(decide (r.fd=s.fd)))) (rpickA h24 rfl (E:=((decide (r.names=s.names))&&(decide (r.e=s.e)))) (F:=(decide (r.fd=s.fd))) rfl rfl rfl (fun e=>if_pos (by rw [e];try rfl))) fun _ h25=>mv h25 rfl fun _ h26=>sg h26 (wT h26 rfl rfl rfl) rfl rfl rfl (v:=.pointer (some ⟨g4,2,none⟩)) (fun hC11=>by have hq:=(And.intro (And.intro (dT (andT (andT hC11).1).1) (dT (andT (andT hC11).1).2)) (dT (andT hC11).2));exact rfa h26 rfl rfl (fun w=>fz_api_Reply_2 g4 0 w) _) fun _ h27=>?_
 refine sg h27 (wT h27 rfl rfl rfl) rfl rfl rfl (v:=.string (strB r.data)) (fun hC12=>by have hq:=(And.intro (And.intro (dT (andT (andT hC12).1).1) (dT (andT (andT hC12).1).2)) (dT (andT hC12).2));exact (rld h27 rfl (opg rfl hC12) (ldB Tryz.underlying9 rfl (s2.get 2 rfl:Blk _ _ _ _) rfl))) fun _ h28=>sg h28 (wT h28 rfl rfl rfl) rfl rfl rfl (v:=.pointer (some ⟨g1,2,none⟩)) (fun hC13=>by have hq:=(And.intro (And.intro (dT (andT (andT hC13).1).1) (dT (andT (andT hC13).1).2)) (dT (andT hC13).2));exact rfa h28 rfl rfl (fun w=>fz_api_Reply_2 g1 0 w) _) fun _ h29=>sg h29 (wT h29 rfl rfl rfl) rfl rfl rfl (v:=.string (strB s.data)) (fun hC14=>by have hq:=(And.intro (And.intro (dT (andT (andT hC14).1).1) (dT (andT (andT hC14).1).2)) (dT (andT hC14).2));exact (rld h29 rfl (opg rfl hC14) (ldB Tryz.underlying9 rfl (s2.get 1 rfl:Blk _ _ _ _) rfl))) fun _ h30=>sg h30 (wT h30 rfl rfl rfl) rfl rfl rfl (v:=.bool (decide (r.data=s.data))) (fun hC15=>by have hq:=(And.intro (And.intro (dT (andT (andT hC15).1).1) (dT (andT (andT hC15).1).2)) (dT (andT hC15).2));exact rbin h30 rfl (opg rfl hC15) (opg rfl hC15) (bStrEqL _ _ _ r.data s.data rfl) _) fun _ h31=>sv1 h31 rfl (v:=.bool ((((decide (r.names=s.names))&&(decide (r.e=s.e)))&&(decide (r.fd=s.fd)))&&(decide (r.data=s.data)))) (rpickA h31 rfl (E:=(((decide (r.names=s.names))&&(decide (r.e=s.e)))&&(decide (r.fd=s.fd)))) (F:=(decide (r.data=s.data))) rfl rfl rfl (fun e=>if_pos (by rw [e];try rfl))) fun _ h32=>mv h32 rfl fun _ h33=>sg h33 (wT h33 rfl rfl rfl) rfl rfl rfl (v:=.pointer (some ⟨g4,4,none⟩)) (fun hC16=>by have hq:=(And.intro (And.intro (And.intro (dT (andT (andT (andT hC16).1).1).1) (dT (andT (andT (andT hC16).1).1).2)) (dT (andT (andT hC16).1).2)) (dT (andT hC16).2));exact rfa h33 rfl rfl (fun w=>fz_api_Reply_4 g4 0 w) _) fun _ h34=>sg h34 (wT h34 rfl rfl rfl) rfl rfl rfl (v:=.agg #[.int .i64 r.kind,.int .i64 r.links,.int .i64 r.size]) (fun hC17=>by have hq:=(And.intro (And.intro (And.intro (dT (andT (andT (andT hC17).1).1).1) (dT (andT (andT (andT hC17).1).1).2)) (dT (andT (andT hC17).1).2)) (dT (andT hC17).2));exact (rld h34 rfl (opg rfl hC17) (ldA Tryz.underlying26 rfl (n:=3) (by kernel_rfl) (s2.get 2 rfl:Blk _ _ _ _) rfl rfl))) fun _ h35=>sg h35 (wT h35 rfl rfl rfl) rfl rfl rfl (v:=.pointer (some ⟨g1,4,none⟩)) (fun hC18=>by have hq:=(And.intro (And.intro (And.intro (dT (andT (andT (andT hC18).1).1).1) (dT (andT (andT (andT hC18).1).1).2)) (dT (andT (andT hC18).1).2)) (dT (andT hC18).2));exact rfa h35 rfl rfl (fun w=>fz_api_Reply_4 g1 0 w) _) fun _ h36=>sg h36 (wT h36 rfl rfl rfl) rfl rfl rfl (v:=.agg #[.int .i64 s.kind,.int .i64 s.links,.int .i64 s.size]) (fun hC19=>by have hq:=(And.intro (And.intro (And.intro (dT (andT (andT (andT hC19).1).1).1) (dT (andT (andT (andT hC19).1).1).2)) (dT (andT (andT hC19).1).2)) (dT (andT hC19).2));exact (rld h36 rfl (opg rfl hC19) (ldA Tryz.underlying26 rfl (n:=3) (by kernel_rfl) (s2.get 1 rfl:Blk _ _ _ _) rfl rfl))) fun _ h37=>?_
 refine sg h37 (wT h37 rfl rfl rfl) rfl rfl rfl (v:=.bool ((decide (r.kind=s.kind))&&((decide (r.links=s.links))&&(decide (r.size=s.size))))) (fun hC20=>by have hq:=(And.intro (And.intro (And.intro (dT (andT (andT (andT hC20).1).1).1) (dT (andT (andT (andT hC20).1).1).2)) (dT (andT (andT hC20).1).2)) (dT (andT hC20).2));exact rbin h37 rfl (opg rfl hC20) (opg rfl hC20) (eqS_api_Info_x12_eql _ _ r.kind r.links r.size s.kind s.links s.size) _) fun _ h38=>sv1 h38 rfl (v:=.bool (((((decide (r.names=s.names))&&(decide (r.e=s.e)))&&(decide (r.fd=s.fd)))&&(decide (r.data=s.data)))&&((decide (r.kind=s.kind))&&((decide (r.links=s.links))&&(decide (r.size=s.size)))))) (rpickA h38 rfl (E:=((((decide (r.names=s.names))&&(decide (r.e=s.e)))&&(decide (r.fd=s.fd)))&&(decide (r.data=s.data)))) (F:=((decide (r.kind=s.kind))&&((decide (r.links=s.links))&&(decide (r.size=s.size))))) rfl rfl rfl (fun e=>if_pos (by rw [e];try rfl))) fun _ h39=>h39.sk [39,38,37,36,35,34,33,32,31,30,29,28,27,26,25,24,23,22,21,20,19,18,17,16,15,14,13,12,11,5,3,2,0,1] rfl fun h40=>mv h40 rfl fun _ h41=>h41.sn [4,5,3,2,0,1] rfl fun h42=>hK5 _ _<|wp_ret ?_
 try simp only [Exit.then,Exit.inBlock]
 refine retR (v:=.bool (((((decide (r.names=s.names))&&(decide (r.e=s.e)))&&(decide (r.fd=s.fd)))&&(decide (r.data=s.data)))&&((decide (r.kind=s.kind))&&((decide (r.links=s.links))&&(decide (r.size=s.size)))))) (res1 h42 rfl rfl) h42.defs ?_
 exact ⟨rfl,Sep.tail_un (xs:=[_]) (s2.pk [0,3] rfl)⟩

theorem sameS_s {w:World} {R:List Ch} (hS:Sep w R) {b b2:Option Addr} {c c2:Nat} {r s:RepM} (hx:ExtA w b r.names.length c 1 (fun k=>[.string (r.names.getD k noNm)])) (hy:ExtA w b2 s.names.length c2 1 (fun k=>[.string (s.names.getD k noNm)])) (hr:r.names.length≤100000):CallsR Tryz.prog 10 #[.agg #[.int .i64 r.e,.int .i64 r.fd,.string (strB r.data),.slice b r.names.length c,.int .i64 r.kind,.int .i64 r.links,.int .i64 r.size],.agg #[.int .i64 s.e,.int .i64 s.fd,.string (strB s.data),.slice b2 s.names.length c2,.int .i64 s.kind,.int .i64 s.links,.int .i64 s.size]] w (fun v w'=>v=.bool (sameR r s)∧Sep w' R):=
 Calls.mono (sameReplyX_s (R:=[]) (Sep.start w) hx hy hr) fun e W' ⟨v,e1,e2,z⟩=>⟨v,e1,e2,hS.mono (z.get 0 rfl:Below _ _ _∧_).1⟩

set_option maxHeartbeats 4000000 in
theorem livesX_s {w:World} {R:List Ch} (hS0:Sep w R) :
  CallsR Tryz.prog 9 #[] w (fun v w'=>v=.bool true∧Sep w' R):=by
 have hS:Sep w [Ch.many R]:=Sep.tail_many (xs:=[]) hS0;clear hS0
 refine enterR Tryz.func9 rfl (N:=32) Tryz.ntmps9 (by show 0≤32;decide) [] rfl fun _ h1=>sqr fun _ hK3=>mv h1 rfl fun _ h4=>wpList_nil<|hK3 _ _<|sqr fun _ hK6=>bu h4 (v:=.agg #[.int .i64 1,.string (strB [47,97]),.string (strB []),.int .i64 1,.int .i64 0,.int .i64 0,.int .i64 0,.string (strB [])]) rfl (fun w=>by kernel_rfl) fun _ h7=>bu h7 (v:=.agg #[.int .i64 1,.int .i64 5,.int .i64 1,.string (strB [47,97]),.string (strB []),.int .i64 1,.int .i64 0,.int .i64 0,.int .i64 0,.string (strB []),.int .i64 1,.int .i64 2,.int .i64 3,.int .i64 0,.int .i64 0,.string (strB []),.slice none 0 0,.int .i64 0,.int .i64 0,.int .i64 0]) rfl (fun w=>by kernel_rfl) fun _ h9=>so (wanted_none rfl) fun _ hK1=>xalloc h9 rfl rfl rfl rfl (z:=[.int .i64 0,.int .i64 0,.int .i64 0,.string (strB []),.string (strB []),.int .i64 0,.int .i64 0,.int .i64 0,.int .i64 0,.string (strB []),.int .i64 0,.int .i64 0,.int .i64 0,.int .i64 0,.int .i64 0,.string (strB []),.slice none 0 0,.int .i64 0,.int .i64 0,.int .i64 0]) (fun _=>rfl) hS fun _ g1 w1 h2 s1 _ _=>hK1 _ _ ?_
 refine stA h2 s1 0 rfl rfl rfl (by kernel_rfl) rfl rfl rfl rfl fun _ w2 h3 s2 _=>h3.sn [1,0] rfl fun h5=>hK6 _ _<|sqr fun _ hK2=>sw1 h5 rfl (v:=.agg #[.int .i64 1,.int .i64 5,.int .i64 1,.string (strB [47,97]),.string (strB []),.int .i64 1,.int .i64 0,.int .i64 0,.int .i64 0,.string (strB []),.int .i64 1,.int .i64 2,.int .i64 3,.int .i64 0,.int .i64 0,.string (strB []),.slice none 0 0,.int .i64 0,.int .i64 0,.int .i64 0]) (rld h5 rfl rfl (ldA Tryz.underlying35 rfl (n:=20) (by kernel_rfl) (s2.get 0 rfl:Blk _ _ _ _) rfl rfl)) fun _ h6=>so (wanted_none rfl) fun _ hK4=>xbuildS h6 rfl rfl rfl (E:=35) (xs:=[(0,.tmp 9)]) rfl (vs:=[(0,.agg #[.int .i64 1,.int .i64 5,.int .i64 1,.string (strB [47,97]),.string (strB []),.int .i64 1,.int .i64 0,.int .i64 0,.int .i64 0,.string (strB []),.int .i64 1,.int .i64 2,.int .i64 3,.int .i64 0,.int .i64 0,.string (strB []),.slice none 0 0,.int .i64 0,.int .i64 0,.int .i64 0])]) rfl (z:=[.int .i64 1,.int .i64 5,.int .i64 1,.string (strB [47,97]),.string (strB []),.int .i64 1,.int .i64 0,.int .i64 0,.int .i64 0,.string (strB []),.int .i64 1,.int .i64 2,.int .i64 3,.int .i64 0,.int .i64 0,.string (strB []),.slice none 0 0,.int .i64 0,.int .i64 0,.int .i64 0]) (fun _=>by kernel_rfl) s2 fun _ g2 w3 h8 s3 _ _=>hK4 _ _ ?_
 have hb37:=ext_blk (ev:=lvA) (s3.get 0 rfl:Blk _ _ _ _)
 refine cl h8 rfl cp_audit_Run_x13 (runS_s (L:=[lvA]) s3 hb37 (by decide) (one_rise (by decide)) (one_wfX (lvA_wfX _))) fun _ v1 w4 r1 h10=>?_
 obtain ⟨cfx38,Mx39,rfl,s4,hM44⟩:=r1
 have hv47:Mx39=0:=hM44.trans lvA_wr
 refine mvs 5 h10 rfl fun _ h11=>h11.sn [3,2,1,0] rfl fun h12=>hK2 _ _<|sqr fun _ hK5=>fav h12 rfl (fa_api_Event_x13_6 _ _) fun _ h13=>fav h13 rfl (fz_api_Reply_1 _ _) fun _ h14=>st1 h14 s4 1 rfl rfl (by kernel_rfl) rfl rfl rfl rfl fun _ w5 h15 s5 _=>h15.sn [3,2,1,0] rfl fun h16=>hK5 _ _<|sq fun _ hK7=>wp_region_lit ?_
 refine sw1 h16 rfl (v:=.agg #[.int .i64 1,.int .i64 5,.int .i64 1,.string (strB [47,97]),.string (strB []),.int .i64 1,.int .i64 0,.int .i64 0,.int .i64 0,.string (strB []),.int .i64 1,.int .i64 2,.int .i64 3,.int .i64 0,.int .i64 1,.string (strB []),.slice none 0 0,.int .i64 0,.int .i64 0,.int .i64 0]) (rld h16 rfl rfl (ldA Tryz.underlying35 rfl (n:=20) (by kernel_rfl) (s5.get 1 rfl:Blk _ _ _ _) rfl rfl)) fun _ h17=>so (wanted_none rfl) fun _ hK8=>xbuildS h17 rfl rfl rfl (E:=35) (xs:=[(0,.tmp 17)]) rfl (vs:=[(0,.agg #[.int .i64 1,.int .i64 5,.int .i64 1,.string (strB [47,97]),.string (strB []),.int .i64 1,.int .i64 0,.int .i64 0,.int .i64 0,.string (strB []),.int .i64 1,.int .i64 2,.int .i64 3,.int .i64 0,.int .i64 1,.string (strB []),.slice none 0 0,.int .i64 0,.int .i64 0,.int .i64 0])]) rfl (z:=[.int .i64 1,.int .i64 5,.int .i64 1,.string (strB [47,97]),.string (strB []),.int .i64 1,.int .i64 0,.int .i64 0,.int .i64 0,.string (strB []),.int .i64 1,.int .i64 2,.int .i64 3,.int .i64 0,.int .i64 1,.string (strB []),.slice none 0 0,.int .i64 0,.int .i64 0,.int .i64 0]) (fun _=>by kernel_rfl) s5 fun _ g3 w6 h18 s6 _ _=>hK8 _ _ ?_
 have hb82:=ext_blk (ev:=lvB) (s6.get 0 rfl:Blk _ _ _ _)
 refine cl h18 rfl cp_audit_Run_x13 (runS_s (L:=[lvB]) s6 hb82 (by decide) (one_rise (by decide)) (one_wfX (lvB_wfX _))) fun _ v2 w7 r2 h19=>?_
 obtain ⟨cfx83,Mx84,rfl,s7,hM89⟩:=r2
 have hv92:Mx84=5:=hM89.trans lvB_wr
 refine mvs 5 h19 rfl fun _ h20=>h20.sn [5,3,2,1,0] rfl fun h21=>hK7 _ _<|sqr fun _ hK9=>mv h21 rfl fun _ h22=>bv h22 rfl (bNNil _ Tryz.underlying37 _ _ _) fun _ h23=>mv h23 rfl fun _ h24=>sv h24 (wT h24 (E:=true) rfl rfl rfl) rfl rfl rfl (v:=.int .i64 Mx39) (rmove h24 rfl rfl) fun _ h25=>sv h25 (wT h25 (E:=true) rfl rfl rfl) rfl rfl rfl (v:=.bool true) (rbin h25 rfl rfl rfl (cEq _ _ _ _ (decide_eq_true (by omega)))) fun _ h26=>sv1 h26 rfl (v:=.bool true) (rpick h26 rfl rfl rfl) fun _ h27=>?_
 refine mv h27 rfl fun _ h28=>sv h28 (wT h28 (E:=true) rfl rfl rfl) rfl rfl rfl (v:=.int .i64 Mx84) (rmove h28 rfl rfl) fun _ h29=>sv h29 (wT h29 (E:=true) rfl rfl rfl) rfl rfl rfl (v:=.bool true) (rbin h29 rfl rfl rfl (cEq _ _ _ _ (decide_eq_true (by omega)))) fun _ h30=>sv1 h30 rfl (v:=.bool true) (rpick h30 rfl rfl rfl) fun _ h31=>h31.sk [31,30,29,28,27,26,25,24,23,22,5,3,2,1] rfl fun h32=>mv h32 rfl fun _ h33=>h33.sn [0,5,3,2,1] rfl fun h34=>hK9 _ _<|wp_ret ?_
 try simp only [Exit.then,Exit.inBlock]
 refine retR (v:=.bool true) (res1 h34 rfl rfl) h34.defs ?_
 exact ⟨rfl,Sep.tail_un (xs:=[]) (s7.pk [3] rfl)⟩

end Go.Proofs.YtpdjnefgkcmdnaaGreatDoor
/- stage 25: AuditTrue (sx/aw.py) -/
namespace Go.Proofs.YtpdjnefgkcmdnaaGreatDoor
open Go.RowKit
set_option linter.unusedSimpArgs false
set_option linter.unusedVariables false
set_option maxRecDepth 100000

theorem cutK_1 (x:CallM):(cutK x).p1.length≤1000:=by show (x.p1.take 60).length≤1000;rw [List.length_take];omega
theorem cutK_2 (x:CallM):(cutK x).p2.length≤1000:=by show (x.p2.take 60).length≤1000;rw [List.length_take];omega
theorem cutK_3 (x:CallM):(cutK x).data.length≤1000:=by show (x.data.take 80).length≤1000;rw [List.length_take];omega

theorem cp_commonslaw25_few_x20 (args:Array Value) (w:World):(callFunc 5 args).run Tryz.prog w=.ok (.enter 5 args) w:=by
 have h:=Tryz.func5
 go_simp
theorem fa_api_Event_x20_1 (g off:Nat) (w:World):(Instr.fieldAt 35 (.pointer (some ⟨g,off,none⟩)) 1).run Tryz.prog w=.ok (.pointer (some ⟨g,off+1,none⟩)) w:=rfl
theorem fa_api_Event_x20_3 (g off:Nat) (w:World):(Instr.fieldAt 35 (.pointer (some ⟨g,off,none⟩)) 3).run Tryz.prog w=.ok (.pointer (some ⟨g,off+10,none⟩)) w:=rfl
theorem fa_api_Event_x20_4 (g off:Nat) (w:World):(Instr.fieldAt 35 (.pointer (some ⟨g,off,none⟩)) 4).run Tryz.prog w=.ok (.pointer (some ⟨g,off+11,none⟩)) w:=rfl
theorem fa_api_Event_x20_5 (g off:Nat) (w:World):(Instr.fieldAt 35 (.pointer (some ⟨g,off,none⟩)) 5).run Tryz.prog w=.ok (.pointer (some ⟨g,off+12,none⟩)) w:=rfl
theorem fa_api_Event_x20_0 (g off:Nat) (w:World):(Instr.fieldAt 35 (.pointer (some ⟨g,off,none⟩)) 0).run Tryz.prog w=.ok (.pointer (some ⟨g,off+0,none⟩)) w:=rfl
theorem fa_api_Event_x20_2 (g off:Nat) (w:World):(Instr.fieldAt 35 (.pointer (some ⟨g,off,none⟩)) 2).run Tryz.prog w=.ok (.pointer (some ⟨g,off+2,none⟩)) w:=rfl
theorem fa_api_Event_x20_6 (g off:Nat) (w:World):(Instr.fieldAt 35 (.pointer (some ⟨g,off,none⟩)) 6).run Tryz.prog w=.ok (.pointer (some ⟨g,off+13,none⟩)) w:=rfl
theorem cp_audit_Run_x20 (args:Array Value) (w:World):(callFunc 8 args).run Tryz.prog w=.ok (.enter 8 args) w:=by
 have h:=Tryz.func8
 go_simp
theorem cp_commonslaw25_lives_x20 (args:Array Value) (w:World):(callFunc 9 args).run Tryz.prog w=.ok (.enter 9 args) w:=by
 have h:=Tryz.func9
 go_simp

set_option maxHeartbeats 4000000 in
theorem AuditTrue_walk (W:World) (a0:Option Addr) (n0 c0:Nat) (f:Nat→EvA) (rb:ExtA W a0 n0 c0 20 (fun i=>evA (f i))) (hg:∀ i,i<n0→(f i).nn≤(f i).nc∧(Lit.int .i64 (f i).x.fd).wf=true) (pt:Int) (hpt:(Lit.int .i64 pt).wf=true) (ot:RepM) (xa:Option Addr) (xc:Nat) (rbx:ExtA W xa ot.names.length xc 1 (fun k=>[.string (ot.names.getD k noNm)])) :
  Calls Tryz.prog 3 #[.slice a0 n0 c0,.int .i64 pt,.agg #[.int .i64 ot.e,.int .i64 ot.fd,.string (strB ot.data),.slice xa ot.names.length xc,.int .i64 ot.kind,.int .i64 ot.links,.int .i64 ot.size]] W fun e W'=>e=.returned (.bool true)∧Below W.heap.size W W':=by
 have hpt:=i64_bd hpt
 have hnc:∀ i,i<n0→(f i).nn≤(f i).nc:=fun i hi=>(hg i hi).1
 have hfd:∀ i,i<n0→(Lit.int .i64 (f i).x.fd).wf=true:=fun i hi=>(hg i hi).2
 have hS:Sep W [oldC W W.heap.size]:=Sep.start W
 suffices hZ:CallsR Tryz.prog 3 #[.slice a0 n0 c0,.int .i64 pt,.agg #[.int .i64 ot.e,.int .i64 ot.fd,.string (strB ot.data),.slice xa ot.names.length xc,.int .i64 ot.kind,.int .i64 ot.links,.int .i64 ot.size]] W (fun v W'=>v=.bool true∧Below W.heap.size W W') from Calls.mono hZ fun e W' ⟨v,e1,e2,h⟩=>⟨by rw [e1,e2],h⟩
 refine enterR Tryz.func3 rfl (N:=107) Tryz.ntmps3 (by show 3≤107;decide) [(0,.slice a0 n0 c0),(1,.int .i64 pt),(2,.agg #[.int .i64 ot.e,.int .i64 ot.fd,.string (strB ot.data),.slice xa ot.names.length xc,.int .i64 ot.kind,.int .i64 ot.links,.int .i64 ot.size])] rfl fun _ h1=>sqr fun _ hK3=>so (wanted_none rfl) fun _ hK1=>xbox h1 rfl rfl rfl rfl rfl (z:=[.int .i64 ot.e,.int .i64 ot.fd,.string (strB ot.data),.slice xa ot.names.length xc,.int .i64 ot.kind,.int .i64 ot.links,.int .i64 ot.size]) rfl hS fun _ g4 w7 h5 s8 _ _=>hK1 _ _ ?_
 refine mv h5 rfl fun _ h2=>wpList_nil<|hK3 _ _<|sqr fun _ hK2=>mv h2 rfl fun _ h3=>cl h3 rfl cp_commonslaw25_few_x20 (few_s (W1:=W) (s8.pk [1,0] rfl) rb hnc) fun _ v1 w2 r1 h4=>?_
 obtain ⟨iax17,icx18,rfl,s1⟩:=r1
 obtain ⟨n,hnn⟩:∃ n,min n0 25=n:=⟨_,rfl⟩
 rw [hnn] at s1 h4
 have hn25:n≤25∧n≤n0:=by omega
 have hfl:((List.range n).map (fun t=>cutA (f t))).length=n:=by rw [List.length_map,List.length_range]
 refine h4.sk [18,17,6,5,1,2] rfl fun h6=>mv h6 rfl fun _ h7=>h7.sn [0,6,5,1,2] rfl fun h8=>hK2 _ _<|sqr fun _ hK4=>cl h8 rfl cz_commonsref06_New (newRef_s s1) fun _ v2 w3 r2 h9=>?_
 obtain ⟨df,nax31,ncx32,rfl,s2⟩:=r2
 refine mv h9 rfl fun _ h10=>h10.sn [7,0,6,5,1,2] rfl fun h11=>hK4 _ _<|sqr fun _ hK5=>mv h11 rfl fun _ h12=>wpList_nil<|hK5 _ _<|sq fun _ hK6=>sq fun _ hK7=>?_
 have s3:=Sep.snocNil (s2.ownNil 0 35 20)
 have s4:Sep w3 [ownC 0 35 20 none ([]:List EvM).length 0 (([]:List EvM).flatMap evC),blkC df 48 [.slice nax31 fs0.N.length ncx32,.slice none fs0.E.length 0,.slice none fs0.O.length 0],ownC 0 50 3 nax31 fs0.N.length ncx32 (fs0.N.flatMap nodC),ownC 0 79 3 none fs0.E.length 0 (fs0.E.flatMap entC),ownC 0 73 3 none fs0.O.length 0 (fs0.O.flatMap opnC),ownC 0 35 20 iax17 ((List.range n).map (fun t=>cutA (f t))).length icx18 (((List.range n).map (fun t=>cutA (f t))).flatMap evA),oldC W W.heap.size,blkC g4 28 [.int .i64 ot.e,.int .i64 ot.fd,.string (strB ot.data),.slice xa ot.names.length xc,.int .i64 ot.kind,.int .i64 ot.links,.int .i64 ot.size],Ch.many []]:=s3
 refine wp_region_lit<|mv h12 rfl fun _ h13=>wpList_nil<|hK7 _ _<|wp_block ?_
 refine wp_loop3 (fun (j:Nat) (V:LpV) (D:DocA) a' w'=>Kn 107 [(9,.int .i64 (j:Int)),(8,.slice V.oa V.O.length V.oc),(7,.pointer (some ⟨df,0,none⟩)),(0,.slice iax17 n icx18),(6,.bool false),(5,.pointer (some ⟨g4,0,none⟩)),(1,.int .i64 pt),(2,.agg #[.int .i64 ot.e,.int .i64 ot.fd,.string (strB ot.data),.slice xa ot.names.length xc,.int .i64 ot.kind,.int .i64 ot.links,.int .i64 ot.size])] a'∧Sep w' [blkC g4 28 [.int .i64 ot.e,.int .i64 ot.fd,.string (strB ot.data),.slice xa ot.names.length xc,.int .i64 ot.kind,.int .i64 ot.links,.int .i64 ot.size],ownC 0 35 20 iax17 ((List.range n).map (fun t=>cutA (f t))).length icx18 (((List.range n).map (fun t=>cutA (f t))).flatMap evA),blkC df 48 [.slice D.na ((docF f j).N.length) D.nc,.slice D.ea ((docF f j).E.length) D.ec,.slice D.oa ((docF f j).O.length) D.oc],ownC 0 50 3 D.na ((docF f j).N).length D.nc (((docF f j).N).flatMap nodC),ownC 0 79 3 D.ea ((docF f j).E).length D.ec (((docF f j).E).flatMap entC),ownC 0 73 3 D.oa ((docF f j).O).length D.oc (((docF f j).O).flatMap opnC),ownC 0 35 20 V.oa V.O.length V.oc (V.O.flatMap evC),oldC W W.heap.size,Ch.many V.Rs]∧(V.O.length=j)∧(OwnsE f V.O j)∧(∀ q,q<j→nmC (V.O.getD q nilEv)∈V.Rs)∧(j≤n)) (fun (j:Nat) (V:LpV) (D:DocA)=>n-j) 0 ⟨[],none,0,[]⟩ ⟨nax31,ncx32,none,0,none,0⟩ ⟨h13.subs rfl,(s4.pk [7,5,1,2,3,4,0,6,8] rfl),rfl,fun _ h=>absurd h (by omega),fun _ h=>absurd h (by omega),Nat.zero_le _⟩ ?_
 rintro j61 V62 D63 a1 w4 ⟨h14,s5,hl57,hO58,hN59,hj60⟩ K1 hK8
 refine sq fun _ hK9=>sqr fun _ hK10=>mvs 2 h14 rfl fun _ h15=>sv1 h15 rfl (v:=.int .i64 (n:Int)) (rlenS h15 rfl rfl Tryz.underlying22) fun _ h16=>bv h16 (z:=.bool (decide ((j61:Int)<(n:Int)))) rfl (cLt _ _ _ _ rfl) fun _ h17=>h17.sn [23,9,8,7,0,6,5,1,2] rfl fun h18=>hK10 _ _ ?_
 rcases bC (decide ((j61:Int)<(n:Int))) with hc1 | hc1
 ·skip
  have hp1:(j61:Int)<(n:Int):=(dT hc1)
  refine wcT h18 rfl hc1<|h18.sk [9,8,7,0,6,5,1,2] rfl fun h19=>wp_skip<|hK9 _ _<|sq fun _ hK11=>wp_block ?_
  refine sqr fun _ hK12=>mvs 2 h19 rfl fun _ h20=>?_
  obtain ⟨q84,hq1⟩:=own_addr (s5.get 1 rfl:Own _ _ _ _ _ _ _ _)
  refine sv1 h20 rfl (v:=.pointer (some ⟨q84,j61*20,none⟩)) (rindexA h20 rfl rfl rfl (fun w=>ixO Tryz.underlying22 (by kernel_rfl) (sz:=20) (hq1 (by omega)) (j:=j61) rfl (by omega) (by omega) w)) fun _ h21=>sw1 h21 rfl (v:=.agg #[.int .i64 ((f j61).cl),.int .i64 ((f j61).num),.int .i64 ((cutK (f j61).x).kind),.string (strB ((cutK (f j61).x).p1)),.string (strB ((cutK (f j61).x).p2)),.int .i64 ((cutK (f j61).x).fl),.int .i64 ((cutK (f j61).x).fd),.int .i64 ((cutK (f j61).x).off),.int .i64 ((cutK (f j61).x).n),.string (strB ((cutK (f j61).x).data)),.int .i64 ((f j61).asked),.int .i64 ((f j61).done),.int .i64 ((f j61).told),.int .i64 ((f j61).e),.int .i64 ((f j61).fd),.string (strB ((f j61).data.take 80)),.slice ((f j61).na) ((cutA (f j61)).nn) ((f j61).nc),.int .i64 ((f j61).kind),.int .i64 ((f j61).links),.int .i64 ((f j61).size)]) (rld h21 rfl rfl (by have z:=ldOS (P:=Tryz.prog) evA_len Tryz.underlying35 rfl (by kernel_rfl) (s5.get 1 rfl:Own _ _ _ _ _ _ _ _) (hq1 (by rw [hfl];omega)) nilA (j:=j61) (o:=j61*20) (by rw [hfl];omega) rfl;rw [map_getD (by omega)] at z;exact z)) fun _ h22=>so (wanted_none rfl) fun _ hK13=>xalloc h22 rfl rfl rfl rfl (z:=[.int .i64 0,.int .i64 0,.int .i64 0,.string (strB []),.string (strB []),.int .i64 0,.int .i64 0,.int .i64 0,.int .i64 0,.string (strB []),.int .i64 0,.int .i64 0,.int .i64 0,.int .i64 0,.int .i64 0,.string (strB []),.slice none 0 0,.int .i64 0,.int .i64 0,.int .i64 0]) (fun _=>rfl) s5 fun _ g1 w5 h23 s6 _ _=>hK13 _ _ ?_
  refine stA h23 s6 0 rfl rfl rfl (by kernel_rfl) rfl rfl rfl rfl fun _ w6 h24 s7 _=>h24.sn [10,9,8,7,0,6,5,1,2] rfl fun h25=>hK12 _ _<|sqr fun _ hK14=>mv h25 rfl fun _ h26=>bv h26 (z:=.int .i64 ((j61+1:Nat):Int)) rfl (bAdd _ _ _ (by omega) (by omega) (by omega)) fun _ h27=>fav h27 rfl (fa_api_Event_x20_1 _ _) fun _ h28=>st1 h28 s7 0 rfl rfl (by kernel_rfl) rfl rfl rfl rfl fun _ w8 h29 s9 _=>h29.sn [10,9,8,7,0,6,5,1,2] rfl fun h30=>hK14 _ _ ?_
  refine sqr fun _ hK15=>mv h30 rfl fun _ h31=>bv h31 (z:=.int .i64 ((3*j61:Nat):Int)) rfl (bMul _ _ _ (by omega) (by omega) (by omega)) fun _ h32=>bv h32 (z:=.int .i64 ((3*j61+1:Nat):Int)) rfl (bAdd _ _ _ (by omega) (by omega) (by omega)) fun _ h33=>fav h33 rfl (fa_api_Event_x20_3 _ _) fun _ h34=>st1 h34 s9 0 rfl rfl (by kernel_rfl) rfl rfl rfl rfl fun _ w9 h35 s10 _=>h35.sn [10,9,8,7,0,6,5,1,2] rfl fun h36=>hK15 _ _<|sqr fun _ hK16=>mv h36 rfl fun _ h37=>?_
  refine bv h37 (z:=.int .i64 ((3*j61:Nat):Int)) rfl (bMul _ _ _ (by omega) (by omega) (by omega)) fun _ h38=>bv h38 (z:=.int .i64 ((3*j61+2:Nat):Int)) rfl (bAdd _ _ _ (by omega) (by omega) (by omega)) fun _ h39=>fav h39 rfl (fa_api_Event_x20_4 _ _) fun _ h40=>st1 h40 s10 0 rfl rfl (by kernel_rfl) rfl rfl rfl rfl fun _ w10 h41 s11 _=>h41.sn [10,9,8,7,0,6,5,1,2] rfl fun h42=>hK16 _ _<|sqr fun _ hK17=>mv h42 rfl fun _ h43=>bv h43 (z:=.int .i64 ((3*j61:Nat):Int)) rfl (bMul _ _ _ (by omega) (by omega) (by omega)) fun _ h44=>bv h44 (z:=.int .i64 ((3*j61+3:Nat):Int)) rfl (bAdd _ _ _ (by omega) (by omega) (by omega)) fun _ h45=>?_
  refine fav h45 rfl (fa_api_Event_x20_5 _ _) fun _ h46=>st1 h46 s11 0 rfl rfl (by kernel_rfl) rfl rfl rfl rfl fun _ w11 h47 s12 _=>h47.sn [10,9,8,7,0,6,5,1,2] rfl fun h48=>hK17 _ _<|sqr fun _ hK18=>mv h48 rfl fun _ h49=>fav h49 rfl (fa_api_Event_x20_0 _ _) fun _ h50=>ldv h50 s12 0 Tryz.underlying3 rfl rfl rfl rfl fun _ h51=>fav h51 rfl (fa_api_Event_x20_2 _ _) fun _ h52=>sw1 h52 rfl (v:=.agg #[.int .i64 ((cutK (f j61).x).kind),.string (strB ((cutK (f j61).x).p1)),.string (strB ((cutK (f j61).x).p2)),.int .i64 ((cutK (f j61).x).fl),.int .i64 ((cutK (f j61).x).fd),.int .i64 ((cutK (f j61).x).off),.int .i64 ((cutK (f j61).x).n),.string (strB ((cutK (f j61).x).data))]) (rld h52 rfl rfl (ldA Tryz.underlying33 rfl (n:=8) (by kernel_rfl) (s12.get 0 rfl:Blk _ _ _ _) rfl rfl)) fun _ h53=>?_
  refine cl h53 rfl cz_commonsref06_Fs_Do (doRef_s (F:=(docF f j61)) (c:=(f j61).cl) (x:=cutK (f j61).x) (s12.pk [3,4,5,6,0,1,2,7,8,9] rfl) ((docF_sz f j61).ss (by omega)) (docF_ok f j61) (cutK_1 _) (cutK_2 _) (cutK_3 _)) fun _ v3 w12 r3 h54=>?_
  obtain ⟨tax178,tcx179,nax180,ncx181,eax182,ecx183,oax184,ocx185,rfl,s13⟩:=r3
  refine fav h54 rfl (fa_api_Event_x20_6 _ _) fun _ h55=>stM h55 s13 5 (vs:=[.int .i64 ((docR f j61).e),.int .i64 ((docR f j61).fd),.string (strB ((docR f j61).data)),.slice tax178 ((docR f j61).names.length) tcx179,.int .i64 ((docR f j61).kind),.int .i64 ((docR f j61).links),.int .i64 ((docR f j61).size)]) (L':=[.int .i64 ((f j61).cl),.int .i64 ((j61+1:Nat):Int),.int .i64 ((cutK (f j61).x).kind),.string (strB ((cutK (f j61).x).p1)),.string (strB ((cutK (f j61).x).p2)),.int .i64 ((cutK (f j61).x).fl),.int .i64 ((cutK (f j61).x).fd),.int .i64 ((cutK (f j61).x).off),.int .i64 ((cutK (f j61).x).n),.string (strB ((cutK (f j61).x).data)),.int .i64 ((3*j61+1:Nat):Int),.int .i64 ((3*j61+2:Nat):Int),.int .i64 ((3*j61+3:Nat):Int),.int .i64 ((docR f j61).e),.int .i64 ((docR f j61).fd),.string (strB ((docR f j61).data)),.slice tax178 ((docR f j61).names.length) tcx179,.int .i64 ((docR f j61).kind),.int .i64 ((docR f j61).links),.int .i64 ((docR f j61).size)]) rfl rfl rfl (by kernel_rfl) rfl (by show 13+7≤20;decide) rfl rfl fun _ w13 h56 s14 _=>h56.sn [10,9,8,7,0,6,5,1,2] rfl fun h57=>hK18 _ _<|wp_region_lit<|mv h57 rfl fun _ h58=>sw1 h58 rfl (v:=.agg #[.int .i64 ((f j61).cl),.int .i64 ((j61+1:Nat):Int),.int .i64 ((cutK (f j61).x).kind),.string (strB ((cutK (f j61).x).p1)),.string (strB ((cutK (f j61).x).p2)),.int .i64 ((cutK (f j61).x).fl),.int .i64 ((cutK (f j61).x).fd),.int .i64 ((cutK (f j61).x).off),.int .i64 ((cutK (f j61).x).n),.string (strB ((cutK (f j61).x).data)),.int .i64 ((3*j61+1:Nat):Int),.int .i64 ((3*j61+2:Nat):Int),.int .i64 ((3*j61+3:Nat):Int),.int .i64 ((docR f j61).e),.int .i64 ((docR f j61).fd),.string (strB ((docR f j61).data)),.slice tax178 ((docR f j61).names.length) tcx179,.int .i64 ((docR f j61).kind),.int .i64 ((docR f j61).links),.int .i64 ((docR f j61).size)]) (rld h58 rfl rfl (ldA Tryz.underlying35 rfl (n:=20) (by kernel_rfl) (s14.get 5 rfl:Blk _ _ _ _) rfl rfl)) fun _ h59=>so (wanted_none rfl) fun _ hK19=>xbuildS h59 rfl rfl rfl (E:=35) (xs:=[(0,.tmp 53)]) rfl (vs:=[(0,.agg #[.int .i64 ((f j61).cl),.int .i64 ((j61+1:Nat):Int),.int .i64 ((cutK (f j61).x).kind),.string (strB ((cutK (f j61).x).p1)),.string (strB ((cutK (f j61).x).p2)),.int .i64 ((cutK (f j61).x).fl),.int .i64 ((cutK (f j61).x).fd),.int .i64 ((cutK (f j61).x).off),.int .i64 ((cutK (f j61).x).n),.string (strB ((cutK (f j61).x).data)),.int .i64 ((3*j61+1:Nat):Int),.int .i64 ((3*j61+2:Nat):Int),.int .i64 ((3*j61+3:Nat):Int),.int .i64 ((docR f j61).e),.int .i64 ((docR f j61).fd),.string (strB ((docR f j61).data)),.slice tax178 ((docR f j61).names.length) tcx179,.int .i64 ((docR f j61).kind),.int .i64 ((docR f j61).links),.int .i64 ((docR f j61).size)])]) rfl (z:=[.int .i64 ((f j61).cl),.int .i64 ((j61+1:Nat):Int),.int .i64 ((cutK (f j61).x).kind),.string (strB ((cutK (f j61).x).p1)),.string (strB ((cutK (f j61).x).p2)),.int .i64 ((cutK (f j61).x).fl),.int .i64 ((cutK (f j61).x).fd),.int .i64 ((cutK (f j61).x).off),.int .i64 ((cutK (f j61).x).n),.string (strB ((cutK (f j61).x).data)),.int .i64 ((3*j61+1:Nat):Int),.int .i64 ((3*j61+2:Nat):Int),.int .i64 ((3*j61+3:Nat):Int),.int .i64 ((docR f j61).e),.int .i64 ((docR f j61).fd),.string (strB ((docR f j61).data)),.slice tax178 ((docR f j61).names.length) tcx179,.int .i64 ((docR f j61).kind),.int .i64 ((docR f j61).links),.int .i64 ((docR f j61).size)]) (fun _=>by kernel_rfl) s14 fun _ g2 w14 h60 s15 _ _=>hK19 _ _ ?_
  refine so (wanted_none rfl) fun _ hK20=>xappS evC_len h60 rfl rfl rfl rfl EEv s15 9 rfl rfl 0 (y:=(ownE f j61 tax178 tcx179)) rfl rfl rfl (by decide) (by omega) (L':=V62.O++[(ownE f j61 tax178 tcx179)]) rfl fun _ p214 c215 w15 h61 s16=>hK20 _ _ ?_
  have s17:=s16.pk [1,2,3,4,5,6,7,8,9,10,11] rfl;clear s16
  refine h61.sk [55,54,53,52,10,9,7,0,6,5,1,2] rfl fun h62=>mv h62 rfl fun _ h63=>h63.sn [8,10,9,7,0,6,5,1,2] rfl fun h64=>hK11 _ _<|wp_region_lit<|mv h64 rfl fun _ h65=>bv h65 (z:=.int .i64 ((j61+1:Nat):Int)) rfl (bAdd _ _ _ (by omega) (by omega) (by omega)) fun _ h66=>h66.sk [25,24,8,10,7,0,6,5,1,2] rfl fun h67=>mv h67 rfl fun _ h68=>h68.sk [9,8,10,7,0,6,5,1,2] rfl fun h69=>?_
  refine wpList_nil ?_
  exact hK8 (j61+1) (⟨V62.O++[(ownE f j61 tax178 tcx179)],p214,c215,nmC (ownE f j61 tax178 tcx179)::V62.Rs⟩:LpV) (⟨nax180,ncx181,eax182,ecx183,oax184,ocx185⟩:DocA) _ _ ⟨h69.subs rfl,(Sep.many_cons (xs:=[_,_,_,_,_,_,_,_]) (s17.pk [6,7,1,2,3,4,8,9,0,10] rfl)),(by rw [List.length_append];show V62.O.length+1=_;omega),(OwnsE.snoc hO58 hl57 _ _),(nm_snoc hN59 hl57),by omega⟩ (by omega)
 ·skip
  have hp2:¬ ((j61:Int)<(n:Int)):=(dF hc1)
  refine wcF h18 rfl hc1<|h18.sk [9,8,7,0,6,5,1,2] rfl fun h70=>wp_exit ?_
  refine hK6 _ _ ?_
  refine sqr fun _ hK21=>mv h70 rfl fun _ h71=>?_
  have hb239:=ext_own evC_len nilEv (s5.get 6 rfl:Own _ _ _ _ _ _ _ _) (own_capM (s5.get 6 rfl:Own _ _ _ _ _ _ _ _))
  have hw240:=own_wf hO58 hN59 (s5.get 8 rfl:Sep _ _) (fun q hq=>hfd q (by omega))
  have hle:V62.O.length=j61:=hl57
  refine cl h71 rfl cp_audit_Run_x20 (runS_s (L:=V62.O) s5 hb239 (by omega) (hle ▸ own_rise hO58) (hle ▸ hw240)) fun _ v4 w16 r4 h72=>?_
  obtain ⟨cfx241,Mx242,rfl,s18,hM247⟩:=r4
  have hv250:Mx242=0:=hM247.trans (wr_own hO58 _ (by omega))
  refine mvs 5 h72 rfl fun _ h73=>h73.sn [12,9,8,7,0,6,5,1,2] rfl fun h74=>hK21 _ _<|sq fun _ hK22=>sqr fun _ hK23=>mv h74 rfl fun _ h75=>bv h75 rfl (cNe _ _ _ _ (decide_eq_false (by omega))) fun _ h76=>h76.sn [62,12,9,8,7,0,6,5,1,2] rfl fun h77=>hK23 _ _<|wcF h77 rfl rfl<|h77.sk [12,9,8,7,0,6,5,1,2] rfl fun h78=>?_
  refine wp_skip<|hK22 _ _<|sq fun _ hK24=>sqr fun _ hK25=>mv h78 rfl fun _ h79=>sv1 h79 rfl (v:=.int .i64 (V62.O.length:Int)) (rlenS h79 rfl rfl Tryz.underlying22) fun _ h80=>bv h80 (z:=.bool (decide ((V62.O.length:Int)=0))) rfl (cEq _ _ _ _ rfl) fun _ h81=>h81.sn [65,12,9,8,7,0,6,5,1,2] rfl fun h82=>hK25 _ _ ?_
  rcases bC (decide ((V62.O.length:Int)=0)) with hc2 | hc2
  ·skip
   have hp3:(V62.O.length:Int)=0:=(dT hc2)
   refine wcT h82 rfl hc2<|h82.sk [12,9,8,7,0,6,5,1,2] rfl fun h83=>sqr fun _ hK26=>cl h83 rfl cp_commonslaw25_lives_x20 (livesX_s s18) fun _ v5 w17 r5 h84=>?_
   obtain ⟨rfl,s19⟩:=r5
   refine h84.sk [66,12,9,8,7,0,5,1,2] rfl fun h85=>mv h85 rfl fun _ h86=>h86.sn [6,12,9,8,7,0,5,1,2] rfl fun h87=>hK26 _ _<|wp_ret ?_
   try simp only [Exit.then,Exit.inBlock]
   refine retR (v:=.bool true) (res1 h87 rfl rfl) h87.defs ?_
   exact ⟨rfl,(s19.get 7 rfl:Below _ _ _∧_).1⟩
  ·skip
   have hp4:¬ ((V62.O.length:Int)=0):=(dF hc2)
   refine wcF h82 rfl hc2<|h82.sk [12,9,8,7,0,6,5,1,2] rfl fun h88=>wp_skip<|hK24 _ _<|sq fun K2 hK27=>?_
   have hJ297:∀ (z:Int) a' w',Kn 107 [(12,.int .i64 Mx242),(9,.int .i64 (j61:Int)),(8,.slice V62.oa V62.O.length V62.oc),(7,.pointer (some ⟨df,0,none⟩)),(0,.slice iax17 n icx18),(6,.bool false),(5,.pointer (some ⟨g4,0,none⟩)),(1,.int .i64 z),(2,.agg #[.int .i64 ot.e,.int .i64 ot.fd,.string (strB ot.data),.slice xa ot.names.length xc,.int .i64 ot.kind,.int .i64 ot.links,.int .i64 ot.size])] a'→Sep w' [blkC g4 28 [.int .i64 ot.e,.int .i64 ot.fd,.string (strB ot.data),.slice xa ot.names.length xc,.int .i64 ot.kind,.int .i64 ot.links,.int .i64 ot.size],ownC 0 35 20 iax17 ((List.range n).map (fun t=>cutA (f t))).length icx18 (((List.range n).map (fun t=>cutA (f t))).flatMap evA),blkC df 48 [.slice D63.na ((docF f j61).N.length) D63.nc,.slice D63.ea ((docF f j61).E.length) D63.ec,.slice D63.oa ((docF f j61).O.length) D63.oc],ownC 0 50 3 D63.na ((docF f j61).N).length D63.nc (((docF f j61).N).flatMap nodC),ownC 0 79 3 D63.ea ((docF f j61).E).length D63.ec (((docF f j61).E).flatMap entC),ownC 0 73 3 D63.oa ((docF f j61).O).length D63.oc (((docF f j61).O).flatMap opnC),ownC 0 35 20 V62.oa V62.O.length V62.oc (V62.O.flatMap evC),oldC W W.heap.size,Ch.many V62.Rs]→(0≤z∧z≤9223372036854775807)→K2 a' w':=by
    intro z a2 w18 h89 s20 hz
    refine hK27 _ _ ?_
    refine sqr fun _ hK28=>mvs 2 h89 rfl fun _ h90=>sv1 h90 rfl (v:=.int .i64 (V62.O.length:Int)) (rlenS h90 rfl rfl Tryz.underlying22) fun _ h91=>?_
    obtain ⟨k,hk,hkl⟩:=tmod_nat (z:=z) (n:=V62.O.length) (by omega) (by omega)
    refine bv h91 (z:=.int .i64 (k:Int)) rfl (bRem _ _ _ (by omega) hk) fun _ h92=>mv h92 rfl fun _ h93=>h93.sn [13,12,9,8,7,0,6,5,1,2] rfl fun h94=>hK28 _ _<|sq fun _ hK29=>?_
    have s21:=s20.drew
    refine wp_region_held_drew (S:=fun w'=>Sep w' [blkC g4 28 [.int .i64 ot.e,.int .i64 ot.fd,.string (strB ot.data),.slice xa ot.names.length xc,.int .i64 ot.kind,.int .i64 ot.links,.int .i64 ot.size],ownC 0 35 20 iax17 ((List.range n).map (fun t=>cutA (f t))).length icx18 (((List.range n).map (fun t=>cutA (f t))).flatMap evA),blkC df 48 [.slice D63.na ((docF f j61).N.length) D63.nc,.slice D63.ea ((docF f j61).E.length) D63.ec,.slice D63.oa ((docF f j61).O.length) D63.oc],ownC 0 50 3 D63.na ((docF f j61).N).length D63.nc (((docF f j61).N).flatMap nodC),ownC 0 79 3 D63.ea ((docF f j61).E).length D63.ec (((docF f j61).E).flatMap entC),ownC 0 73 3 D63.oa ((docF f j61).O).length D63.oc (((docF f j61).O).flatMap opnC),ownC 0 35 20 V62.oa V62.O.length V62.oc (V62.O.flatMap evC),oldC W W.heap.size,Ch.many V62.Rs]) (by kernel_rfl) s21 (fun hq2=>?_)
    refine tv1 hq2 h94 0 rfl rfl (v:=.slice V62.oa V62.O.length V62.oc) (fun w1 _=>(rmove h94 rfl rfl) w1) fun _ h95=>?_
    refine tv1 hq2 h95 1 rfl rfl (v:=.int .i64 (k:Int)) (fun w1 _=>(rmove h95 rfl rfl) w1) fun _ h96=>?_
    obtain ⟨q321,hq3⟩:=own_addr (s21.get 6 rfl:Own _ _ _ _ _ _ _ _)
    refine tv1 hq2 h96 2 rfl rfl (v:=.pointer (some ⟨q321,k*20,none⟩)) (fun w1 _=>(rindexA h96 rfl rfl rfl (fun w=>ixO Tryz.underlying22 (by kernel_rfl) (sz:=20) (hq3 (by omega)) (j:=k) rfl (by omega) (by omega) w)) w1) fun _ h97=>?_
    refine tv1 hq2 h97 3 rfl rfl (v:=.pointer (some ⟨q321,k*20+13,none⟩)) (fun w1 _=>(rfa h97 rfl rfl (fun w=>fa_api_Event_x20_6 q321 (k*20) w)) w1) fun _ h98=>?_
    refine tv1 hq2 h98 4 rfl rfl (v:=.agg #[.int .i64 ((V62.O.getD k nilEv).r.e),.int .i64 ((V62.O.getD k nilEv).r.fd),.string (strB ((V62.O.getD k nilEv).r.data)),.slice ((V62.O.getD k nilEv).na) ((V62.O.getD k nilEv).r.names.length) ((V62.O.getD k nilEv).nc),.int .i64 ((V62.O.getD k nilEv).r.kind),.int .i64 ((V62.O.getD k nilEv).r.links),.int .i64 ((V62.O.getD k nilEv).r.size)]) (fun w1 hSw=>(rld h98 rfl rfl (ldOSq (P:=Tryz.prog) (m:=7) evC_len Tryz.underlying28 rfl (by kernel_rfl) (hSw.get 6 rfl:Own _ _ _ _ _ _ _ _) (hq3 (by omega)) nilEv (j:=k) (i:=13) (by omega) (by decide) rfl (cs:=[.int .i64 ((V62.O.getD k nilEv).r.e),.int .i64 ((V62.O.getD k nilEv).r.fd),.string (strB ((V62.O.getD k nilEv).r.data)),.slice ((V62.O.getD k nilEv).na) ((V62.O.getD k nilEv).r.names.length) ((V62.O.getD k nilEv).nc),.int .i64 ((V62.O.getD k nilEv).r.kind),.int .i64 ((V62.O.getD k nilEv).r.links),.int .i64 ((V62.O.getD k nilEv).r.size)]) rfl))) fun _ h99=>?_
    refine tv1 hq2 h99 5 rfl rfl (v:=.agg #[.int .i64 ot.e,.int .i64 ot.fd,.string (strB ot.data),.slice xa ot.names.length xc,.int .i64 ot.kind,.int .i64 ot.links,.int .i64 ot.size]) (fun w1 hSw=>(rld h99 rfl rfl (ldA Tryz.underlying28 rfl (n:=7) (by kernel_rfl) (hSw.get 0 rfl:Blk _ _ _ _) rfl rfl))) fun _ h100=>?_
    have hxk:=nm_ext (s21.get 8 rfl:Sep _ _) (hN59 k (by omega))
    have hxo:=rbx.later (s21.get 7 rfl:Below _ _ _∧_).1
    have hsl:(V62.O.getD k nilEv).r.names.length≤100000:=by obtain ⟨a9,c9,e9⟩:=hO58 k (by omega);rw [e9];exact Nat.le_trans (do_names _ _) (Nat.le_trans (docF_sz f k).2.1 (by omega))
    refine to_ 6 rfl (wanted_none rfl) (by kernel_rfl) fun _ hK30=>xcall h100 rfl rfl rfl (xs:=[.tmp 80,.tmp 81]) rfl cz_commonsref06_SameReply rfl (vs:=[.agg #[.int .i64 ((V62.O.getD k nilEv).r.e),.int .i64 ((V62.O.getD k nilEv).r.fd),.string (strB ((V62.O.getD k nilEv).r.data)),.slice ((V62.O.getD k nilEv).na) ((V62.O.getD k nilEv).r.names.length) ((V62.O.getD k nilEv).nc),.int .i64 ((V62.O.getD k nilEv).r.kind),.int .i64 ((V62.O.getD k nilEv).r.links),.int .i64 ((V62.O.getD k nilEv).r.size)],.agg #[.int .i64 ot.e,.int .i64 ot.fd,.string (strB ot.data),.slice xa ot.names.length xc,.int .i64 ot.kind,.int .i64 ot.links,.int .i64 ot.size]]) rfl (args:=#[.agg #[.int .i64 ((V62.O.getD k nilEv).r.e),.int .i64 ((V62.O.getD k nilEv).r.fd),.string (strB ((V62.O.getD k nilEv).r.data)),.slice ((V62.O.getD k nilEv).na) ((V62.O.getD k nilEv).r.names.length) ((V62.O.getD k nilEv).nc),.int .i64 ((V62.O.getD k nilEv).r.kind),.int .i64 ((V62.O.getD k nilEv).r.links),.int .i64 ((V62.O.getD k nilEv).r.size)],.agg #[.int .i64 ot.e,.int .i64 ot.fd,.string (strB ot.data),.slice xa ot.names.length xc,.int .i64 ot.kind,.int .i64 ot.links,.int .i64 ot.size]]) rfl (sameS_s (r:=(V62.O.getD k nilEv).r) (s:=ot) s21 hxk hxo hsl) fun _ v6 w19 r6 h101=>?_
    obtain ⟨rfl,s22⟩:=r6
    refine hK30 _ _ s22 fun hq4=>?_
    refine tv1 hq4 h101 7 rfl rfl (v:=.bool (sameR (V62.O.getD k nilEv).r ot)) (fun w1 _=>(rassign h101 rfl rfl) w1) fun _ h102=>?_
    refine h102.sk [14,13,12,9,8,7,0,6,5,1,2] rfl fun h103=>?_
    refine wpAnyH_done (by kernel_rfl) ?_ _
    refine hK29 _ _ ?_
    refine sq fun _ hK31=>sqr fun _ hK32=>mvs 2 h103 rfl fun _ h104=>?_
    rcases bC (sameR (V62.O.getD k nilEv).r ot) with hc3 | hc3
    ·skip
     refine su h104 ((wF h104 rfl rfl rfl).trans (bNotT hc3)) rfl rfl rfl fun _ h105=>su h105 ((wF h105 rfl rfl rfl).trans (bNotT hc3)) rfl rfl rfl fun _ h106=>su h106 ((wF h106 rfl rfl rfl).trans (bNotT hc3)) rfl rfl rfl fun _ h107=>sv1 h107 rfl (v:=.bool true) (rpickE h107 rfl (E:=(sameR (V62.O.getD k nilEv).r ot)) (b:=true) rfl hc3 rfl) fun _ h108=>h108.sn [88,14,13,12,9,8,7,0,6,5,1,2] rfl fun h109=>hK32 _ _<|wcT h109 rfl rfl<|h109.sk [14,13,12,9,8,7,0,6,5,1,2] rfl fun h110=>sqr fun _ hK33=>cl h110 rfl cp_commonslaw25_lives_x20 (livesX_s s22) fun _ v7 w20 r7 h111=>?_
     obtain ⟨rfl,s23⟩:=r7
     refine h111.sk [89,14,13,12,9,8,7,0,5,1,2] rfl fun h112=>mv h112 rfl fun _ h113=>h113.sn [6,14,13,12,9,8,7,0,5,1,2] rfl fun h114=>hK33 _ _<|wp_ret ?_
     try simp only [Exit.then,Exit.inBlock]
     refine retR (v:=.bool true) (res1 h114 rfl rfl) h114.defs ?_
     exact ⟨rfl,(s23.get 7 rfl:Below _ _ _∧_).1⟩
    ·skip
     have hsm:=hc3
     refine sv h104 ((wF h104 rfl rfl rfl).trans (bNotF hc3)) rfl rfl rfl (v:=.pointer (some ⟨g4,0,none⟩)) (rfa h104 rfl rfl (fun w=>fz_api_Reply_0 g4 0 w)) fun _ h115=>sw h115 ((wF h115 rfl rfl rfl).trans (bNotF hc3)) rfl rfl rfl (v:=.int .i64 ot.e) (rld h115 rfl rfl (ldB Tryz.underlying23 rfl (s22.get 0 rfl:Blk _ _ _ _) rfl)) fun _ h116=>sv h116 ((wF h116 rfl rfl rfl).trans (bNotF hc3)) rfl rfl rfl (v:=.bool (decide (ot.e=18))) (rbin h116 rfl rfl rfl (cEq _ _ _ _ rfl)) fun _ h117=>sv1 h117 rfl (v:=.bool (decide (ot.e=18))) (rpickE h117 rfl (E:=(sameR (V62.O.getD k nilEv).r ot)) (b:=false) rfl hc3 rfl) fun _ h118=>h118.sn [88,14,13,12,9,8,7,0,6,5,1,2] rfl fun h119=>hK32 _ _ ?_
     rcases bC (decide (ot.e=18)) with hc4 | hc4
     ·skip
      have hp5:ot.e=18:=(dT hc4)
      refine wcT h119 rfl hc4<|h119.sk [14,13,12,9,8,7,0,6,5,1,2] rfl fun h120=>sqr fun _ hK34=>cl h120 rfl cp_commonslaw25_lives_x20 (livesX_s s22) fun _ v8 w21 r8 h121=>?_
      obtain ⟨rfl,s24⟩:=r8
      refine h121.sk [89,14,13,12,9,8,7,0,5,1,2] rfl fun h122=>mv h122 rfl fun _ h123=>h123.sn [6,14,13,12,9,8,7,0,5,1,2] rfl fun h124=>hK34 _ _<|wp_ret ?_
      try simp only [Exit.then,Exit.inBlock]
      refine retR (v:=.bool true) (res1 h124 rfl rfl) h124.defs ?_
      exact ⟨rfl,(s24.get 7 rfl:Below _ _ _∧_).1⟩
     ·skip
      have hp6:¬ (ot.e=18):=(dF hc4)
      refine wcF h119 rfl hc4<|h119.sk [14,13,12,9,8,7,0,6,5,1,2] rfl fun h125=>wp_skip<|hK31 _ _<|sqr fun _ hK35=>mvs 2 h125 rfl fun _ h126=>sw1 h126 rfl (v:=.agg #[.int .i64 ot.e,.int .i64 ot.fd,.string (strB ot.data),.slice xa ot.names.length xc,.int .i64 ot.kind,.int .i64 ot.links,.int .i64 ot.size]) (rld h126 rfl rfl (ldA Tryz.underlying28 rfl (n:=7) (by kernel_rfl) (s22.get 0 rfl:Blk _ _ _ _) rfl rfl)) fun _ h127=>sv1 h127 rfl (v:=.pointer (some ⟨q321,k*20,none⟩)) (rindexA h127 rfl rfl rfl (fun w=>ixO Tryz.underlying22 (by kernel_rfl) (sz:=20) (hq3 (by omega)) (j:=k) rfl (by omega) (by omega) w)) fun _ h128=>sv1 h128 rfl (v:=.pointer (some ⟨q321,k*20+13,none⟩)) (rfa h128 rfl rfl (fun w=>fa_api_Event_x20_6 q321 (k*20) w)) fun _ h129=>so (wanted_none rfl) fun _ hK36=>xstoreE h129 rfl rfl s22 6 rfl (hq3 (by omega)) (j:=k) rfl (r:=ot) (na:=xa) (nc:=xc) rfl (by omega) fun _ w22 h130 s25=>hK36 _ _ ?_
      have hsl2:(V62.O.set k (setR (V62.O.getD k nilEv) ot xa xc)).length=V62.O.length:=List.length_set
      have s26:Sep w22 [blkC g4 28 [.int .i64 ot.e,.int .i64 ot.fd,.string (strB ot.data),.slice xa ot.names.length xc,.int .i64 ot.kind,.int .i64 ot.links,.int .i64 ot.size],ownC 0 35 20 iax17 ((List.range n).map (fun t=>cutA (f t))).length icx18 (((List.range n).map (fun t=>cutA (f t))).flatMap evA),blkC df 48 [.slice D63.na ((docF f j61).N.length) D63.nc,.slice D63.ea ((docF f j61).E.length) D63.ec,.slice D63.oa ((docF f j61).O.length) D63.oc],ownC 0 50 3 D63.na ((docF f j61).N).length D63.nc (((docF f j61).N).flatMap nodC),ownC 0 79 3 D63.ea ((docF f j61).E).length D63.ec (((docF f j61).E).flatMap entC),ownC 0 73 3 D63.oa ((docF f j61).O).length D63.oc (((docF f j61).O).flatMap opnC),ownC 0 35 20 V62.oa (V62.O.set k (setR (V62.O.getD k nilEv) ot xa xc)).length V62.oc ((V62.O.set k (setR (V62.O.getD k nilEv) ot xa xc)).flatMap evC),oldC W W.heap.size,Ch.many V62.Rs]:=by rw [hsl2];exact s25
      rw [← hsl2] at h130
      refine h130.sn [14,13,12,9,8,7,0,6,5,1,2] rfl fun h131=>hK35 _ _<|sqr fun _ hK37=>mv h131 rfl fun _ h132=>?_
      have hb420:=ext_own evC_len nilEv (s26.get 6 rfl:Own _ _ _ _ _ _ _ _) (own_capM (s26.get 6 rfl:Own _ _ _ _ _ _ _ _))
      have hw421:=own_wf hO58 hN59 (s26.get 8 rfl:Sep _ _) (fun q hq=>hfd q (by omega))
      have hxw:=rbx.later (s26.get 7 rfl:Below _ _ _∧_).1
      have hle2:(V62.O.set k (setR (V62.O.getD k nilEv) ot xa xc)).length=j61:=by rw [List.length_set];exact hle
      refine cl h132 rfl cp_audit_Run_x20 (runS_s (L:=V62.O.set k (setR (V62.O.getD k nilEv) ot xa xc)) s26 hb420 (by omega) (hle2.symm ▸ set_rise hO58 (by omega)) (hle2.symm ▸ set_wf hO58 hw421 (by omega) (by omega) hxw)) fun _ v9 w23 r9 h133=>?_
      obtain ⟨cfx422,Mx423,rfl,s27,hM428⟩:=r9
      have hv431:Mx423=((k+1:Nat):Int):=hM428.trans (by rw [hle2,wr_set hO58 hle (by omega) (by obtain ⟨a9,c9,e9⟩:=hO58 k (by omega);rw [e9] at hsm;exact eqA_not hsm) _ (Nat.le_refl _),if_neg (by omega)])
      refine mvs 5 h133 rfl fun _ h134=>h134.sn [16,14,13,12,9,8,7,0,6,5,1,2] rfl fun h135=>hK37 _ _<|sqr fun _ hK38=>mvs 2 h135 rfl fun _ h136=>bv h136 (z:=.int .i64 ((k+1:Nat):Int)) rfl (bAdd _ _ _ (by omega) (by omega) (by omega)) fun _ h137=>bv h137 rfl (cEq _ _ _ _ (decide_eq_true (by omega))) fun _ h138=>mv h138 rfl fun _ h139=>so (wT h139 (E:=true) rfl rfl rfl) fun _ hK39=>xcall h139 rfl rfl rfl (xs:=[]) rfl cp_commonslaw25_lives_x20 rfl (vs:=[]) rfl (args:=#[]) rfl (livesX_s s27) fun _ v10 w24 r10 h140=>hK39 _ _ ?_
      obtain ⟨rfl,s28⟩:=r10
      refine sv1 h140 rfl (v:=.bool true) (rpick h140 rfl rfl rfl) fun _ h141=>h141.sk [106,105,104,103,102,101,100,16,14,13,12,9,8,7,0,5,1,2] rfl fun h142=>mv h142 rfl fun _ h143=>h143.sn [6,16,14,13,12,9,8,7,0,5,1,2] rfl fun h144=>hK38 _ _<|wp_ret ?_
      try simp only [Exit.then,Exit.inBlock]
      refine retR (v:=.bool true) (res1 h144 rfl rfl) h144.defs ?_
      exact ⟨rfl,(s28.get 7 rfl:Below _ _ _∧_).1⟩
   refine sqr fun _ hK40=>mv h88 rfl fun _ h145=>bv h145 (z:=.bool (decide (pt<0))) rfl (cLt _ _ _ _ rfl) fun _ h146=>h146.sn [68,12,9,8,7,0,6,5,1,2] rfl fun h147=>hK40 _ _ ?_
   rcases bC (decide (pt<0)) with hc5 | hc5
   ·skip
    have hp7:pt<0:=(dT hc5)
    refine wcT h147 rfl hc5<|h147.sk [12,9,8,7,0,6,5,1,2] rfl fun h148=>wp_region_lit<|mv h148 rfl fun _ h149=>bv h149 (z:=.int .i64 (pt+1)) rfl (bAdd _ _ _ (by omega) (by omega) (by omega)) fun _ h150=>sv1 h150 rfl (v:=.int .i64 (-(pt+1))) (rneg h150 rfl rfl rfl (by omega) (by omega)) fun _ h151=>h151.sk [71,70,69,12,9,8,7,0,6,5,2] rfl fun h152=>mv h152 rfl fun _ h153=>h153.sk [1,12,9,8,7,0,6,5,2] rfl fun h154=>wpList_nil ?_
    exact hJ297 (-(pt+1)) _ _ (h154.subs rfl) s18 (by omega)
   ·skip
    have hp8:¬ (pt<0):=(dF hc5)
    refine wcF h147 rfl hc5<|h147.sk [12,9,8,7,0,6,5,1,2] rfl fun h155=>wp_skip ?_
    exact hJ297 pt _ _ (h155.subs rfl) s18 (by omega)

end Go.Proofs.YtpdjnefgkcmdnaaGreatDoor
/- stage 25: AuditTrue's arguments -/
namespace Go.Proofs.YtpdjnefgkcmdnaaGreatDoor
open Go.RowKit Go.WideShapes Go.ChangeShapes Go.Deep
set_option linter.unusedSimpArgs false
set_option linter.unusedVariables false
set_option maxRecDepth 100000

theorem open_infoE {H:Type} {enc:TypeId×Value→H} {W:World} {base:Nat} {spare:Nat→Bool} {held:Bool} {fuel:Nat} {cs:List Value} {z:DataW H×List MemPlace} (hlen:cs.length=3)
  (ht:DataW.trod enc Tryz.prog W base spare held fuel 26 cs=some z):∃ k l s,cs=[.int .i64 k,.int .i64 l,.int .i64 s]:=by
 have k1:Tryz.prog.cellsOf 3=1:=by kernel_rfl
 obtain ⟨ys,r,_,_,_,hyl,hg⟩:=DataW.trod_struct Tryz.underlying26 ht
 have hyl':ys.length=3:=hyl
 match cs,hlen with
 | [u0,u1,u2],_=>
  have g0:=hg 0 _ rfl
  have g1:=hg 1 _ rfl
  have g2:=hg 2 _ rfl
  simp [k1] at g0 g1 g2
  rw [List.getElem?_eq_getElem (by omega)] at g0 g1 g2
  obtain ⟨t0,e0,_,w0⟩:=DataW.trod_int Tryz.underlying3 g0
  obtain ⟨t1,e1,_,w1⟩:=DataW.trod_int Tryz.underlying3 g1
  obtain ⟨t2,e2,_,w2⟩:=DataW.trod_int Tryz.underlying3 g2
  simp only [List.cons.injEq,and_true] at e0 e1 e2
  subst e0 e1 e2
  exact ⟨t0,t1,t2,rfl⟩
theorem open_strE {H:Type} {enc:TypeId×Value→H} {W:World} {base:Nat} {held:Bool} {fuel:Nat} {cs:List Value} {z:DataW H×List MemPlace}
  (hf:DataW.trod enc Tryz.prog W base (fun _=>true) held fuel 24 cs=some z):∃ a n c,∃ g:Nat→ByteArray,cs=[.slice a n c]∧n≤c∧ExtA W a n c 1 (fun i=>[.string (g i)]):=by
 have k1:Tryz.prog.cellsOf 9=1:=by kernel_rfl
 obtain ⟨a,n,c,rfl⟩:∃ a n c,cs=[.slice a n c]:=by
  rcases open_slice Tryz.underlying24 hf with ⟨hcs,_⟩ | ⟨x,len,cap,m,q,D,Pl,hcs,_,hl,hm,hmm,_,hi⟩
  · exact ⟨_,_,_,hcs⟩
  · exact ⟨_,_,_,hcs⟩
 obtain ⟨d,p⟩:=z
 obtain ⟨g,hx,_⟩:=open_ext (α:=ByteArray) (a:=a) (n:=n) (c:=c) (d:=d) (p:=p) (W:=W) noNm (fun s=>[.string s]) (fun _=>True) Tryz.underlying24 k1 (by decide) (fun fuel cs x hlen ht=>by
  obtain ⟨t,e,_⟩:=DataW.trod_string Tryz.underlying9 ht
  exact ⟨t,e,trivial⟩) ⟨fuel,hf⟩
 exact ⟨a,n,c,g,rfl,hx.1,hx⟩
theorem open_replyE {H:Type} {enc:TypeId×Value→H} {W:World} {base:Nat} {held:Bool} {fuel:Nat} {cs:List Value} {z:DataW H×List MemPlace} (hlen:cs.length=7)
  (ht:DataW.trod enc Tryz.prog W base (fun _=>true) held fuel 28 cs=some z):∃ e fd d a n c k l s,∃ g:Nat→ByteArray,cs=[.int .i64 e,.int .i64 fd,.string (strB d),.slice a n c,.int .i64 k,.int .i64 l,.int .i64 s]∧n≤c∧ExtA W a n c 1 (fun i=>[.string (g i)]):=by
 have k1:Tryz.prog.cellsOf 3=1:=by kernel_rfl
 have k2:Tryz.prog.cellsOf 9=1:=by kernel_rfl
 have k3:Tryz.prog.cellsOf 24=1:=by kernel_rfl
 have k4:Tryz.prog.cellsOf 26=3:=by kernel_rfl
 have k5:Tryz.prog.cellsOf 23=1:=by kernel_rfl
 obtain ⟨ys,r,_,_,_,hyl,hg⟩:=DataW.trod_struct Tryz.underlying28 ht
 have hyl':ys.length=5:=hyl
 match cs,hlen with
 | [u0,u1,u2,u3,u4,u5,u6],_=>
  have g0:=hg 0 _ rfl
  have g1:=hg 1 _ rfl
  have g2:=hg 2 _ rfl
  have g3:=hg 3 _ rfl
  have g4:=hg 4 _ rfl
  simp [k1,k2,k3,k4,k5] at g0 g1 g2 g3 g4
  rw [List.getElem?_eq_getElem (by omega)] at g0 g1 g2 g3 g4
  obtain ⟨t0,e0,_,w0⟩:=DataW.trod_int Tryz.underlying23 g0
  obtain ⟨t1,e1,_,w1⟩:=DataW.trod_int Tryz.underlying3 g1
  obtain ⟨t2,e2,_⟩:=DataW.trod_string Tryz.underlying9 g2
  obtain ⟨a,n,c,g,e3,hn,hx⟩:=open_strE g3
  obtain ⟨k,l,s,e4⟩:=open_infoE rfl g4
  simp only [List.cons.injEq,and_true] at e0 e1 e2 e3 e4
  obtain ⟨q1,q2,q3⟩:=e4
  subst e0 e1 e2 e3 q1 q2 q3
  exact ⟨t0,t1,t2.data.toList,a,n,c,k,l,s,g,rfl,hn,hx⟩
theorem open_eventE {H:Type} {enc:TypeId×Value→H} {W:World} {base:Nat} {held:Bool} (fuel:Nat) (cs:List Value) (z:DataW H×List MemPlace) (hlen:cs.length=20)
  (ht:DataW.trod enc Tryz.prog W base (fun _=>true) held fuel 35 cs=some z):∃ a:EvA,cs=evA a∧(a.nn≤a.nc∧(Lit.int .i64 a.x.fd).wf=true):=by
 have k1:Tryz.prog.cellsOf 3=1:=by kernel_rfl
 have k2:Tryz.prog.cellsOf 28=7:=by kernel_rfl
 have k3:Tryz.prog.cellsOf 33=8:=by kernel_rfl
 obtain ⟨ys,r,_,_,_,hyl,hg⟩:=DataW.trod_struct Tryz.underlying35 ht
 have hyl':ys.length=7:=hyl
 match cs,hlen with
 | [u0,u1,u2,u3,u4,u5,u6,u7,u8,u9,v0,v1,v2,v3,v4,v5,v6,v7,v8,v9],_=>
  have g0:=hg 0 _ rfl
  have g1:=hg 1 _ rfl
  have g2:=hg 2 _ rfl
  have g3:=hg 3 _ rfl
  have g4:=hg 4 _ rfl
  have g5:=hg 5 _ rfl
  have g6:=hg 6 _ rfl
  simp [k1,k2,k3] at g0 g1 g2 g3 g4 g5 g6
  rw [List.getElem?_eq_getElem (by omega)] at g0 g1 g2 g3 g4 g5 g6
  obtain ⟨t0,e0,_,w0⟩:=DataW.trod_int Tryz.underlying3 g0
  obtain ⟨t1,e1,_,w1⟩:=DataW.trod_int Tryz.underlying3 g1
  obtain ⟨x,e2,wx⟩:=open_callE rfl g2
  obtain ⟨t3,e3,_,w3⟩:=DataW.trod_int Tryz.underlying3 g3
  obtain ⟨t4,e4,_,w4⟩:=DataW.trod_int Tryz.underlying3 g4
  obtain ⟨t5,e5,_,w5⟩:=DataW.trod_int Tryz.underlying3 g5
  obtain ⟨e,fd,d,a,n,c,k,l,s,g,e6,hn,_⟩:=open_replyE rfl g6
  simp only [List.cons.injEq,and_true] at e0 e1 e3 e4 e5 e6
  unfold callC cL at e2
  simp only [List.cons.injEq,and_true] at e2
  obtain ⟨q1,q2,q3,q4,q5,q6,q7,q8⟩:=e2
  obtain ⟨p1,p2,p3,p4,p5,p6,p7⟩:=e6
  subst e0 e1 e3 e4 e5 q1 q2 q3 q4 q5 q6 q7 q8 p1 p2 p3 p4 p5 p6 p7
  exact ⟨⟨t0,t1,x,t3,t4,t5,e,fd,d,a,n,c,k,l,s⟩,rfl,hn,wx.2.2.1⟩
theorem open_events {H:Type} {enc:TypeId×Value→H} {W:World} {base:Nat} {held:Bool} {a:Option Addr} {n c:Nat} {d:DataW H} {p:List MemPlace}
  (h:DataW.Trod enc Tryz.prog W base (fun _=>true) held 22 (.slice a n c) d p):∃ f:Nat→EvA,ExtA W a n c 20 (fun i=>evA (f i))∧∀ i,i<n→(f i).nn≤(f i).nc∧(Lit.int .i64 (f i).x.fd).wf=true:=
 open_ext nilA evA (fun a=>a.nn≤a.nc∧(Lit.int .i64 a.x.fd).wf=true) Tryz.underlying22 (by kernel_rfl) (by decide) (fun fuel cs x hlen ht=>open_eventE fuel cs x hlen ht) h
theorem open_reply {H:Type} {enc:TypeId×Value→H} {W:World} {base base':Nat} {held:Bool} {v:Value} {d:DataW H} {p:List MemPlace}
  (hv:Value.okWide Tryz.prog W .any base' 28 v) (h:DataW.Trod enc Tryz.prog W base (fun _=>true) held 28 v d p):∃ (ot:RepM) (xa:Option Addr) (xc:Nat),v=.agg #[.int .i64 ot.e,.int .i64 ot.fd,.string (strB ot.data),.slice xa ot.names.length xc,.int .i64 ot.kind,.int .i64 ot.links,.int .i64 ot.size]∧ExtA W xa ot.names.length xc 1 (fun k=>[.string (ot.names.getD k noNm)]):=by
 obtain ⟨cs,rfl,hsz⟩:=okWide_struct Tryz.underlying28 hv
 have k7:Tryz.prog.cellsOf 28=7:=by kernel_rfl
 obtain ⟨fuel,hf⟩:=h
 obtain ⟨L,rfl⟩:∃ L:List Value,cs=L.toArray:=⟨cs.toList,rfl⟩
 have h7:L.length=7:=by have z:=hsz.trans k7;simpa using z
 obtain ⟨e,fd,d,a,n,c,k,l,s,g,e6,hn,hx⟩:=open_replyE (cs:=L) h7 hf
 subst e6
 have hl:((List.range n).map g).length=n:=by rw [List.length_map,List.length_range]
 refine ⟨⟨e,fd,d,(List.range n).map g,k,l,s⟩,a,c,by show _=Value.agg #[_,_,_,.slice a ((List.range n).map g).length c,_,_,_];rw [hl],?_⟩
 show ExtA W a ((List.range n).map g).length c 1 _
 rw [hl]
 refine ⟨hx.1,hx.2.1,fun h0=>?_⟩
 obtain ⟨b,off,e9,h9⟩:=hx.2.2 h0
 refine ⟨b,off,e9,h9.1,fun i hi j u hu=>h9.2 i hi j u ?_⟩
 have:((List.range n).map g).getD i noNm=g i:=by rw [List.getD_eq_getElem?_getD,List.getElem?_map,List.getElem?_range hi];rfl
 rw [← hu]
 show [Value.string (g i)][j]? = [Value.string (((List.range n).map g).getD i noNm)][j]?
 rw [this]
end Go.Proofs.YtpdjnefgkcmdnaaGreatDoor
