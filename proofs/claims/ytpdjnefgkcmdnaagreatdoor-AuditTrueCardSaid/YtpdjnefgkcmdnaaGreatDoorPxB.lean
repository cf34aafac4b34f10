/- the document's Lookup, count, Of (sx/psA.py) -/
import Derived.Test.YtpdjnefgkcmdnaaGreatDoorPxA
import Derived.Test.YtpdjnefgkcmdnaaGreatDoorSxU
import Derived.Test.YtpdjnefgkcmdnaaGreatDoorPxZ
namespace Go.Proofs.YtpdjnefgkcmdnaaGreatDoor
open Go.RowKit
set_option linter.unusedSimpArgs false
set_option linter.unusedVariables false
set_option maxRecDepth 100000

def SmF (F:FsM):Prop:=F.N.length≤1000∧F.E.length≤1000∧F.O.length≤1000
def nodC (x:NodeM):List Value:=[.bool x.dir,.string (strB x.data),.int .i64 x.links]
def entC (x:EntM):List Value:=[.int .i64 (x.dn:Int),.string x.nm,.int .i64 (x.nd:Int)]
def opnC (x:OpM):List Value:=[.int .i64 x.cl,.int .i64 x.fd,.int .i64 (x.nd:Int)]
theorem nodC_len (x:NodeM):(nodC x).length=3:=rfl
theorem entC_len (x:EntM):(entC x).length=3:=rfl
theorem opnC_len (x:OpM):(opnC x).length=3:=rfl
abbrev dP (df:Nat) (na:Option Addr) (nc:Nat) (ea:Option Addr) (ec:Nat) (oa:Option Addr) (oc:Nat) (F:FsM):List Ch:=[blkC df 48 [.slice na F.N.length nc,.slice ea F.E.length ec,.slice oa F.O.length oc],ownC 0 50 3 na F.N.length nc (F.N.flatMap nodC),ownC 0 79 3 ea F.E.length ec (F.E.flatMap entC),ownC 0 73 3 oa F.O.length oc (F.O.flatMap opnC)]
def lookI (E:List EntM) (d:Nat) (s:ByteArray):Int:=match lookE E d s with | some m=>(m:Int) | none=>-1
def lookJ (O:List OpM) (c fd:Int):Int:=match lookO O c fd with | some m=>(m:Int) | none=>-1
theorem lookI_some {E:List EntM} {d:Nat} {s:ByteArray} {m:Nat} (h:lookE E d s=some m):lookI E d s=(m:Int):=by unfold lookI;rw [h]
theorem lookI_none {E:List EntM} {d:Nat} {s:ByteArray} (h:lookE E d s=none):lookI E d s=-1:=by unfold lookI;rw [h]
theorem lookJ_some {O:List OpM} {c fd:Int} {m:Nat} (h:lookO O c fd=some m):lookJ O c fd=(m:Int):=by unfold lookJ;rw [h]
theorem lookJ_none {O:List OpM} {c fd:Int} (h:lookO O c fd=none):lookJ O c fd=-1:=by unfold lookJ;rw [h]
theorem isNone_of {α:Type} {x:Option α} (h:x.isSome=false):x=none:=by cases x with | none=>rfl | some a=>cases h
theorem drop_getD {α:Type} {L:List α} {i:Nat} (h:i<L.length) (z:α):L.drop i=L.getD i z::L.drop (i+1):=by
 rw [List.drop_eq_getElem_cons h,List.getD_eq_getElem?_getD,List.getElem?_eq_getElem h];rfl
theorem take_getD {α:Type} {L:List α} {i:Nat} (h:i<L.length) (z:α):L.take (i+1)=L.take i++[L.getD i z]:=by
 rw [List.take_succ_eq_append_getElem h,List.getD_eq_getElem?_getD,List.getElem?_eq_getElem h];rfl
theorem lookE_end {E:List EntM} {d i:Nat} {s:ByteArray} (h:E.length≤i):lookE (E.drop i) d s=none:=by
 rw [List.drop_eq_nil_of_le h];rfl
theorem lookE_yes {E:List EntM} {d i:Nat} {s:ByteArray} (hi:i<E.length) (h:((E.getD i nilE).dn:Int)=(d:Int)∧(E.getD i nilE).nm=s):lookE (E.drop i) d s=some (E.getD i nilE).nd:=by
 unfold lookE
 rw [drop_getD hi nilE,List.find?_cons,decide_eq_true (show (E.getD i nilE).dn=d∧(E.getD i nilE).nm=s from ⟨by omega,h.2⟩)];rfl
theorem lookE_no {E:List EntM} {d i:Nat} {s:ByteArray} (hl:lookE E d s=lookE (E.drop i) d s) (hi:i<E.length) (h:¬ (((E.getD i nilE).dn:Int)=(d:Int))∨¬ ((E.getD i nilE).nm=s)):lookE E d s=lookE (E.drop (i+1)) d s:=by
 rw [hl];unfold lookE
 rw [drop_getD hi nilE,List.find?_cons,decide_eq_false (show ¬ ((E.getD i nilE).dn=d∧(E.getD i nilE).nm=s) from fun q=>h.elim (fun z=>z (by omega)) (fun z=>z q.2))]
theorem lookO_end {O:List OpM} {i:Nat} {c fd:Int} (h:O.length≤i):lookO (O.drop i) c fd=none:=by
 rw [List.drop_eq_nil_of_le h];rfl
theorem lookO_yes {O:List OpM} {i:Nat} {c fd:Int} (hi:i<O.length) (h:(O.getD i nilO).cl=c∧(O.getD i nilO).fd=fd):lookO (O.drop i) c fd=some (O.getD i nilO).nd:=by
 unfold lookO
 rw [drop_getD hi nilO,List.find?_cons,decide_eq_true h];rfl
theorem lookO_no {O:List OpM} {i:Nat} {c fd:Int} (hl:lookO O c fd=lookO (O.drop i) c fd) (hi:i<O.length) (h:¬ ((O.getD i nilO).cl=c)∨¬ ((O.getD i nilO).fd=fd)):lookO O c fd=lookO (O.drop (i+1)) c fd:=by
 rw [hl];unfold lookO
 rw [drop_getD hi nilO,List.find?_cons,decide_eq_false (show ¬ ((O.getD i nilO).cl=c∧(O.getD i nilO).fd=fd) from fun q=>h.elim (fun z=>z q.1) (fun z=>z q.2))]
theorem cntE_step (E:List EntM) (d:Nat) {i:Nat} (hi:i<E.length):cntE (E.take (i+1)) d=if ((E.getD i nilE).dn:Int)=(d:Int) then cntE (E.take i) d+1 else cntE (E.take i) d:=by
 unfold cntE
 rw [take_getD hi nilE,List.filter_append,List.length_append,List.filter_cons]
 by_cases h:(E.getD i nilE).dn=d
 ·rw [if_pos (decide_eq_true h),if_pos (by omega)];rfl
 ·rw [if_neg (by rw [decide_eq_true_eq];exact h),if_neg (by omega)];rfl
theorem cntE_le (E:List EntM) (d:Nat):cntE E d≤E.length:=List.length_filter_le _ _
theorem ENd:ElemT Tryz.prog 44 50 3 32:=elemT Tryz.underlying44 (z:=.agg #[.bool false,.string ⟨#[]⟩,.int .i64 0]) (by kernel_rfl) rfl (by omega)
theorem EEn:ElemT Tryz.prog 45 79 3 32:=elemT Tryz.underlying45 (z:=.agg #[.int .i64 0,.string ⟨#[]⟩,.int .i64 0]) (by kernel_rfl) rfl (by omega)
theorem EOp:ElemT Tryz.prog 46 73 3 24:=elemT Tryz.underlying46 (z:=.agg #[.int .i64 0,.int .i64 0,.int .i64 0]) (by kernel_rfl) rfl (by omega)
theorem ESt:ElemT Tryz.prog 24 9 1 16:=elemT Tryz.underlying24 (z:=.string ⟨#[]⟩) (by kernel_rfl) rfl (by omega)


set_option maxHeartbeats 4000000 in
theorem lookup_s {w:World} {df:Nat} {na ea oa:Option Addr} {nc ec oc:Nat} {F:FsM} {R:List Ch} {d:Nat} {s:ByteArray} (hS0:Sep w ((dP df na nc ea ec oa oc F)++R)) (hz:SmF F) :
  CallsR Tryz.prog 34 #[.pointer (some ⟨df,0,none⟩),.int .i64 (d:Int),.string s] w (fun v w'=>v=.int .i64 (lookI F.E d s)∧Sep w' ((dP df na nc ea ec oa oc F)++R)):=by
 have hS:=Sep.tail_many (xs:=dP df na nc ea ec oa oc F) hS0;clear hS0
 have hz0:=hz;obtain ⟨hz1,hz2,hz3⟩:F.N.length≤1000∧F.E.length≤1000∧F.O.length≤1000:=hz
 refine enterR Tryz.func34 rfl (N:=47) Tryz.ntmps34 (by show 3≤47;decide) [(0,.pointer (some ⟨df,0,none⟩)),(1,.int .i64 (d:Int)),(2,.string s)] rfl fun _ h1=>sqr fun _ hK3=>mv h1 rfl fun _ h4=>wpList_nil<|hK3 _ _<|sq fun _ hK6=>sqr fun _ hK7=>mv h4 rfl fun _ h8=>wpList_nil<|hK7 _ _<|wp_block ?_
 refine wp_loop1 (fun (i:Nat) a' w'=>Kn 47 [(7,.int .i64 (i:Int)),(6,.int .i64 0),(0,.pointer (some ⟨df,0,none⟩)),(1,.int .i64 (d:Int)),(2,.string s)] a'∧Sep w' [blkC df 48 [.slice na F.N.length nc,.slice ea F.E.length ec,.slice oa F.O.length oc],ownC 0 50 3 na F.N.length nc (F.N.flatMap nodC),ownC 0 79 3 ea F.E.length ec (F.E.flatMap entC),ownC 0 73 3 oa F.O.length oc (F.O.flatMap opnC),Ch.many R]∧(lookE F.E d s=lookE (F.E.drop i) d s)) (fun (i:Nat)=>F.E.length-i) 0 ⟨h8.subs rfl,hS,rfl⟩ ?_
 rintro i1 a1 w1 ⟨h2,s1,hl15⟩ K1 hK1
 refine sq fun _ hK2=>sqr fun _ hK4=>mvs 3 h2 rfl fun _ h3=>fav h3 rfl (fz_commonsref06_Fs_1 _ _) fun _ h5=>ldv h5 s1 0 Tryz.underlying45 rfl rfl rfl rfl fun _ h6=>sv1 h6 rfl (rlenS h6 rfl rfl Tryz.underlying45) fun _ h7=>bv h7 (z:=.bool (decide ((i1:Int)<(F.E.length:Int)))) rfl (cLt _ _ _ _ rfl) fun _ h9=>h9.sn [14,7,6,0,1,2] rfl fun h10=>hK4 _ _ ?_
 rcases bC (decide ((i1:Int)<(F.E.length:Int))) with hc1 | hc1
 ·skip
  have hp1:(i1:Int)<(F.E.length:Int):=(dT hc1)
  refine wcT h10 rfl hc1<|h10.sk [7,6,0,1,2] rfl fun h11=>wp_skip<|hK2 _ _<|sq fun _ hK5=>wp_block ?_
  refine sqr fun _ hK8=>mvs 2 h11 rfl fun _ h12=>fav h12 rfl (fz_commonsref06_Fs_1 _ _) fun _ h13=>ldv h13 s1 0 Tryz.underlying45 rfl rfl rfl rfl fun _ h14=>mv h14 rfl fun _ h15=>?_
  obtain ⟨q49,hq1⟩:=own_addr (s1.get 2 rfl:Own _ _ _ _ _ _ _ _)
  refine sv1 h15 rfl (rindexA h15 rfl rfl rfl (fun w=>ixO Tryz.underlying45 (by kernel_rfl) (sz:=3) (hq1 (by omega)) (j:=i1) rfl (by omega) (by omega) w)) fun _ h16=>sv1 h16 rfl (rfa h16 rfl rfl (fun w=>fz_commonsref06_Entry_0 q49 (i1*3) w)) fun _ h17=>sw1 h17 rfl (rld h17 rfl rfl (ldOSc entC_len Tryz.underlying3 rfl (s1.get 2 rfl:Own _ _ _ _ _ _ _ _) (hq1 (by omega)) nilE (j:=i1) (f:=0) (by omega) (by decide) rfl rfl)) fun _ h18=>mv h18 rfl fun _ h19=>bv h19 (z:=.bool (decide (((F.E.getD i1 nilE).dn:Int)=(d:Int)))) rfl (cEq _ _ _ _ rfl) fun _ h20=>mv h20 rfl fun _ h21=>sg h21 (wT h21 rfl rfl rfl) rfl rfl rfl (fun hC1=>by have hq:=(dT hC1);exact (rmove h21 rfl rfl) _) fun _ h22=>sg h22 (wT h22 rfl rfl rfl) rfl rfl rfl (fun hC2=>by have hq:=(dT hC2);exact (rnil h22 rfl (opg rfl hC2)) _) fun _ h23=>sg h23 (wT h23 rfl rfl rfl) rfl rfl rfl (fun hC3=>by have hq:=(dT hC3);exact (rfa h23 rfl (opg rfl hC3) (fun w=>fz_commonsref06_Fs_1 df 0 w)) _) fun _ h24=>sg h24 (wT h24 rfl rfl rfl) rfl rfl rfl (fun hC4=>by have hq:=(dT hC4);exact (rld h24 rfl (opg rfl hC4) (ldB Tryz.underlying45 rfl (s1.get 0 rfl:Blk _ _ _ _) rfl))) fun _ h25=>?_
  refine sg h25 (wT h25 rfl rfl rfl) rfl rfl rfl (v:=.int .i64 (i1:Int)) (fun hC5=>by have hq:=(dT hC5);exact (rmove h25 rfl rfl) _) fun _ h26=>sg h26 (wT h26 rfl rfl rfl) rfl rfl rfl (v:=.pointer (some ⟨q49,i1*3,none⟩)) (fun hC6=>by have hq:=(dT hC6);exact (rindexA h26 rfl (opg rfl hC6) (opg rfl hC6) (fun w=>ixO Tryz.underlying45 (by kernel_rfl) (sz:=3) (hq1 (by omega)) (j:=i1) rfl (by omega) (by omega) w)) _) fun _ h27=>sg h27 (wT h27 rfl rfl rfl) rfl rfl rfl (v:=.pointer (some ⟨q49,i1*3+1,none⟩)) (fun hC7=>by have hq:=(dT hC7);exact (rfa h27 rfl (opg rfl hC7) (fun w=>fz_commonsref06_Entry_1 q49 (i1*3) w)) _) fun _ h28=>sg h28 (wT h28 rfl rfl rfl) rfl rfl rfl (v:=.string ((F.E.getD i1 nilE).nm)) (fun hC8=>by have hq:=(dT hC8);exact (rld h28 rfl (opg rfl hC8) (ldOSc entC_len Tryz.underlying9 rfl (s1.get 2 rfl:Own _ _ _ _ _ _ _ _) (hq1 (by omega)) nilE (j:=i1) (f:=1) (by omega) (by decide) rfl rfl))) fun _ h29=>sg h29 (wT h29 rfl rfl rfl) rfl rfl rfl (v:=.string s) (fun hC9=>by have hq:=(dT hC9);exact (rmove h29 rfl rfl) _) fun _ h30=>sg h30 (wT h30 rfl rfl rfl) rfl rfl rfl (v:=.bool (decide (((F.E.getD i1 nilE).nm)=s))) (fun hC10=>by have hq:=(dT hC10);exact (rbin h30 rfl (opg rfl hC10) (opg rfl hC10) (bStrEqB _ _ _ ((F.E.getD i1 nilE).nm) s rfl)) _) fun _ h31=>sv1 h31 rfl (v:=.bool ((decide (((F.E.getD i1 nilE).dn:Int)=(d:Int)))&&(decide (((F.E.getD i1 nilE).nm)=s)))) (rpickA h31 rfl (E:=(decide (((F.E.getD i1 nilE).dn:Int)=(d:Int)))) (F:=(decide (((F.E.getD i1 nilE).nm)=s))) rfl rfl rfl (fun e=>if_pos (by rw [e];try rfl))) fun _ h32=>h32.sn [38,7,6,0,1,2] rfl fun h33=>hK8 _ _ ?_
  rcases bC ((decide (((F.E.getD i1 nilE).dn:Int)=(d:Int)))&&(decide (((F.E.getD i1 nilE).nm)=s))) with hc2 | hc2
  ·skip
   have hp2:(((F.E.getD i1 nilE).dn:Int)=(d:Int))∧(((F.E.getD i1 nilE).nm)=s):=(And.intro (dT (andT hc2).1) (dT (andT hc2).2))
   refine wcT h33 rfl hc2<|h33.sk [7,6,0,1,2] rfl fun h34=>sqr fun _ hK9=>mvs 2 h34 rfl fun _ h35=>fav h35 rfl (fz_commonsref06_Fs_1 _ _) fun _ h36=>ldv h36 s1 0 Tryz.underlying45 rfl rfl rfl rfl fun _ h37=>mv h37 rfl fun _ h38=>sv1 h38 rfl (rindexA h38 rfl rfl rfl (fun w=>ixO Tryz.underlying45 (by kernel_rfl) (sz:=3) (hq1 (by omega)) (j:=i1) rfl (by omega) (by omega) w)) fun _ h39=>sv1 h39 rfl (rfa h39 rfl rfl (fun w=>fz_commonsref06_Entry_2 q49 (i1*3) w)) fun _ h40=>sw1 h40 rfl (rld h40 rfl rfl (ldOSc entC_len Tryz.underlying3 rfl (s1.get 2 rfl:Own _ _ _ _ _ _ _ _) (hq1 (by omega)) nilE (j:=i1) (f:=2) (by omega) (by decide) rfl rfl)) fun _ h41=>?_
   refine h41.sk [46,45,44,43,42,41,40,39,7,0,1,2] rfl fun h42=>mv h42 rfl fun _ h43=>h43.sn [6,7,0,1,2] rfl fun h44=>hK9 _ _<|wp_ret ?_
   try simp only [Exit.then,Exit.inBlock]
   refine retR (v:=.int .i64 ((F.E.getD i1 nilE).nd:Int)) (res1 h44 rfl rfl) h44.defs ?_
   exact ⟨(congrArg (Value.int .i64) (lookI_some (hl15.trans (lookE_yes (by omega) hp2)))).symm,Sep.tail_un (xs:=[_,_,_,_]) s1⟩
  ·skip
   have hp3:(¬ (((F.E.getD i1 nilE).dn:Int)=(d:Int)))∨(¬ (((F.E.getD i1 nilE).nm)=s)):=((andF hc2).imp (fun q=>(dF q)) (fun q=>(dF q)))
   refine wcF h33 rfl hc2<|h33.sk [7,6,0,1,2] rfl fun h45=>wp_skip<|hK5 _ _<|wp_region_lit<|mv h45 rfl fun _ h46=>bv h46 (z:=.int .i64 ((i1+1:Nat):Int)) rfl (bAdd _ _ _ (by omega) (by omega) (by omega)) fun _ h47=>h47.sk [16,15,6,0,1,2] rfl fun h48=>mv h48 rfl fun _ h49=>h49.sk [7,6,0,1,2] rfl fun h50=>wpList_nil ?_
   exact hK1 (i1+1) _ _ ⟨h50.subs rfl,s1,(lookE_no hl15 (by omega) hp3)⟩ (by omega)
 ·skip
  have hp4:¬ ((i1:Int)<(F.E.length:Int)):=(dF hc1)
  refine wcF h10 rfl hc1<|h10.sk [7,6,0,1,2] rfl fun h51=>wp_exit ?_
  refine hK6 _ _ ?_
  refine sqr fun _ hK10=>h51.sk [7,0,1,2] rfl fun h52=>mv h52 rfl fun _ h53=>wpList_nil<|hK10 _ _<|wp_ret ?_
  try simp only [Exit.then,Exit.inBlock]
  refine retR (v:=.int .i64 (-1)) (res1 h53 rfl rfl) h53.defs ?_
  exact ⟨(congrArg (Value.int .i64) (lookI_none (hl15.trans (lookE_end (by omega))))).symm,Sep.tail_un (xs:=[_,_,_,_]) s1⟩


theorem lookYes_s {w:World} {df:Nat} {na ea oa:Option Addr} {nc ec oc:Nat} {F:FsM} {R:List Ch} {d:Nat} {s:ByteArray} (hS0:Sep w ((dP df na nc ea ec oa oc F)++R)) (hz:SmF F) {m:Nat} (h:lookE F.E d s=some m):CallsR Tryz.prog 34 #[.pointer (some ⟨df,0,none⟩),.int .i64 (d:Int),.string s] w (fun v w'=>v=.int .i64 (m:Int)∧Sep w' ((dP df na nc ea ec oa oc F)++R)):=
 (lookup_s hS0 hz).mono fun v w' ⟨e1,h1⟩=>⟨by rw [e1,lookI_some h],h1⟩
theorem lookNo_s {w:World} {df:Nat} {na ea oa:Option Addr} {nc ec oc:Nat} {F:FsM} {R:List Ch} {d:Nat} {s:ByteArray} (hS0:Sep w ((dP df na nc ea ec oa oc F)++R)) (hz:SmF F) (h:lookE F.E d s=none):CallsR Tryz.prog 34 #[.pointer (some ⟨df,0,none⟩),.int .i64 (d:Int),.string s] w (fun v w'=>v=.int .i64 (-1)∧Sep w' ((dP df na nc ea ec oa oc F)++R)):=
 (lookup_s hS0 hz).mono fun v w' ⟨e1,h1⟩=>⟨by rw [e1,lookI_none h],h1⟩

set_option maxHeartbeats 4000000 in
theorem count_s {w:World} {df:Nat} {na ea oa:Option Addr} {nc ec oc:Nat} {F:FsM} {R:List Ch} {d:Nat} (hS0:Sep w ((dP df na nc ea ec oa oc F)++R)) (hz:SmF F) :
  CallsR Tryz.prog 32 #[.pointer (some ⟨df,0,none⟩),.int .i64 (d:Int)] w (fun v w'=>v=.int .i64 (cntE F.E d:Int)∧Sep w' ((dP df na nc ea ec oa oc F)++R)):=by
 have hS:=Sep.tail_many (xs:=dP df na nc ea ec oa oc F) hS0;clear hS0
 have hz0:=hz;obtain ⟨hz1,hz2,hz3⟩:F.N.length≤1000∧F.E.length≤1000∧F.O.length≤1000:=hz
 refine enterR Tryz.func32 rfl (N:=29) Tryz.ntmps32 (by show 2≤29;decide) [(0,.pointer (some ⟨df,0,none⟩)),(1,.int .i64 (d:Int))] rfl fun _ h1=>sqr fun _ hK3=>mv h1 rfl fun _ h4=>wpList_nil<|hK3 _ _<|sqr fun _ hK6=>mv h4 rfl fun _ h7=>wpList_nil<|hK6 _ _<|sq fun _ hK9=>sqr fun _ hK1=>mv h7 rfl fun _ h2=>wpList_nil<|hK1 _ _ ?_
 refine wp_block ?_
 refine wp_loop2 (fun (i:Nat) (n:Nat) a' w'=>Kn 29 [(6,.int .i64 (i:Int)),(5,.int .i64 (n:Int)),(4,.int .i64 0),(0,.pointer (some ⟨df,0,none⟩)),(1,.int .i64 (d:Int))] a'∧Sep w' [blkC df 48 [.slice na F.N.length nc,.slice ea F.E.length ec,.slice oa F.O.length oc],ownC 0 50 3 na F.N.length nc (F.N.flatMap nodC),ownC 0 79 3 ea F.E.length ec (F.E.flatMap entC),ownC 0 73 3 oa F.O.length oc (F.O.flatMap opnC),Ch.many R]∧(n=cntE (F.E.take i) d)∧(n≤i)) (fun (i:Nat) (n:Nat)=>F.E.length-i) 0 0 ⟨h2.subs rfl,hS,rfl,by omega⟩ ?_
 rintro i1 n21 a1 w1 ⟨h3,s1,hl18,hni19⟩ K1 hK2
 refine sq fun _ hK4=>sqr fun _ hK5=>mvs 3 h3 rfl fun _ h5=>fav h5 rfl (fz_commonsref06_Fs_1 _ _) fun _ h6=>ldv h6 s1 0 Tryz.underlying45 rfl rfl rfl rfl fun _ h8=>sv1 h8 rfl (rlenS h8 rfl rfl Tryz.underlying45) fun _ h9=>bv h9 (z:=.bool (decide ((i1:Int)<(F.E.length:Int)))) rfl (cLt _ _ _ _ rfl) fun _ h10=>h10.sn [13,6,5,4,0,1] rfl fun h11=>hK5 _ _ ?_
 rcases bC (decide ((i1:Int)<(F.E.length:Int))) with hc1 | hc1
 ·skip
  have hp1:(i1:Int)<(F.E.length:Int):=(dT hc1)
  refine wcT h11 rfl hc1<|h11.sk [6,5,4,0,1] rfl fun h12=>wp_skip<|hK4 _ _<|sq fun _ hK7=>wp_block ?_
  refine sqr fun _ hK8=>mvs 2 h12 rfl fun _ h13=>fav h13 rfl (fz_commonsref06_Fs_1 _ _) fun _ h14=>ldv h14 s1 0 Tryz.underlying45 rfl rfl rfl rfl fun _ h15=>mv h15 rfl fun _ h16=>?_
  obtain ⟨q54,hq1⟩:=own_addr (s1.get 2 rfl:Own _ _ _ _ _ _ _ _)
  refine sv1 h16 rfl (rindexA h16 rfl rfl rfl (fun w=>ixO Tryz.underlying45 (by kernel_rfl) (sz:=3) (hq1 (by omega)) (j:=i1) rfl (by omega) (by omega) w)) fun _ h17=>sv1 h17 rfl (rfa h17 rfl rfl (fun w=>fz_commonsref06_Entry_0 q54 (i1*3) w)) fun _ h18=>sw1 h18 rfl (rld h18 rfl rfl (ldOSc entC_len Tryz.underlying3 rfl (s1.get 2 rfl:Own _ _ _ _ _ _ _ _) (hq1 (by omega)) nilE (j:=i1) (f:=0) (by omega) (by decide) rfl rfl)) fun _ h19=>mv h19 rfl fun _ h20=>bv h20 (z:=.bool (decide (((F.E.getD i1 nilE).dn:Int)=(d:Int)))) rfl (cEq _ _ _ _ rfl) fun _ h21=>h21.sn [25,6,5,4,0,1] rfl fun h22=>hK8 _ _ ?_
  rcases bC (decide (((F.E.getD i1 nilE).dn:Int)=(d:Int))) with hc2 | hc2
  ·skip
   have hp2:((F.E.getD i1 nilE).dn:Int)=(d:Int):=(dT hc2)
   refine wcT h22 rfl hc2<|h22.sk [6,5,4,0,1] rfl fun h23=>wp_region_lit<|mv h23 rfl fun _ h24=>bv h24 (z:=.int .i64 ((n21+1:Nat):Int)) rfl (bAdd _ _ _ (by omega) (by omega) (by omega)) fun _ h25=>h25.sk [27,26,6,4,0,1] rfl fun h26=>mv h26 rfl fun _ h27=>h27.sn [5,6,4,0,1] rfl fun h28=>hK7 _ _<|wp_region_lit ?_
   refine mv h28 rfl fun _ h29=>bv h29 (z:=.int .i64 ((i1+1:Nat):Int)) rfl (bAdd _ _ _ (by omega) (by omega) (by omega)) fun _ h30=>h30.sk [15,14,5,4,0,1] rfl fun h31=>mv h31 rfl fun _ h32=>h32.sk [6,5,4,0,1] rfl fun h33=>wpList_nil ?_
   exact hK2 (i1+1) (n21+1) _ _ ⟨h33.subs rfl,s1,by have z:=cntE_step F.E d (i:=i1) (by omega);rw [if_pos (by omega)] at z;omega,by omega⟩ (by omega)
  ·skip
   have hp3:¬ (((F.E.getD i1 nilE).dn:Int)=(d:Int)):=(dF hc2)
   refine wcF h22 rfl hc2<|h22.sk [6,5,4,0,1] rfl fun h34=>wp_skip<|hK7 _ _<|wp_region_lit<|mv h34 rfl fun _ h35=>bv h35 (z:=.int .i64 ((i1+1:Nat):Int)) rfl (bAdd _ _ _ (by omega) (by omega) (by omega)) fun _ h36=>h36.sk [15,14,5,4,0,1] rfl fun h37=>mv h37 rfl fun _ h38=>h38.sk [6,5,4,0,1] rfl fun h39=>wpList_nil ?_
   exact hK2 (i1+1) n21 _ _ ⟨h39.subs rfl,s1,by have z:=cntE_step F.E d (i:=i1) (by omega);rw [if_neg (by omega)] at z;omega,by omega⟩ (by omega)
 ·skip
  have hp4:¬ ((i1:Int)<(F.E.length:Int)):=(dF hc1)
  refine wcF h11 rfl hc1<|h11.sk [6,5,4,0,1] rfl fun h40=>wp_exit ?_
  refine hK9 _ _ ?_
  refine sqr fun _ hK10=>mv h40 rfl fun _ h41=>h41.sk [28,6,5,0,1] rfl fun h42=>mv h42 rfl fun _ h43=>h43.sn [4,6,5,0,1] rfl fun h44=>hK10 _ _<|wp_ret ?_
  try simp only [Exit.then,Exit.inBlock]
  refine retR (v:=.int .i64 (n21:Int)) (res1 h44 rfl rfl) h44.defs ?_
  exact ⟨congrArg (fun k:Nat=>Value.int .i64 (k:Int)) (by rw [hl18,List.take_of_length_le (by omega)]),Sep.tail_un (xs:=[_,_,_,_]) s1⟩

set_option maxHeartbeats 4000000 in
theorem of_s {w:World} {df:Nat} {na ea oa:Option Addr} {nc ec oc:Nat} {F:FsM} {R:List Ch} {c fd:Int} (hS0:Sep w ((dP df na nc ea ec oa oc F)++R)) (hz:SmF F) :
  CallsR Tryz.prog 13 #[.pointer (some ⟨df,0,none⟩),.int .i64 c,.int .i64 fd] w (fun v w'=>v=.int .i64 (lookJ F.O c fd)∧Sep w' ((dP df na nc ea ec oa oc F)++R)):=by
 have hS:=Sep.tail_many (xs:=dP df na nc ea ec oa oc F) hS0;clear hS0
 have hz0:=hz;obtain ⟨hz1,hz2,hz3⟩:F.N.length≤1000∧F.E.length≤1000∧F.O.length≤1000:=hz
 refine enterR Tryz.func13 rfl (N:=47) Tryz.ntmps13 (by show 3≤47;decide) [(0,.pointer (some ⟨df,0,none⟩)),(1,.int .i64 c),(2,.int .i64 fd)] rfl fun _ h1=>sqr fun _ hK3=>mv h1 rfl fun _ h4=>wpList_nil<|hK3 _ _<|sq fun _ hK6=>sqr fun _ hK7=>mv h4 rfl fun _ h8=>wpList_nil<|hK7 _ _<|wp_block ?_
 refine wp_loop1 (fun (i:Nat) a' w'=>Kn 47 [(7,.int .i64 (i:Int)),(6,.int .i64 0),(0,.pointer (some ⟨df,0,none⟩)),(1,.int .i64 c),(2,.int .i64 fd)] a'∧Sep w' [blkC df 48 [.slice na F.N.length nc,.slice ea F.E.length ec,.slice oa F.O.length oc],ownC 0 50 3 na F.N.length nc (F.N.flatMap nodC),ownC 0 79 3 ea F.E.length ec (F.E.flatMap entC),ownC 0 73 3 oa F.O.length oc (F.O.flatMap opnC),Ch.many R]∧(lookO F.O c fd=lookO (F.O.drop i) c fd)) (fun (i:Nat)=>F.O.length-i) 0 ⟨h8.subs rfl,hS,rfl⟩ ?_
 rintro i1 a1 w1 ⟨h2,s1,hl15⟩ K1 hK1
 refine sq fun _ hK2=>sqr fun _ hK4=>mvs 3 h2 rfl fun _ h3=>fav h3 rfl (fz_commonsref06_Fs_2 _ _) fun _ h5=>ldv h5 s1 0 Tryz.underlying46 rfl rfl rfl rfl fun _ h6=>sv1 h6 rfl (rlenS h6 rfl rfl Tryz.underlying46) fun _ h7=>bv h7 (z:=.bool (decide ((i1:Int)<(F.O.length:Int)))) rfl (cLt _ _ _ _ rfl) fun _ h9=>h9.sn [14,7,6,0,1,2] rfl fun h10=>hK4 _ _ ?_
 rcases bC (decide ((i1:Int)<(F.O.length:Int))) with hc1 | hc1
 ·skip
  have hp1:(i1:Int)<(F.O.length:Int):=(dT hc1)
  refine wcT h10 rfl hc1<|h10.sk [7,6,0,1,2] rfl fun h11=>wp_skip<|hK2 _ _<|sq fun _ hK5=>wp_block ?_
  refine sqr fun _ hK8=>mvs 2 h11 rfl fun _ h12=>fav h12 rfl (fz_commonsref06_Fs_2 _ _) fun _ h13=>ldv h13 s1 0 Tryz.underlying46 rfl rfl rfl rfl fun _ h14=>mv h14 rfl fun _ h15=>?_
  obtain ⟨q49,hq1⟩:=own_addr (s1.get 3 rfl:Own _ _ _ _ _ _ _ _)
  refine sv1 h15 rfl (rindexA h15 rfl rfl rfl (fun w=>ixO Tryz.underlying46 (by kernel_rfl) (sz:=3) (hq1 (by omega)) (j:=i1) rfl (by omega) (by omega) w)) fun _ h16=>sv1 h16 rfl (rfa h16 rfl rfl (fun w=>fz_commonsref06_Open_0 q49 (i1*3) w)) fun _ h17=>sw1 h17 rfl (rld h17 rfl rfl (ldOSc opnC_len Tryz.underlying3 rfl (s1.get 3 rfl:Own _ _ _ _ _ _ _ _) (hq1 (by omega)) nilO (j:=i1) (f:=0) (by omega) (by decide) rfl rfl)) fun _ h18=>mv h18 rfl fun _ h19=>bv h19 (z:=.bool (decide ((F.O.getD i1 nilO).cl=c))) rfl (cEq _ _ _ _ rfl) fun _ h20=>mv h20 rfl fun _ h21=>sg h21 (wT h21 rfl rfl rfl) rfl rfl rfl (fun hC1=>by have hq:=(dT hC1);exact (rmove h21 rfl rfl) _) fun _ h22=>sg h22 (wT h22 rfl rfl rfl) rfl rfl rfl (fun hC2=>by have hq:=(dT hC2);exact (rnil h22 rfl (opg rfl hC2)) _) fun _ h23=>sg h23 (wT h23 rfl rfl rfl) rfl rfl rfl (fun hC3=>by have hq:=(dT hC3);exact (rfa h23 rfl (opg rfl hC3) (fun w=>fz_commonsref06_Fs_2 df 0 w)) _) fun _ h24=>sg h24 (wT h24 rfl rfl rfl) rfl rfl rfl (fun hC4=>by have hq:=(dT hC4);exact (rld h24 rfl (opg rfl hC4) (ldB Tryz.underlying46 rfl (s1.get 0 rfl:Blk _ _ _ _) rfl))) fun _ h25=>?_
  refine sg h25 (wT h25 rfl rfl rfl) rfl rfl rfl (v:=.int .i64 (i1:Int)) (fun hC5=>by have hq:=(dT hC5);exact (rmove h25 rfl rfl) _) fun _ h26=>sg h26 (wT h26 rfl rfl rfl) rfl rfl rfl (v:=.pointer (some ⟨q49,i1*3,none⟩)) (fun hC6=>by have hq:=(dT hC6);exact (rindexA h26 rfl (opg rfl hC6) (opg rfl hC6) (fun w=>ixO Tryz.underlying46 (by kernel_rfl) (sz:=3) (hq1 (by omega)) (j:=i1) rfl (by omega) (by omega) w)) _) fun _ h27=>sg h27 (wT h27 rfl rfl rfl) rfl rfl rfl (v:=.pointer (some ⟨q49,i1*3+1,none⟩)) (fun hC7=>by have hq:=(dT hC7);exact (rfa h27 rfl (opg rfl hC7) (fun w=>fz_commonsref06_Open_1 q49 (i1*3) w)) _) fun _ h28=>sg h28 (wT h28 rfl rfl rfl) rfl rfl rfl (v:=.int .i64 ((F.O.getD i1 nilO).fd)) (fun hC8=>by have hq:=(dT hC8);exact (rld h28 rfl (opg rfl hC8) (ldOSc opnC_len Tryz.underlying3 rfl (s1.get 3 rfl:Own _ _ _ _ _ _ _ _) (hq1 (by omega)) nilO (j:=i1) (f:=1) (by omega) (by decide) rfl rfl))) fun _ h29=>sg h29 (wT h29 rfl rfl rfl) rfl rfl rfl (v:=.int .i64 fd) (fun hC9=>by have hq:=(dT hC9);exact (rmove h29 rfl rfl) _) fun _ h30=>sg h30 (wT h30 rfl rfl rfl) rfl rfl rfl (v:=.bool (decide ((F.O.getD i1 nilO).fd=fd))) (fun hC10=>by have hq:=(dT hC10);exact (rbin h30 rfl (opg rfl hC10) (opg rfl hC10) (cEq _ _ _ _ rfl)) _) fun _ h31=>sv1 h31 rfl (v:=.bool ((decide ((F.O.getD i1 nilO).cl=c))&&(decide ((F.O.getD i1 nilO).fd=fd)))) (rpickA h31 rfl (E:=(decide ((F.O.getD i1 nilO).cl=c))) (F:=(decide ((F.O.getD i1 nilO).fd=fd))) rfl rfl rfl (fun e=>if_pos (by rw [e];try rfl))) fun _ h32=>h32.sn [38,7,6,0,1,2] rfl fun h33=>hK8 _ _ ?_
  rcases bC ((decide ((F.O.getD i1 nilO).cl=c))&&(decide ((F.O.getD i1 nilO).fd=fd))) with hc2 | hc2
  ·skip
   have hp2:((F.O.getD i1 nilO).cl=c)∧((F.O.getD i1 nilO).fd=fd):=(And.intro (dT (andT hc2).1) (dT (andT hc2).2))
   refine wcT h33 rfl hc2<|h33.sk [7,6,0,1,2] rfl fun h34=>sqr fun _ hK9=>mvs 2 h34 rfl fun _ h35=>fav h35 rfl (fz_commonsref06_Fs_2 _ _) fun _ h36=>ldv h36 s1 0 Tryz.underlying46 rfl rfl rfl rfl fun _ h37=>mv h37 rfl fun _ h38=>sv1 h38 rfl (rindexA h38 rfl rfl rfl (fun w=>ixO Tryz.underlying46 (by kernel_rfl) (sz:=3) (hq1 (by omega)) (j:=i1) rfl (by omega) (by omega) w)) fun _ h39=>sv1 h39 rfl (rfa h39 rfl rfl (fun w=>fz_commonsref06_Open_2 q49 (i1*3) w)) fun _ h40=>sw1 h40 rfl (rld h40 rfl rfl (ldOSc opnC_len Tryz.underlying3 rfl (s1.get 3 rfl:Own _ _ _ _ _ _ _ _) (hq1 (by omega)) nilO (j:=i1) (f:=2) (by omega) (by decide) rfl rfl)) fun _ h41=>?_
   refine h41.sk [46,45,44,43,42,41,40,39,7,0,1,2] rfl fun h42=>mv h42 rfl fun _ h43=>h43.sn [6,7,0,1,2] rfl fun h44=>hK9 _ _<|wp_ret ?_
   try simp only [Exit.then,Exit.inBlock]
   refine retR (v:=.int .i64 ((F.O.getD i1 nilO).nd:Int)) (res1 h44 rfl rfl) h44.defs ?_
   exact ⟨(congrArg (Value.int .i64) (lookJ_some (hl15.trans (lookO_yes (by omega) hp2)))).symm,Sep.tail_un (xs:=[_,_,_,_]) s1⟩
  ·skip
   have hp3:(¬ ((F.O.getD i1 nilO).cl=c))∨(¬ ((F.O.getD i1 nilO).fd=fd)):=((andF hc2).imp (fun q=>(dF q)) (fun q=>(dF q)))
   refine wcF h33 rfl hc2<|h33.sk [7,6,0,1,2] rfl fun h45=>wp_skip<|hK5 _ _<|wp_region_lit<|mv h45 rfl fun _ h46=>bv h46 (z:=.int .i64 ((i1+1:Nat):Int)) rfl (bAdd _ _ _ (by omega) (by omega) (by omega)) fun _ h47=>h47.sk [16,15,6,0,1,2] rfl fun h48=>mv h48 rfl fun _ h49=>h49.sk [7,6,0,1,2] rfl fun h50=>wpList_nil ?_
   exact hK1 (i1+1) _ _ ⟨h50.subs rfl,s1,(lookO_no hl15 (by omega) hp3)⟩ (by omega)
 ·skip
  have hp4:¬ ((i1:Int)<(F.O.length:Int)):=(dF hc1)
  refine wcF h10 rfl hc1<|h10.sk [7,6,0,1,2] rfl fun h51=>wp_exit ?_
  refine hK6 _ _ ?_
  refine sqr fun _ hK10=>h51.sk [7,0,1,2] rfl fun h52=>mv h52 rfl fun _ h53=>wpList_nil<|hK10 _ _<|wp_ret ?_
  try simp only [Exit.then,Exit.inBlock]
  refine retR (v:=.int .i64 (-1)) (res1 h53 rfl rfl) h53.defs ?_
  exact ⟨(congrArg (Value.int .i64) (lookJ_none (hl15.trans (lookO_end (by omega))))).symm,Sep.tail_un (xs:=[_,_,_,_]) s1⟩


theorem ofYes_s {w:World} {df:Nat} {na ea oa:Option Addr} {nc ec oc:Nat} {F:FsM} {R:List Ch} {c fd:Int} (hS0:Sep w ((dP df na nc ea ec oa oc F)++R)) (hz:SmF F) {m:Nat} (h:lookO F.O c fd=some m):CallsR Tryz.prog 13 #[.pointer (some ⟨df,0,none⟩),.int .i64 c,.int .i64 fd] w (fun v w'=>v=.int .i64 (m:Int)∧Sep w' ((dP df na nc ea ec oa oc F)++R)):=
 (of_s hS0 hz).mono fun v w' ⟨e1,h1⟩=>⟨by rw [e1,lookJ_some h],h1⟩
theorem ofNo_s {w:World} {df:Nat} {na ea oa:Option Addr} {nc ec oc:Nat} {F:FsM} {R:List Ch} {c fd:Int} (hS0:Sep w ((dP df na nc ea ec oa oc F)++R)) (hz:SmF F) (h:lookO F.O c fd=none):CallsR Tryz.prog 13 #[.pointer (some ⟨df,0,none⟩),.int .i64 c,.int .i64 fd] w (fun v w'=>v=.int .i64 (-1)∧Sep w' ((dP df na nc ea ec oa oc F)++R)):=
 (of_s hS0 hz).mono fun v w' ⟨e1,h1⟩=>⟨by rw [e1,lookJ_none h],h1⟩

end Go.Proofs.YtpdjnefgkcmdnaaGreatDoor
