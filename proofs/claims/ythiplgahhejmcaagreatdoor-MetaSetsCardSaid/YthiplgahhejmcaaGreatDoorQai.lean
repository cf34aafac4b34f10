/- Parts of the proof. -/
import Derived.Laws.BitsAllLaws
import Derived.Sort.QuietIn
import Derived.BigRegionIn
import Derived.Laws.StructEq
import Derived.Shelf.Abstract
import Derived.Deep.Slices
import Derived.Deep.Fields
import Derived.ChangeSame
import Derived.Laws.RangeAny
import Derived.LoopTactic
import Derived.Test.YthiplgahhejmcaaGreatDoorQah
namespace Go.Proofs.YthiplgahhejmcaaGreatDoor
open Go.RowKit
open _root_.Go.Proofs.Tryz
set_option linter.unusedSimpArgs false
set_option linter.unusedVariables false
set_option linter.unusedSectionVars false
set_option maxRecDepth 100000
set_option maxHeartbeats 8000000
section
theorem Ca {kd nm:Int} (h:DO kd nm=true):∃ q,BJ kd nm=some q:=Option.isSome_iff_exists.1 h
theorem Kh {kd nm:Int} (h:DO kd nm=false):BJ kd nm=none:=by
 unfold DO at h;cases q:BJ kd nm with
 | none=>rfl
 | some z=>rw [q] at h;cases h
theorem Abq {kd nm:Int}:∀ {b:Bool},(if b then ¬ (ldE kd nm≠0) else ldE kd nm≠0)→DO kd nm=b
 | true,h=>by
  unfold ldE at h
  cases q:DO kd nm with
  | true=>rfl
  | false=>rw [q] at h;exact absurd (show ¬ ((1:Int)≠0) from h) (by decide)
 | false,h=>by
  unfold ldE at h
  cases q:DO kd nm with
  | false=>rfl
  | true=>rw [q] at h;exact absurd rfl (show (0:Int)≠0 from h)
theorem Acz {w:World} {cs:List Ch} (h:Sep w cs):Sep w (BC 0 5 1 none 0 0 []::cs):=
 h.push (Below.refl _ _) (c:=BC 0 5 1 none 0 0 []) (Own.nil _ _ _ _) fun k hk=>by cases hk
theorem Dp {k:TypeDesc} (hu:prog.underlying 27=some k) {w:World} {g:Nat} {e:TypeId} {xs:Λ} (h:Blk w g e (xs.map Ac)) (hl:xs.length=16) (hk:k.isRow=true:=by rfl):(Instr.loadAt 27 (π g)).run prog w=.ok (.agg (Af xs)) w:=
 ldA hu hk Jq h (by rw [List.drop_zero,List.take_of_length_le (by rw [List.length_map,hl];exact Nat.le_refl _)]) (by rw [List.length_map,hl])
theorem QH {Q:Exit→Act→World→Prop} {Kk:Act→World→Prop} {o:Oper} {a:Act} {w:World} {N:Nat} {l:List (Nat×Value)} {cs cs':List Ch} (h:Kn N l a) (hd:o.dst=none) {x y:Operand} (ho:o.op=.store 27 x y) (hS:Sep w cs) (i:Nat) {g:Nat} {e:TypeId} {xs ys:Λ} (hi:cs[i]? = some (Ab g e (xs.map Ac))) (h0:xs.length=16) (h1:ys.length=16) (hx:opv l x=some (π g)) (hy:opv l y=some (.agg (Af ys)))
  (hcs:cs.set i (Ab g e (ys.map Ac))=cs') (k:∀ a' w',Kn N l a'→Sep w' cs'→Turns (fun k=>k=g) w w'→Kk a' w'):Oper.wp prog o a w Kk Q:=
 Id h hd ho hS i hi hx hy (ys.map Ac) rfl (by rw [List.length_map,h1];exact Jq) (by rw [List.all_eq_true];exact CN ys) (by rw [List.length_map,List.length_map,h0,h1];exact Nat.le_refl _) (L':=ys.map Ac) (by
  unfold splice;rw [List.take_zero,List.nil_append,List.drop_of_length_le (by rw [List.length_map,List.length_map,h0,h1];exact Nat.le_refl _),List.append_nil]) hcs k
theorem YC {fn:Func} {N:Nat} {l:List (Nat×Value)} {a:Act} {w:World} (hK:Kn N l a) {c:Nat} (h:fn.results=#[.cell c 27]) {g:Nat} {e:TypeId} {xs:Λ} {k:TypeDesc} (hc:opv l (.tmp c)=some (π g)) (hb:Blk w g e (xs.map Ac)) (hu:prog.underlying 27=some k) (hl:xs.length=16) (hk:k.isRow=true:=by rfl):(results fn a.tmps).run prog w=.ok (.agg (Af xs)) w:=
 Af7 hK h hc hb hu hk (by rw [List.length_map,hl];exact Jq)
theorem Aa0 (x:InoT):(Cc x).length≤1000000:=by
 unfold Cc;split
 ·split
  ·decide
  ·rename_i h _;have:=My x;omega
 ·exact Nat.zero_le _
theorem Aa2 {w:World} {R:List Ch} (hS:Sep w R) (x:InoT):CallsR prog 29 #[.agg (Ah x).toArray] w (fun v w'=>∃ a c,v=.tuple #[.slice a (Cc x).length c,ν (Dg x)]∧Sep w' (BC 0 5 1 a (Cc x).length c ((Cc x).map Ac)::R)):=
 Calls.mono (IW x w) fun e w' ⟨a,c,e1,o,b⟩=>⟨_,e1,a,c,rfl,hS.push b (c:=BC 0 5 1 a _ c _) (Own.low o (Nat.zero_le _)) fun k hk=>(World.ownsRow.lt o k hk).1⟩
theorem Ux {w:World} {R:List Ch} {xs:Λ} (hS:Sep w R) (h:xs.length=16):CallsR prog 31 #[.agg (Af xs)] w (fun v w'=>∃ a c,v=.slice a xs.length c∧Sep w' (BC 0 5 1 a xs.length c (xs.map Ac)::R)):=
 Calls.mono (Se xs w h) fun e w' z=>by
  obtain ⟨a,c,e1,o,b⟩:=z
  exact ⟨_,e1,a,c,rfl,hS.push b (c:=BC 0 5 1 a _ c _) (Own.low o (Nat.zero_le _)) fun k hk=>(World.ownsRow.lt o k hk).1⟩
theorem PC {L:List Int} {k:Nat} (h:AH (L.drop k)=AH L) (hk:k<L.length) (h0:L.getD k 0=0):AH (L.drop (k+1))=AH L:=by
 rw [List.drop_eq_getElem_cons hk] at h
 rw [List.getD_eq_getElem?_getD,List.getElem?_eq_getElem hk] at h0
 rw [← h]
 have h0:L[k]=0:=h0
 unfold AH;rw [List.find?_cons_of_neg (by rw [h0];decide)]
theorem PB {L:List Int} {k:Nat} (h:AH (L.drop k)=AH L) (hk:k<L.length) (h0:L.getD k 0≠0):AH L=L.getD k 0:=by
 rw [List.drop_eq_getElem_cons hk] at h
 rw [List.getD_eq_getElem?_getD,List.getElem?_eq_getElem hk] at h0 ⊢
 have h0:L[k]≠0:=h0
 rw [← h]
 unfold AH;rw [List.find?_cons_of_pos (by simpa using h0)]
theorem OL {w:World} {R:List Ch} {mx:Nat} {K:VolK} {ta:Ω} {tc:Nat} {M:MemM} {P:List PtM} {kd nm:Int} (hS0:Sep w ([Ab mx 99 [π K.tg],txP K ta tc M P]++R)) (hM:M.V.length=23168)  :
  CallsR prog 27 #[π mx,ν kd,ν nm] w (fun v w'=>∃ a c,v=.tuple #[.slice a (BE M P kd nm).length c,ν (ldE kd nm)]∧Sep w' ([BC 0 5 1 a ((BE M P kd nm)).length c (((BE M P kd nm)).map Ac),Ab mx 99 [π K.tg],txP K ta tc M P]++R)):=by
 have hS:Sep w [Ab mx 99 [π K.tg],txP K ta tc M P,Ch.many R]:=Sep.tail_many (xs:=[_,_]) hS0;clear hS0
 refine AQ func27 rfl (N:=29) ntmps27 (by show 3≤29;decide) [(0,π mx),(1,ν kd),(2,ν nm)] rfl fun _ h1=>sqr fun _ hK3=>mvs 2 h1 rfl fun _ h6=>wpList_nil<|hK3 _ _<|sqr fun _ hK8=>mvs 2 h6 rfl fun _ h2=>?_
 rcases bC (DO kd nm) with hc1 | hc1
 ·skip
  obtain ⟨q15,hq1⟩:=Ca hc1
  have hq16i:=ET hq1
  refine cl h2 rfl (cF func57) (Bh hS (TA (k:=q15.k) (n:=q15.n) (a:=q15.a) (s:=q15.s) hq1 _)) fun _ v1 w2 r1 h3=>?_
  obtain ⟨rfl,s1⟩:=r1
  refine mvs 3 h3 rfl fun _ h4=>so (wn rfl) fun _ hK1=>AB h4 rfl rfl rfl rfl (z:=[ν 0,ν 0,ν 0,ν 0]) (fun _=>rfl) s1 fun _ g1 w3 h5 s2 _ _=>hK1 _ _ ?_
  refine stA h5 s2 0 rfl rfl rfl κ rfl rfl rfl rfl fun _ w4 h7 s3 _=>mv h7 rfl fun _ h8=>h8.sn [9,8,7,6,0,1,2] rfl fun h9=>hK8 _ _<|sq fun _ hK2=>sqr fun _ hK4=>mvs 2 h9 rfl fun _ h10=>h10.sn [17,9,8,7,6,0,1,2] rfl fun h11=>hK4 _ _<|wcF h11 rfl rfl<|h11.sk [9,8,7,6,0,1,2] rfl fun h12=>?_
  refine wp_skip<|hK2 _ _<|sq fun _ hK5=>?_
  have s4:=s3.drew
  refine wp_region_held_drew (S:=fun w'=>Sep w' [Ab g1 126 [ν q15.k,ν q15.n,ν q15.a,ν q15.s],Ab mx 99 [π K.tg],txP K ta tc M P,Ch.many R]) κ s4 (fun hq2=>?_)
  refine tv1 hq2 h12 0 rfl rfl (v:=π mx) (fun w1 _=>(Ad h12 rfl rfl) w1) fun _ h13=>?_
  refine tv1 hq2 h13 1 rfl rfl (v:=π mx) (fun w1 _=>(Dz h13 rfl rfl) w1) fun _ h14=>?_
  refine tv1 hq2 h14 2 rfl rfl (v:=π mx) (fun w1 _=>(rfa h14 rfl rfl (fQ 0)) w1) fun _ h15=>?_
  refine tv1 hq2 h15 3 rfl rfl (v:=π K.tg) (fun w1 hSw=>(rld h15 rfl rfl (ldB υ34 rfl (hSw.get 1 rfl:Blk _ _ _ _) rfl))) fun _ h16=>?_
  refine tv1 hq2 h16 4 rfl rfl (v:=.pointer (some ⟨g1,2,none⟩)) (fun w1 _=>(rfa h16 rfl rfl (fQ 2)) w1) fun _ h17=>?_
  refine tv1 hq2 h17 5 rfl rfl (v:=ν q15.a) (fun w1 hSw=>(rld h17 rfl rfl (ldB υ3 rfl (hSw.get 0 rfl:Blk _ _ _ _) rfl))) fun _ h18=>?_
  refine tv1 hq2 h18 6 rfl rfl (v:=.pointer (some ⟨g1,3,none⟩)) (fun w1 _=>(rfa h18 rfl rfl (fQ 3)) w1) fun _ h19=>?_
  refine tv1 hq2 h19 7 rfl rfl (v:=ν q15.s) (fun w1 hSw=>(rld h19 rfl rfl (ldB υ3 rfl (hSw.get 0 rfl:Blk _ _ _ _) rfl))) fun _ h20=>?_
  refine to_ 8 rfl (wn rfl) κ fun _ hK6=>AJ h20 rfl rfl rfl (xs:=[.tmp 21,.tmp 23,.tmp 25]) rfl (cF func46) rfl (vs:=[π K.tg,ν q15.a,ν q15.s]) rfl (args:=#[π K.tg,ν q15.a,ν q15.s]) rfl (XG (at_:=q15.a) (n:=q15.s) (s4.pk [2,0,1,3] rfl) (PN hM hq1) (by unfold KY;omega) (by unfold KY;omega)) fun _ v2 w5 r2 h21=>?_
  obtain ⟨ra_x75,rc_x76,rfl,s5⟩:=r2
  refine hK6 _ _ (s5.pk [2,3,1,4] rfl) fun hq3=>?_
  refine tv1 hq3 h21 9 rfl rfl (v:=.slice ra_x75 ((Fq M P q15.a q15.s).length) rc_x76) (fun w1 _=>(SB h21 rfl rfl rfl) w1) fun _ h22=>?_
  refine tv1 hq3 h22 10 rfl rfl (v:=ν 0) (fun w1 _=>(SB h22 rfl rfl rfl) w1) fun _ h23=>?_
  refine h23.sk [28,27,26,25,24,23,22,21,20,19,18,9,8,7,0,1,2] rfl fun h24=>?_
  refine tv1 hq3 h24 11 rfl rfl (v:=.slice ra_x75 ((Fq M P q15.a q15.s).length) rc_x76) (fun w1 _=>(AP h24 rfl rfl) w1) fun _ h25=>?_
  refine h25.sk [6,28,27,26,25,24,23,22,21,20,19,18,9,8,0,1,2] rfl fun h26=>?_
  refine tv1 hq3 h26 12 rfl rfl (v:=ν 0) (fun w1 _=>(AP h26 rfl rfl) w1) fun _ h27=>?_
  refine h27.sk [7,6,9,8,0,1,2] rfl fun h28=>?_
  refine wpAnyH_done κ ?_ _
  refine hK5 _ _ ?_
  refine wp_ret ?_
  try simp only [Exit.then,Exit.inBlock]
  refine Bg (v:=.tuple #[.slice ra_x75 ((Fq M P q15.a q15.s).length) rc_x76,ν 0]) (GI h28 rfl rfl rfl) h28.defs ?_
  exact ⟨ra_x75,rc_x76,by rw [Db hq1];unfold ldE;rw [hc1];rfl,by rw [Db hq1];exact Sep.tail_un (xs:=[_,_,_]) (s5.pk [0,3,1,4] rfl)⟩
 ·skip
  have hq4:=Kh hc1
  refine cl h2 rfl (cF func57) (Bh hS (TB hq4 _)) fun _ v3 w6 r3 h29=>?_
  obtain ⟨rfl,s6⟩:=r3
  refine mvs 3 h29 rfl fun _ h30=>so (wn rfl) fun _ hK7=>AB h30 rfl rfl rfl rfl (z:=[ν 0,ν 0,ν 0,ν 0]) (fun _=>rfl) s6 fun _ g2 w7 h31 s7 _ _=>hK7 _ _ ?_
  refine stA h31 s7 0 rfl rfl rfl κ rfl rfl rfl rfl fun _ w8 h32 s8 _=>mv h32 rfl fun _ h33=>h33.sn [9,8,7,6,0,1,2] rfl fun h34=>hK8 _ _<|sq fun _ hK9=>sqr fun _ hK10=>mvs 2 h34 rfl fun _ h35=>h35.sn [17,9,8,7,6,0,1,2] rfl fun h36=>hK10 _ _<|wcT h36 rfl rfl<|h36.sk [9,8,7,6,0,1,2] rfl fun h37=>?_
  refine sqr fun _ hK11=>h37.sk [9,8,7,0,1,2] rfl fun h38=>mv h38 rfl fun _ h39=>h39.sk [6,9,8,0,1,2] rfl fun h40=>mv h40 rfl fun _ h41=>wpList_nil<|hK11 _ _<|wp_ret ?_
  try simp only [Exit.then,Exit.inBlock]
  refine Bg (v:=.tuple #[.slice none 0 0,.int .i64 1]) (GI h41 rfl rfl rfl) h41.defs ?_
  exact ⟨none,0,by rw [Da hq4];unfold ldE;rw [hc1];rfl,by rw [Da hq4];exact Acz (Sep.tail_un (xs:=[_,_]) (s8.pk [1,2,3] rfl))⟩
theorem CX {w:World} {R:List Ch} {mx:Nat} {K:VolK} {ta:Ω} {tc:Nat} {M:MemM} {P:List PtM} {kd nm:Int} {ba:Ω} {bc:Nat} {xs:Λ} (hS0:Sep w ([BC 0 5 1 ba (xs).length bc ((xs).map Ac),Ab mx 99 [π K.tg],txP K ta tc M P]++R)) (hM:M.V.length=23168) (hx:xs.length≤1000000) :
  CallsR prog 30 #[π mx,ν kd,ν nm,.slice ba xs.length bc] w (fun v w'=>∃ ta' tc',v=ν (stE M P kd nm xs.length)∧Sep w' ([BC 0 5 1 ba (xs).length bc ((xs).map Ac),Ab mx 99 [π K.tg],txP K ta' tc' M (stP M P kd nm xs)]++R)):=by
 have hS:Sep w [BC 0 5 1 ba (xs).length bc ((xs).map Ac),Ab mx 99 [π K.tg],txP K ta tc M P,Ch.many R]:=Sep.tail_many (xs:=[_,_,_]) hS0;clear hS0
 refine AQ func30 rfl (N:=27) ntmps30 (by show 4≤27;decide) [(0,π mx),(1,ν kd),(2,ν nm),(3,.slice ba xs.length bc)] rfl fun _ h1=>sqr fun _ hK3=>mv h1 rfl fun _ h4=>wpList_nil<|hK3 _ _<|sqr fun _ hK6=>mvs 2 h4 rfl fun _ h9=>?_
 rcases bC (DO kd nm) with hc1 | hc1
 ·skip
  obtain ⟨q13,hq1⟩:=Ca hc1
  have hq14i:=ET hq1
  refine cl h9 rfl (cF func57) (Bh hS (TA (k:=q13.k) (n:=q13.n) (a:=q13.a) (s:=q13.s) hq1 _)) fun _ v1 w2 r1 h2=>?_
  obtain ⟨rfl,s1⟩:=r1
  refine mvs 3 h2 rfl fun _ h3=>so (wn rfl) fun _ hK1=>AB h3 rfl rfl rfl rfl (z:=[ν 0,ν 0,ν 0,ν 0]) (fun _=>rfl) s1 fun _ g1 w3 h5 s2 _ _=>hK1 _ _ ?_
  refine stA h5 s2 0 rfl rfl rfl κ rfl rfl rfl rfl fun _ w4 h6 s3 _=>mv h6 rfl fun _ h7=>h7.sn [10,9,8,0,1,2,3] rfl fun h8=>hK6 _ _<|sq fun _ hK2=>sqr fun _ hK4=>mvs 2 h8 rfl fun _ h10=>h10.sn [18,10,9,8,0,1,2,3] rfl fun h11=>hK4 _ _<|wcF h11 rfl rfl<|h11.sk [10,9,8,0,1,2,3] rfl fun h12=>?_
  refine wp_skip<|hK2 _ _<|sq fun _ hK5=>?_
  have s4:=s3.drew
  refine wp_region_held_drew (S:=fun w'=>Sep w' [Ab g1 126 [ν q13.k,ν q13.n,ν q13.a,ν q13.s],BC 0 5 1 ba (xs).length bc ((xs).map Ac),Ab mx 99 [π K.tg],Ch.many R]) κ (s4.pk [0,1,2,4] rfl) (fun hq2=>?_)
  refine tv1 hq2 h12 0 rfl rfl (v:=π mx) (fun w1 _=>(Ad h12 rfl rfl) w1) fun _ h13=>?_
  refine tv1 hq2 h13 1 rfl rfl (v:=π mx) (fun w1 _=>(Dz h13 rfl rfl) w1) fun _ h14=>?_
  refine tv1 hq2 h14 2 rfl rfl (v:=π mx) (fun w1 _=>(rfa h14 rfl rfl (fQ 0)) w1) fun _ h15=>?_
  refine tv1 hq2 h15 3 rfl rfl (v:=π K.tg) (fun w1 hSw=>(rld h15 rfl rfl (ldB υ34 rfl (hSw.get 2 rfl:Blk _ _ _ _) rfl))) fun _ h16=>?_
  refine tv1 hq2 h16 4 rfl rfl (v:=.pointer (some ⟨g1,2,none⟩)) (fun w1 _=>(rfa h16 rfl rfl (fQ 2)) w1) fun _ h17=>?_
  refine tv1 hq2 h17 5 rfl rfl (v:=ν q13.a) (fun w1 hSw=>(rld h17 rfl rfl (ldB υ3 rfl (hSw.get 0 rfl:Blk _ _ _ _) rfl))) fun _ h18=>?_
  refine tv1 hq2 h18 6 rfl rfl (v:=.slice ba xs.length bc) (fun w1 _=>(Ad h18 rfl rfl) w1) fun _ h19=>?_
  refine to_ 7 rfl (wn rfl) κ fun _ hK7=>AJ h19 rfl rfl rfl (xs:=[.tmp 22,.tmp 24,.tmp 25]) rfl (cF func65) rfl (vs:=[π K.tg,ν q13.a,.slice ba xs.length bc]) rfl (args:=#[π K.tg,ν q13.a,.slice ba xs.length bc]) rfl (Abg (at_:=q13.a) (xs:=xs) (s4.pk [3,0,1,2,4] rfl) (s4.get 1 rfl:Own _ _ _ _ _ _ _ _).row (by unfold KY;omega) hx) fun _ v2 w5 r2 h20=>?_
  obtain ⟨tax71,tcx72,rfl,s5⟩:=r2
  refine hK7 _ _ (s5.pk [1,2,3,4] rfl) fun hq3=>h20.sk [26,25,24,23,22,21,20,19,10,9,0,1,2,3] rfl fun h21=>?_
  refine tv1 hq3 h21 8 rfl rfl (v:=ν (Ov M P q13.a xs.length)) (fun w1 _=>(AP h21 rfl rfl) w1) fun _ h22=>?_
  refine h22.sk [8,10,9,0,1,2,3] rfl fun h23=>?_
  refine wpAnyH_done κ ?_ _
  refine hK5 _ _ ?_
  refine wp_ret ?_
  try simp only [Exit.then,Exit.inBlock]
  refine Bg (v:=ν (Ov M P q13.a xs.length)) (Cl h23 rfl rfl) h23.defs ?_
  exact ⟨tax71,tcx72,by unfold stE;rw [hq1],by unfold stP;rw [hq1];exact Sep.tail_un (xs:=[_,_,_]) (s5.pk [2,3,0,4] rfl)⟩
 ·skip
  have hq4:=Kh hc1
  refine cl h9 rfl (cF func57) (Bh hS (TB hq4 _)) fun _ v3 w6 r3 h24=>?_
  obtain ⟨rfl,s6⟩:=r3
  refine mvs 3 h24 rfl fun _ h25=>so (wn rfl) fun _ hK8=>AB h25 rfl rfl rfl rfl (z:=[ν 0,ν 0,ν 0,ν 0]) (fun _=>rfl) s6 fun _ g2 w7 h26 s7 _ _=>hK8 _ _ ?_
  refine stA h26 s7 0 rfl rfl rfl κ rfl rfl rfl rfl fun _ w8 h27 s8 _=>mv h27 rfl fun _ h28=>h28.sn [10,9,8,0,1,2,3] rfl fun h29=>hK6 _ _<|sq fun _ hK9=>sqr fun _ hK10=>mvs 2 h29 rfl fun _ h30=>h30.sn [18,10,9,8,0,1,2,3] rfl fun h31=>hK10 _ _<|wcT h31 rfl rfl<|h31.sk [10,9,8,0,1,2,3] rfl fun h32=>?_
  refine sqr fun _ hK11=>h32.sk [10,9,0,1,2,3] rfl fun h33=>mv h33 rfl fun _ h34=>wpList_nil<|hK11 _ _<|wp_ret ?_
  try simp only [Exit.then,Exit.inBlock]
  refine Bg (v:=.int .i64 1) (Cl h34 rfl rfl) h34.defs ?_
  exact ⟨ta,tc,by unfold stE;rw [hq4],by unfold stP;rw [hq4];exact Sep.tail_un (xs:=[_,_,_]) (s8.pk [1,2,3,4] rfl)⟩
theorem FC {w:World} {R:List Ch} {mx:Nat} {K:VolK} {ta:Ω} {tc:Nat} {M:MemM} {P:List PtM} {i:Int} (hS0:Sep w ([Ab mx 99 [π K.tg],txP K ta tc M P]++R)) (hM:M.V.length=23168)  :
  CallsR prog 8 #[π mx,ν i] w (fun v w'=>v=.tuple #[.agg (Ah (Al M P i)).toArray,ν (AX M P i)]∧Sep w' ([Ab mx 99 [π K.tg],txP K ta tc M P]++R)):=by
 have hS:Sep w [Ab mx 99 [π K.tg],txP K ta tc M P,Ch.many R]:=Sep.tail_many (xs:=[_,_]) hS0;clear hS0
 refine AQ func8 rfl (N:=28) ntmps8 (by show 2≤28;decide) [(0,π mx),(1,ν i)] rfl fun _ h1=>sqr fun _ hK3=>so (wn rfl) fun _ hK1=>AB h1 rfl rfl rfl rfl (z:=[ν 0,ν 0,ν 0,ν 0,ν 0,ν 0,ν 0,ν 0,ν 0,ν 0,ν 0,ν 0,ν 0,ν 0,ν 0]) (fun _=>rfl) hS fun _ g4 w7 h5 s8 _ _=>hK1 _ _ ?_
 refine mv h5 rfl fun _ h2=>wpList_nil<|hK3 _ _<|sqr fun _ hK2=>mvs 2 h2 rfl fun _ h3=>cl h3 rfl (cF func27) (OL (kd:=4) (nm:=i) (s8.pk [1,2,0,3] rfl) hM) fun _ v1 w1 r1 h4=>?_
 obtain ⟨ra_x19,rc_x20,rfl,s1⟩:=r1
 refine mvs 5 h4 rfl fun _ h6=>h6.sn [7,6,5,4,0,1] rfl fun h7=>hK2 _ _<|sq fun _ hK4=>sqr fun _ hK5=>mv h7 rfl fun _ h8=>bv h8 (z:=.bool (decide (ldE 4 i≠0))) rfl (cNe _ _ _ _ rfl) fun _ h9=>h9.sn [16,7,6,5,4,0,1] rfl fun h10=>hK5 _ _ ?_
 rcases bC (decide (ldE 4 i≠0)) with hc1 | hc1
 ·skip
  have hp1:ldE 4 i≠0:=(dT hc1)
  have hh:=Abq (b:=false) (dT hc1)
  refine wcT h10 rfl hc1<|h10.sk [7,6,5,4,0,1] rfl fun h11=>sqr fun _ hK6=>bu h11 (v:=.agg (Ah AT).toArray) rfl (fun w=>κ) fun _ h12=>mv h12 rfl fun _ h13=>stA h13 s1 3 rfl rfl rfl κ rfl rfl rfl rfl fun _ w2 h14 s2 _=>h14.sk [18,17,7,6,4,0,1] rfl fun h15=>mv h15 rfl fun _ h16=>h16.sn [5,7,6,4,0,1] rfl fun h17=>hK6 _ _ ?_
  refine wp_ret ?_
  try simp only [Exit.then,Exit.inBlock]
  refine rCt h17 s2 3 υ25 rfl rfl rfl rfl rfl ?_
  exact ⟨by rw [UU hh];unfold AX ldE;rw [hh];rfl,Sep.tail_un (xs:=[_,_]) (s2.pk [1,2,4] rfl)⟩
 ·skip
  have hp2:¬ (ldE 4 i≠0):=(dF hc1)
  have hh:=Abq (b:=true) (dF hc1)
  refine wcF h10 rfl hc1<|h10.sk [7,6,5,4,0,1] rfl fun h18=>wp_skip<|hK4 _ _<|sqr fun _ hK7=>mv h18 rfl fun _ h19=>cl h19 rfl (cF func28) (Bh s1 (Qq _ _ (BE M P 4 i) _ (s1.get 0 rfl:Own _ _ _ _ _ _ _ _).row)) fun _ v2 w3 r2 h20=>?_
  obtain ⟨rfl,s3⟩:=r2
  refine mvs 3 h20 rfl fun _ h21=>so (wn rfl) fun _ hK8=>AB h21 rfl rfl rfl rfl (z:=[ν 0,ν 0,ν 0,ν 0,ν 0,ν 0,ν 0,ν 0,ν 0,ν 0,ν 0,ν 0,ν 0,ν 0,ν 0]) (fun _=>rfl) s3 fun _ g1 w4 h22 s4 _ _=>hK8 _ _ ?_
  refine stA h22 s4 0 rfl rfl rfl κ rfl rfl rfl rfl fun _ w5 h23 s5 _=>h23.sk [8,23,22,19,21,20,6,5,4,0,1] rfl fun h24=>mv h24 rfl fun _ h25=>h25.sn [7,8,6,5,4,0,1] rfl fun h26=>hK7 _ _<|sq fun _ hK9=>sqr fun _ hK10=>mv h26 rfl fun _ h27=>bv h27 (z:=.bool (decide (rdE (BE M P 4 i)≠0))) rfl (cNe _ _ _ _ rfl) fun _ h28=>h28.sn [25,7,8,6,5,4,0,1] rfl fun h29=>hK10 _ _ ?_
  rcases bC (decide (rdE (BE M P 4 i)≠0)) with hc2 | hc2
  ·skip
   have hp3:rdE (BE M P 4 i)≠0:=(dT hc2)
   refine wcT h29 rfl hc2<|h29.sk [7,8,6,5,4,0,1] rfl fun h30=>sqr fun _ hK11=>bu h30 (v:=.agg (Ah AT).toArray) rfl (fun w=>κ) fun _ h31=>stA h31 s5 4 rfl rfl rfl κ rfl rfl rfl rfl fun _ w6 h32 s6 _=>h32.sk [26,7,8,6,4,0,1] rfl fun h33=>mv h33 rfl fun _ h34=>h34.sn [5,7,8,6,4,0,1] rfl fun h35=>hK11 _ _<|wp_ret ?_
   try simp only [Exit.then,Exit.inBlock]
   refine rCt h35 s6 4 υ25 rfl rfl rfl rfl rfl ?_
   exact ⟨by unfold AX Al;rw [hh,Aa5 hp3,if_neg hp3];rfl,Sep.tail_un (xs:=[_,_]) (s6.pk [2,3,5] rfl)⟩
  ·skip
   have hp4:¬ (rdE (BE M P 4 i)≠0):=(dF hc2)
   refine wcF h29 rfl hc2<|h29.sk [7,8,6,5,4,0,1] rfl fun h36=>wp_skip<|hK9 _ _<|sqr fun _ hK12=>sw1 h36 rfl (v:=.agg (Ah (rdI (BE M P 4 i))).toArray) (rld h36 rfl rfl (ldA υ25 rfl (n:=15) κ (s5.get 0 rfl:Blk _ _ _ _) rfl rfl)) fun _ h37=>stA h37 s5 4 rfl rfl rfl κ rfl rfl rfl rfl fun _ w8 h38 s7 _=>h38.sk [27,7,8,6,4,0,1] rfl fun h39=>mv h39 rfl fun _ h40=>h40.sn [5,7,8,6,4,0,1] rfl fun h41=>hK12 _ _ ?_
   refine wp_ret ?_
   try simp only [Exit.then,Exit.inBlock]
   refine rCt h41 s7 4 υ25 rfl rfl rfl rfl rfl ?_
   exact ⟨by unfold AX Al;rw [hh,if_pos (Classical.not_not.1 hp4)];rfl,Sep.tail_un (xs:=[_,_]) (s7.pk [2,3,5] rfl)⟩
theorem CF {w:World} {R:List Ch} {mx:Nat} {K:VolK} {ta:Ω} {tc:Nat} {M:MemM} {P:List PtM} {i:Int} {x:InoT} (hS0:Sep w ([Ab mx 99 [π K.tg],txP K ta tc M P]++R)) (hM:M.V.length=23168)  :
  CallsR prog 9 #[π mx,ν i,.agg (Ah x).toArray] w (fun v w'=>∃ ta' tc',v=ν (Bj M P i x)∧Sep w' ([Ab mx 99 [π K.tg],txP K ta' tc' M (Br M P i x)]++R)):=by
 have hS:Sep w [Ab mx 99 [π K.tg],txP K ta tc M P,Ch.many R]:=Sep.tail_many (xs:=[_,_]) hS0;clear hS0
 refine AQ func9 rfl (N:=21) ntmps9 (by show 3≤21;decide) [(0,π mx),(1,ν i),(2,.agg (Ah x).toArray)] rfl fun _ h1=>sqr fun _ hK3=>so (wn rfl) fun _ hK1=>FV h1 rfl rfl rfl rfl rfl (z:=(Ah x)) rfl hS fun _ g4 w7 h5 s8 _ _=>hK1 _ _ ?_
 refine mv h5 rfl fun _ h2=>wpList_nil<|hK3 _ _<|sqr fun _ hK2=>sw1 h2 rfl (v:=.agg (Ah x).toArray) (rld h2 rfl rfl (ldA υ25 rfl (n:=15) κ (s8.get 0 rfl:Blk _ _ _ _) rfl rfl)) fun _ h3=>cl h3 rfl (cF func29) (Aa2 s8 x) fun _ v1 w1 r1 h4=>?_
 obtain ⟨pa_x17,pc_x18,rfl,s1⟩:=r1
 refine mvs 5 h4 rfl fun _ h6=>h6.sn [8,7,6,5,0,1,2] rfl fun h7=>hK2 _ _<|sq fun _ hK4=>sqr fun _ hK5=>mv h7 rfl fun _ h8=>bv h8 (z:=.bool (decide (Dg x≠0))) rfl (cNe _ _ _ _ rfl) fun _ h9=>h9.sn [15,8,7,6,5,0,1,2] rfl fun h10=>hK5 _ _ ?_
 rcases bC (decide (Dg x≠0)) with hc1 | hc1
 ·skip
  have hp1:Dg x≠0:=(dT hc1)
  refine wcT h10 rfl hc1<|h10.sk [8,7,6,5,0,1,2] rfl fun h11=>sqr fun _ hK6=>mv h11 rfl fun _ h12=>h12.sk [16,8,7,5,0,1,2] rfl fun h13=>mv h13 rfl fun _ h14=>h14.sn [6,8,7,5,0,1,2] rfl fun h15=>hK6 _ _<|wp_ret ?_
  try simp only [Exit.then,Exit.inBlock]
  refine Bg (v:=.int .i64 (Dg x)) (Cl h15 rfl rfl) h15.defs ?_
  exact ⟨ta,tc,by unfold Bj;rw [if_neg hp1],by unfold Br;rw [if_neg hp1];exact Sep.tail_un (xs:=[_,_]) (s1.pk [2,3,4] rfl)⟩
 ·skip
  have hp2:¬ (Dg x≠0):=(dF hc1)
  refine wcF h10 rfl hc1<|h10.sk [8,7,6,5,0,1,2] rfl fun h16=>wp_skip<|hK4 _ _<|sqr fun _ hK7=>mvs 3 h16 rfl fun _ h17=>cl h17 rfl (cF func30) (CX (kd:=4) (nm:=i) (xs:=(Cc x)) (s1.pk [0,2,3,1,4] rfl) hM (Aa0 _)) fun _ v2 w2 r2 h18=>?_
  obtain ⟨tax63,tcx64,rfl,s2⟩:=r2
  refine h18.sk [20,19,18,17,8,7,5,0,1,2] rfl fun h19=>mv h19 rfl fun _ h20=>h20.sn [6,8,7,5,0,1,2] rfl fun h21=>hK7 _ _<|wp_ret ?_
  try simp only [Exit.then,Exit.inBlock]
  refine Bg (v:=ν (stE M P 4 i (Cc x).length)) (Cl h21 rfl rfl) h21.defs ?_
  exact ⟨tax63,tcx64,by unfold Bj;rw [if_pos (Classical.not_not.1 hp2)],by unfold Br;rw [if_pos (Classical.not_not.1 hp2)];exact Sep.tail_un (xs:=[_,_]) (s2.pk [1,2,4] rfl)⟩
theorem TK {w:World} {R:List Ch} {mx:Nat} {K:VolK} {ta:Ω} {tc:Nat} {M:MemM} {P:List PtM} (hS0:Sep w ([Ab mx 99 [π K.tg],txP K ta tc M P]++R)) (hM:M.V.length=23168)  :
  CallsR prog 11 #[π mx] w (fun v w'=>v=.agg (Af (As M P))∧Sep w' ([Ab mx 99 [π K.tg],txP K ta tc M P]++R)):=by
 have hS:Sep w [Ab mx 99 [π K.tg],txP K ta tc M P,Ch.many R]:=Sep.tail_many (xs:=[_,_]) hS0;clear hS0
 refine AQ func11 rfl (N:=18) ntmps11 (by show 1≤18;decide) [(0,π mx)] rfl fun _ h1=>sqr fun _ hK3=>so (wn rfl) fun _ hK1=>AB h1 rfl rfl rfl rfl (z:=(AD).map Ac) (fun _=>rfl) hS fun _ g4 w7 h5 s8 _ _=>hK1 _ _ ?_
 refine wpList_nil<|hK3 _ _<|sqr fun _ hK2=>mv h5 rfl fun _ h2=>cl h2 rfl (cF func27) (OL (kd:=3) (nm:=0) (s8.pk [1,2,0,3] rfl) hM) fun _ v1 w1 r1 h3=>?_
 obtain ⟨ra_x15,rc_x16,rfl,s1⟩:=r1
 refine mvs 5 h3 rfl fun _ h4=>h4.sn [3,2,0] rfl fun h6=>hK2 _ _<|sqr fun _ hK4=>mv h6 rfl fun _ h7=>cl h7 rfl (cF func32) (Bh s1 (Vj _ _ (BE M P 3 0) _ (s1.get 0 rfl:Own _ _ _ _ _ _ _ _).row)) fun _ v2 w2 r2 h8=>?_
 obtain ⟨rfl,s2⟩:=r2
 refine mvs 3 h8 rfl fun _ h9=>so (wn rfl) fun _ hK5=>AB h9 rfl rfl rfl rfl (z:=(AD).map Ac) (fun _=>rfl) s2 fun _ g1 w3 h10 s3 _ _=>hK5 _ _ ?_
 refine so (wn rfl) fun _ hK6=>QH h10 rfl rfl s3 0 rfl (by first | exact An _ | rfl | simp) (by first | exact An _ | rfl | simp) rfl rfl (cs':=[Ab g1 27 (((FG (BE M P 3 0))).map Ac),BC 0 5 1 ra_x15 ((BE M P 3 0)).length rc_x16 (((BE M P 3 0)).map Ac),Ab mx 99 [π K.tg],txP K ta tc M P,Ab g4 27 ((AD).map Ac),Ch.many R]) rfl fun _ w4 h11 s4 _=>hK6 _ _ ?_
 refine mv h11 rfl fun _ h12=>h12.sn [5,3,2,0] rfl fun h13=>hK4 _ _<|sqr fun _ hK7=>sw1 h13 rfl (v:=.agg (Af (FG (BE M P 3 0)))) (rld h13 rfl rfl (Dp υ27 (s4.get 0 rfl:Blk _ _ _ _) (by first | exact An _ | rfl | simp))) fun _ h14=>so (wn rfl) fun _ hK8=>QH h14 rfl rfl s4 4 rfl (by first | exact An _ | rfl | simp) (by first | exact An _ | rfl | simp) rfl rfl (cs':=[Ab g1 27 (((FG (BE M P 3 0))).map Ac),BC 0 5 1 ra_x15 ((BE M P 3 0)).length rc_x16 (((BE M P 3 0)).map Ac),Ab mx 99 [π K.tg],txP K ta tc M P,Ab g4 27 (((FG (BE M P 3 0))).map Ac),Ch.many R]) rfl fun _ w5 h15 s5 _=>hK8 _ _ ?_
 refine h15.sn [5,3,2,0] rfl fun h16=>hK7 _ _<|wp_ret ?_
 try simp only [Exit.then,Exit.inBlock]
 refine GV (v:=.agg (Af (FG (BE M P 3 0)))) (YC h16 rfl rfl (s5.get 4 rfl:Blk _ _ _ _) υ27 (An _)) h16.defs ?_
 exact ⟨rfl,Sep.tail_un (xs:=[_,_]) (s5.pk [2,3,5] rfl)⟩
theorem Fr {w:World} {R:List Ch} {mx:Nat} {K:VolK} {ta:Ω} {tc:Nat} {M:MemM} {P:List PtM} {xs:Λ} (hS0:Sep w ([Ab mx 99 [π K.tg],txP K ta tc M P]++R)) (hM:M.V.length=23168) (h2:xs.length=16) :
  CallsR prog 10 #[π mx,.agg (Af xs)] w (fun v w'=>∃ ta' tc',v=ν (stE M P 3 0 16)∧Sep w' ([Ab mx 99 [π K.tg],txP K ta' tc' M (stP M P 3 0 xs)]++R)):=by
 have hS:Sep w [Ab mx 99 [π K.tg],txP K ta tc M P,Ch.many R]:=Sep.tail_many (xs:=[_,_]) hS0;clear hS0
 refine AQ func10 rfl (N:=9) ntmps10 (by show 2≤9;decide) [(0,π mx),(1,.agg (Af xs))] rfl fun _ h1=>sqr fun _ hK3=>so (wn rfl) fun _ hK1=>FV h1 rfl rfl rfl rfl rfl (z:=(xs).map Ac) rfl hS fun _ g4 w7 h5 s8 _ _=>hK1 _ _ ?_
 refine mv h5 rfl fun _ h3=>wpList_nil<|hK3 _ _<|sqr fun _ hK2=>mv h3 rfl fun _ h4=>sw1 h4 rfl (v:=.agg (Af xs)) (rld h4 rfl rfl (Dp υ27 (s8.get 0 rfl:Blk _ _ _ _) h2)) fun _ h6=>cl h6 rfl (cF func31) (Ux s8 h2) fun _ v1 w1 r1 h7=>?_
 obtain ⟨pa_x19,pc_x20,rfl,s1⟩:=r1
 refine cl h7 rfl (cF func30) (CX (kd:=3) (nm:=0) (xs:=xs) (s1.pk [0,2,3,1,4] rfl) hM ω) fun _ v2 w2 r2 h8=>?_
 obtain ⟨tax28,tcx29,rfl,s2⟩:=r2
 refine h8.sk [8,7,6,5,3,0,1] rfl fun h9=>mv h9 rfl fun _ h10=>h10.sn [4,3,0,1] rfl fun h11=>hK2 _ _<|wp_ret ?_
 try simp only [Exit.then,Exit.inBlock]
 refine Bg (v:=ν (stE M P 3 0 xs.length)) (Cl h11 rfl rfl) h11.defs ?_
 exact ⟨tax28,tcx29,by rw [h2],Sep.tail_un (xs:=[_,_]) (s2.pk [1,2,4] rfl)⟩
theorem CP {w:World} {R:List Ch} {lg:Nat} {L:List Int} (hS0:Sep w ([Ab lg 31 (L.map iV)]++R)) (hl:L.length≤1000) :
  CallsR prog 38 #[.slice (some ⟨lg,0,none⟩) L.length L.length] w (fun v w'=>v=ν (AH L)∧Sep w' ([Ab lg 31 (L.map iV)]++R)):=by
 have hS:Sep w [Ab lg 31 (L.map iV),Ch.many R]:=Sep.tail_many (xs:=[_]) hS0;clear hS0
 refine AQ func38 rfl (N:=15) ntmps38 (by show 1≤15;decide) [(0,.slice (some ⟨lg,0,none⟩) L.length L.length)] rfl fun _ h1=>sqr fun _ hK3=>mv h1 rfl fun _ h4=>wpList_nil<|hK3 _ _<|sq fun _ hK6=>sqr fun _ hK7=>mv h4 rfl fun _ h8=>sv1 h8 rfl (v:=ν (L.length:Int)) (MC h8 rfl rfl υ146) fun _ h2=>mv h2 rfl fun _ h3=>wpList_nil<|hK7 _ _<|wp_block ?_
 refine Du (fun (k:Nat) a' w'=>Kn 15 [(7,ν (k:Int)),(6,ν (L.length:Int)),(5,.slice (some ⟨lg,0,none⟩) L.length L.length),(2,ν 0),(0,.slice (some ⟨lg,0,none⟩) L.length L.length)] a'∧Sep w' [Ab lg 31 (L.map iV),Ch.many R]∧(k≤L.length)∧(AH (L.drop k)=AH L)) (fun (k:Nat)=>L.length-k) 0 ⟨h3.subs rfl,hS,Nat.zero_le _,(by rw [List.drop_zero])⟩ ?_
 rintro k1 a1 w1 ⟨h5,s1,hk19,hf20⟩ K1 hK1
 refine sqr fun _ hK2=>bv h5 (z:=.bool (decide ((k1:Int)<(L.length:Int)))) rfl (cLt _ _ _ _ rfl) fun _ h6=>wpList_nil<|hK2 _ _<|sq fun _ hK4=>?_
 rcases bC (decide ((k1:Int)<(L.length:Int))) with hc1 | hc1
 ·skip
  have hp1:(k1:Int)<(L.length:Int):=(dT hc1)
  refine wcT h6 rfl hc1<|h6.sk [7,6,5,2,0] rfl fun h7=>wp_skip<|hK4 _ _<|sq fun _ hK5=>wp_block ?_
  refine sqr fun _ hK8=>sv1 h7 rfl (v:=.pointer (some ⟨lg,k1,none⟩)) (BR h7 rfl rfl rfl (fun w=>ixS υ146 κ (sz:=1) (j:=k1) rfl ω (Nat.mul_one _) w)) fun _ h9=>sw1 h9 rfl (v:=ν (L.getD k1 0)) (rld h9 rfl rfl (ldB υ31 rfl (s1.get 0 rfl:Blk _ _ _ _) (Ack ω))) fun _ h10=>mv h10 rfl fun _ h11=>h11.sn [4,7,6,5,2,0] rfl fun h12=>hK8 _ _<|sqr fun _ hK9=>mv h12 rfl fun _ h13=>bv h13 (z:=.bool (decide (L.getD k1 0≠0))) rfl (cNe _ _ _ _ rfl) fun _ h14=>h14.sk [12,4,7,6,5,2,0] rfl fun h15=>?_
  refine wpList_nil<|hK9 _ _ ?_
  rcases bC (decide (L.getD k1 0≠0)) with hc2 | hc2
  ·skip
   have hp2:L.getD k1 0≠0:=(dT hc2)
   refine wcT h15 rfl hc2<|h15.sk [4,7,6,5,2,0] rfl fun h16=>sqr fun _ hK10=>mv h16 rfl fun _ h17=>h17.sk [13,4,7,6,5,0] rfl fun h18=>mv h18 rfl fun _ h19=>h19.sn [2,4,7,6,5,0] rfl fun h20=>hK10 _ _<|wp_ret ?_
   try simp only [Exit.then,Exit.inBlock]
   refine Bg (v:=.int .i64 (L.getD k1 0)) (Cl h20 rfl rfl) h20.defs ?_
   exact ⟨by rw [PB hf20 ω ω],Sep.tail_un (xs:=[_]) s1⟩
  ·skip
   have hp3:¬ (L.getD k1 0≠0):=(dF hc2)
   refine wcF h15 rfl hc2<|h15.sk [4,7,6,5,2,0] rfl fun h21=>wp_skip<|hK5 _ _<|wp_region_lit<|bv h21 (z:=ν ((k1+1:Nat):Int)) rfl (ES _ _ _ ω ω ω) fun _ h22=>h22.sk [14,4,6,5,2,0] rfl fun h23=>mv h23 rfl fun _ h24=>h24.sk [7,4,6,5,2,0] rfl fun h25=>wpList_nil ?_
   exact hK1 (k1+1) _ _ ⟨h25.subs rfl,s1,ω,(PC hf20 ω ω)⟩ ω
 ·skip
  have hp4:¬ ((k1:Int)<(L.length:Int)):=(dF hc1)
  refine wcF h6 rfl hc1<|h6.sk [7,6,5,2,0] rfl fun h26=>wp_exit ?_
  refine hK6 _ _ ?_
  refine sqr fun _ hK11=>h26.sk [7,6,5,0] rfl fun h27=>mv h27 rfl fun _ h28=>wpList_nil<|hK11 _ _<|wp_ret ?_
  try simp only [Exit.then,Exit.inBlock]
  refine Bg (v:=ν 0) (Cl h28 rfl rfl) h28.defs ?_
  exact ⟨by rw [← hf20,List.drop_of_length_le ω];rfl,Sep.tail_un (xs:=[_]) s1⟩
end
section
def YR (p M h:Nat) (c:UInt8):Nat:=((h ^^^ c.toNat)*p) % M
def PL (s p M:Nat) (l:Λ):Nat:=l.foldl (YR p M) s
theorem LT (s p M:Nat) (l:Λ) (c:UInt8):PL s p M (l++[c])=YR p M (PL s p M l) c:=by
  simp only [PL,List.foldl_append,List.foldl_cons,List.foldl_nil]
theorem Xq (s p M:Nat) (h:s<M) (l:Λ):PL s p M l<M:=by
  rcases List.eq_nil_or_concat l with e | ⟨q,c,e⟩
  · rw [e];exact h
  · rw [e,List.concat_eq_append,LT];exact Nat.mod_lt _ ω
abbrev Xr:Nat→UInt8→Nat:=YR 16777619 4294967296
abbrev KI:Λ→Nat:=PL 2166136261 16777619 4294967296
def DX (l:Λ):Nat:=KI l / 268435456
theorem RK (l:Λ) (c:UInt8):KI (l++[c])=Xr (KI l) c:=LT _ _ _ l c
theorem PM (l:Λ):KI l<4294967296:=Xq _ _ _ ω l
theorem Xp (l:Λ):DX l<16:=by have:=PM l;unfold DX;omega
theorem SV (s:ByteArray) (k:Nat) (h:k<s.size):s.data.toList.take (k+1)=s.data.toList.take k++[s[k]]:=by
  rw [List.take_succ_eq_append_getElem (by simpa using h)];rfl
end
section
theorem Xs (s:ByteArray) (hs:s.size≤1000) (w:World) :
    Calls prog 173 #[.string s] w fun e w'=>e=.returned (ν (DX s.data.toList:Int))∧w=w':=by
  go_enter func173,ntmps173
  go_wp2_with fail
  go_loopw [3,7] (fun x k wr=>∃ j:Nat,j≤s.size∧k=ν j∧x=.int .u32 (KI (s.data.toList.take j):Int)∧wr=w) (fun _ k _=>s.size-(intOf k).toNat)
  case atStart=>exact ⟨0,ω,rfl,rfl,rfl⟩
  case round=>
    obtain ⟨j,hj,rfl,rfl,rfl⟩:=hrel
    have hr:=PM (s.data.toList.take j)
    by_cases hlt:j<s.size
    · have hltd:decide ((j:Int)<(s.size:Int))=true:=decide_eq_true ω
      have htk:=SV s j hlt
      have hst:=RK (s.data.toList.take j) s[j]
      rw [← htk] at hst
      generalize KI (s.data.toList.take j)=h at *
      go_wp2_with fail
      go_roundw
      case rel=>
        refine ⟨j+1,ω,by go_num,?_,by first | rfl | trivial⟩
        rw [hst]
        have hc:=(s[j]).toNat_lt
        have hx:=u32_xor_nat h (s[j]).toNat hr ω
        have em:(((s[j]).toNat:Int) % 4294967296)=((s[j]).toNat:Int):=ω
        rw [em,hx]
        exact congrArg (Value.int IntKind.u32) rfl
      case measure=>simp [intOf];omega
    · obtain rfl:j=s.size:=ω
      have hltd:decide ((s.size:Int)<(s.size:Int))=false:=decide_eq_false ω
      have htk:s.data.toList.take s.size=s.data.toList:=List.take_of_length_le (by rw [Array.length_toList];exact Nat.le_refl _)
      have HF:Hid (DX s.data.toList=KI (s.data.toList.take s.size) / 268435456):=by rw [htk];rfl
      clear htk
      generalize KI (s.data.toList.take s.size)=h at *
      go_wp2_with fail
      go_ret
      exact ⟨GJ (by rw [HF.out];rfl),by first | rfl | trivial⟩
end
section
attribute [local go_sem] Oper.semAt_some
def BK (f:Nat):List Nat:=(List.range 16).map fun i=>(f+i) % 16
theorem KO (f:Nat):(BK f).length=16:=by simp [BK]
theorem Qm (f:Nat) {i:Nat} (h:i<16):(BK f)[i]? = some ((f+i) % 16):=by simp [BK,h]
theorem JC (f:Nat) {i:Nat} (h:i<16):(BK f).take (i+1)=(BK f).take i++[(f+i) % 16]:=by
  rw [List.take_add_one,Qm f h];rfl
theorem Mu (f:Nat):∀ x∈BK f,x<16:=by
  intro x hx
  simp only [BK,List.mem_map] at hx
  obtain ⟨i,_,rfl⟩:=hx
  exact Nat.mod_lt _ ω
theorem Mw (n:Nat) (w0:World) (s:ByteArray) (hs:s.size≤1000) (B:Nat) (hB:Blk w0 B 9 [.string s]) :
    Aby Fence.wide n prog 172 #[π B] (fun x:Nat=>#[ν (x:Int)]) (fun xs=>xs=BK (DX s.data.toList)) (fun q=>q <+: BK (DX s.data.toList)) 16 w0:=by
  have hd:Fence.wide.depth=none:=rfl
  intro l J Jx W hW hJ hJx hY0 h0
  have hdd:∀ k:Nat,(Fence.wide.depth.isSome=true→1≤k):=fun k h=>by rw [hd] at h;cases h
  have hY:∀ (m:Nat) (pre:List Nat) (x:Nat) (W1:World),J pre W1→pre.length<16→pre++[x] <+: BK (DX s.data.toList)→YieldAt Fence.wide m prog l #[ν (x:Int)] W1 fun e W'=>
    (e=.returned (.bool true)∧J (pre++[x]) W'∧KeepUp W.heap.size W1 W')∨(e=.returned (.bool false)∧Jx (pre++[x]) W'):=fun m pre x W1 a b c=>GP hd m (hY0 pre x W1 a b c)
  have c0:W.cell? ⟨B,0,none⟩=some (.string s):=((hB.mono hW).cell (i:=0) (by simp))
  have HC:=hid (fun w1=>(callsIn_wide (n:=n-1)).2 (Xs s hs w1))
  have hf:=Xp s.data.toList
  generalize DX s.data.toList=f at *
  have HY:=hid hY;have H0:=hid h0
  clear hY hY0 h0 hW hB hJ hJx
  refine callsIn_of_wp func172 rfl trivial ?_ rfl
  simp only [ntmps172,List.size_toArray,List.length_cons,List.length_nil,Nat.reduceAdd,Nat.reduceSub,Array.replicate_succ,Array.replicate_zero,List.push_toArray,List.append_toArray,List.nil_append,List.cons_append]
  gi_wp2_with ((try refine ⟨hdd _,?_⟩);(try refine ⟨trivial,?_⟩);gi_at_call 173;refine (HC.out _).mono ?_;rintro e W1 ⟨rfl,rfl⟩)
  gi_loopw [7] (fun i wr=>∃ j:Nat,j≤16∧i=ν j∧J ((BK f).take j) wr) (fun i _=>16-(intOf i).toNat)
  case atStart=>exact ⟨0,ω,rfl,by simpa using H0.out⟩
  case round=>
    obtain ⟨j,hj,rfl,hJw⟩:=hrel
    by_cases hjc:j<16
    · have dj:decide ((j:Int)<16)=true:=decide_eq_true ω
      have ij:(j:Int)<16:=ω
      obtain ⟨fn,tmps,assign,body,hy,hR⟩:=HY.out (n-1) ((BK f).take j) ((f+j) % 16) wr hJw (by rw [List.length_take,KO];omega) (by rw [← JC f hjc];exact List.take_prefix _ _)
      rw [← JC f hjc] at hR
      have hq:(f+j) % 16<16:=Nat.mod_lt _ ω
      have e1:IntKind.i64.wrap ((f:Int)+j)=f+j:=IntWalk.i64_in _ ω
      have e2:((f:Int)+j).tmod 16=(((f+j) % 16:Nat):Int):=by rw [show (f:Int)+j=((f+j:Nat):Int) by omega];rfl
      have HPr:Hid ((BK f).take (j+1) <+: BK f):=List.take_prefix _ _
      generalize (f+j) % 16=q at *
      have e3:IntKind.i64.wrap (q:Int)=q:=IntWalk.i64_in _ ω
      have HR:=hid hR
      clear hR hJw
      gi_wp2
      refine HR.out.mono ?_
      rintro e W3 (⟨rfl,hJ3,hk3⟩ | ⟨rfl,hJx3⟩)
      · have HJ3:=hid hJ3
        clear hJ3 hk3
        gi_wp2
        go_roundw
        case rel=>exact ⟨j+1,ω,by go_num,HJ3.out⟩
        case measure=>simp [intOf];omega
      · have HJX:=hid hJx3
        clear hJx3
        gi_wp2
        (try simp only [Exit.inBlock,Exit.then]);refine bodyPost_ret (results_none rfl _ _ _) rfl ?_
        exact ⟨⟨_,rfl⟩,.inr ⟨_,HPr.out,HJX.out⟩⟩
    · obtain rfl:j=16:=ω
      have HJ:=hid hJw
      clear hJw
      gi_wp2
      go_end0
      exact ⟨⟨_,rfl⟩,.inl ⟨_,rfl,by have:=HJ.out;rwa [List.take_of_length_le (by rw [KO];omega)] at this⟩⟩
end
section
open Go.RowKit Go.Shelf
attribute [local go_sem] Oper.semAt_some
structure EntT where
  nm:ByteArray
  ino:Int
def Rr (e:EntT):List Value:=[.string e.nm,ν e.ino]
def Aq (t:List EntT):List Value:=t.flatMap Rr
theorem EH (t:List EntT):∀ i,(h:i<t.length)→(Aq t)[2*i]? = some (.string t[i].nm)∧(Aq t)[2*i+1]? = some (ν t[i].ino):=by
  induction t with
  | nil=>intro i h;cases h
  | cons e r ih=>
    intro i h
    cases i with
    | zero=>exact ⟨rfl,rfl⟩
    | succ k=>
      have:=ih k (by simpa using h)
      rw [show 2*(k+1)=2*k+1+1 by omega]
      exact this
theorem BL (t:List EntT):(Aq t).length=2*t.length:=by
  induction t with
  | nil=>rfl
  | cons e r ih=>show (Rr e++Aq r).length=_;rw [List.length_append,ih];simp [Rr];omega
theorem UV:(⟨#[]⟩:ByteArray).toList.isEmpty=true:=by
  rw [← decide_eq_emptyBytes];exact decide_eq_true rfl
theorem Mv (s:ByteArray) (w:World) :
    Calls prog 140 #[.string s] w fun e w'=>e=.returned (.func (.func 172) #[] #[π w.heap.size])∧w'=w.alloc (.cells #[.string s] 9):=by
  go_enter func140,ntmps140
  go_wp2
  go_ret
  exact ⟨rfl,rfl⟩
def RL (t:List EntT) (s:ByteArray) (x:Nat):Bool:=decide ((t.getD x ⟨⟨#[]⟩,0⟩).nm=s)
def Adu (o:Option Nat):Int:=match o with | none=>-1 | some x=>x
def AW (t:List EntT) (s:ByteArray):Int:=if s=⟨#[]⟩ then -1 else Adu ((BK (DX s.data.toList)).find? (RL t s))
theorem RT {s:ByteArray} (h:¬ s=⟨#[]⟩):s.toList.isEmpty=false:=by
  rw [← decide_eq_emptyBytes];exact decide_eq_false h
theorem EA {fn:Func} {c:Tmp} (h:fn.results=#[.cell c 3]) {tmps:Array Value} {w:World} {g:Nat} {e:TypeId} {v:Int} (hc:tmps.getD c undef=π g) (hb:Blk w g e [ν v]) :
    (results fn tmps).run prog w=.ok (ν v) w:=by
  have hc':tmps[c]?.getD undef=π g:=by simpa using hc
  have z:w.cell? ⟨g,0,none⟩=some (ν v):=hb.cell (i:=0) (by simp)
  have ub:=υ3
  have ib:(prog.info? 3).map (·.size)=some 1:=κ
  have hv2:(loadVar 3 ⟨g,0,none⟩).run prog w=.ok (ν v) w:=by go_simp
  simp [results,h,hc',asAddr,hv2]
theorem KC {α:Type} {p:α→Bool} {l q:List α} {x:α} (h:q++[x] <+: l) (hq:∀ y∈q,p y=false) (hx:p x=true):l.find? p=some x:=by
  obtain ⟨r,rfl⟩:=h
  rw [List.append_assoc,List.find?_append]
  have:q.find? p=none:=List.find?_eq_none.2 (fun y hy=>by rw [hq y hy];simp)
  rw [this]
  simp [hx]
theorem CI {W:World} {n:Nat} (h:W.heap.size=n) (e:TypeId) (L:List Value):Blk (W.alloc (.cells L.toArray e)) n e L:=by subst h;exact heap_alloc_new W _
theorem JU (W:World) (o:Obj):Below W.heap.size W (W.alloc o):=(Below.refl _ W).alloc (Nat.le_refl _) o
theorem Tw (a b:ByteArray):(a.toList == b.toList)=decide (a=b):=by
  by_cases h:a=b
  · subst h;simp
  · rw [decide_eq_false h]
    exact beq_eq_false_iff_ne.2 (fun q=>h (by rw [ByteArray.toList_eq,ByteArray.toList_eq] at q;exact ByteArray.ext (Array.toList_inj.1 q)))
theorem Ii (t:List EntT) (s:ByteArray) (ht:t.length=16) (hs:s.size≤1000) (w:World) :
    Calls prog 117 #[.agg (Aq t).toArray,.string s] w fun e w'=>e=.returned (ν (AW t s))∧Below w.heap.size w w':=by
  have hd:Fence.wide.depth=none:=rfl
  by_cases hs0:s=⟨#[]⟩
  · have hans:AW t s=-1:=if_pos hs0
    rw [hans]
    subst hs0
    clear hans hs ht hd
    have het:=UV
    go_enter func117,ntmps117
    go_wp2
    refine bodyPost_ret (EA rfl rfl (CI (n:=w.heap.size+1+1) (by simp) _ [ν (-1)])) rfl ⟨rfl,(((Below.refl _ w).alloc (Nat.le_refl _) _).alloc (by simp;try omega) _).alloc (by simp;try omega) _⟩
  have he:=RT hs0
  obtain ⟨w3,hw3⟩:∃ w3,w3=(((w.alloc (.cells (Aq t).toArray 111)).alloc (.cells #[.string s] 9)).alloc (.cells #[ν 0] 3)):=⟨_,rfl⟩
  refine (callsIn_wide (n:=5)).1 ?_
  refine callsIn_of_wp_marks func117 rfl trivial ?_ rfl
  simp only [ntmps117,List.size_toArray,List.length_cons,List.length_nil,Nat.reduceAdd,Nat.reduceSub,Array.replicate_succ,Array.replicate_zero,List.push_toArray,List.append_toArray,List.nil_append,List.cons_append]
  gi_wp2_with ((try refine ⟨trivial,?_⟩);gi_at_call 140;refine (callsIn_wide.2 (Mv s _)).mono ?_;rintro e w4 ⟨rfl,hw4⟩)
  have hsz:w4.heap.size=w.heap.size+4:=by rw [hw4];simp
  have b0:Below w.heap.size w w4:=by rw [hw4];exact ((((Below.refl _ w).alloc (Nat.le_refl _) _).alloc (by simp;try omega) _).alloc (by simp;try omega) _).alloc (by simp;try omega) _
  have k0:Blk w4 w.heap.size 111 (Aq t):=by rw [hw4];exact (((CI rfl _ (Aq t)).mono (JU _ _)).mono (JU _ _)).mono (JU _ _)
  have k1:Blk w4 (w.heap.size+1) 9 [.string s]:=by rw [hw4];exact ((CI (by simp) _ [.string s]).mono (JU _ _)).mono (JU _ _)
  have k2:Blk w4 (w.heap.size+1+1) 3 [ν 0]:=by rw [hw4];exact (CI (by simp) _ [ν 0]).mono (JU _ _)
  have k3:Blk w4 (w.heap.size+1+1+1) 9 [.string s]:=by rw [hw4];exact CI (by simp) _ [.string s]
  have hpt:(((w.alloc (.cells (Aq t).toArray 111)).alloc (.cells #[.string s] 9)).alloc (.cells #[ν 0] 3)).heap.size=w.heap.size+1+1+1:=by simp
  try rw [← hw4]
  try rw [hpt]
  clear hw3 hw4 w3
  obtain ⟨hit,hhit⟩:∃ hit:Nat→Bool,hit=RL t s:=⟨_,rfl⟩
  have HH:=hid hhit
  clear hhit
  have hI:StabC w4.heap.size (fun (pre:List Nat) W=>(Blk W w.heap.size 111 (Aq t)∧Blk W (w.heap.size+1) 9 [.string s]∧Blk W (w.heap.size+1+1) 3 [ν 0])∧(∀ y∈pre,hit y=false)∧Below w.heap.size w W):=by
    rintro pre X Y ⟨⟨hb0,hb1,hho⟩,h1,h2⟩ b
    exact ⟨⟨(b.block _ (by rw [hsz];omega)).trans hb0,(b.block _ (by rw [hsz];omega)).trans hb1,(b.block _ (by rw [hsz];omega)).trans hho⟩,h1,h2.trans (b.mono (by rw [hsz];omega))⟩
  have hIx:∀ c,StabC w4.heap.size (fun (pre:List Nat) W=>c=Code.ret∧∃ (q:List Nat) (x:Nat),pre=q++[x]∧(∀ y∈q,hit y=false)∧hit x=true∧Blk W (w.heap.size+1+1) 3 [ν (x:Int)]∧Below w.heap.size w W):=by
    rintro c pre X Y ⟨h0,q,x,h1,h2,h3,h4,h6⟩ b
    exact ⟨h0,q,x,h1,h2,h3,(b.block _ (by rw [hsz];omega)).trans h4,h6.trans (b.mono (by rw [hsz];omega))⟩
  refine Di rfl ω (gf:=172) (lb:=#[π (w.heap.size+1+1+1)]) rfl trivial (enters_of func172 κ rfl)
    (Mw (5-1) w4 s hs _ k3) (Below.refl _ _) (fun _=>rfl)
    _ _ hI hIx ⟨⟨k0,k1,k2⟩,fun y hy=>absurd hy (by simp),b0⟩
    (fun (x:Nat) (a':Act) (W:World)=>a'={ tmps:=#[.agg (Aq t).toArray,.string s,π w.heap.size,π (w.heap.size+1),π (w.heap.size+1+1),ν (x:Int),.string s,.bool false,.string s,.func (.func 172) #[] #[π (w.heap.size+1+1+1)],ν (x:Int),undef,undef,undef,undef,undef,undef,undef],defers:=[] }) (fun _ _ _ _ _ _ h _=>h) ?assign ?body ?done ?stop
  case assign=>
    rintro l pre x W K hi hlt hK
    have HI:=hid hi
    clear hi
    gi_wp2
    exact hK _ _ (KeepUp.refl _ W) HI.out rfl
  case body=>
    rintro l pre x a' W ⟨⟨hb0,hb1,hho⟩,hno,hb⟩ rfl hlt _ hsp
    have hx:=Mu (DX s.data.toList) x (hsp.subset (by simp))
    clear hsp
    have hxt:x<t.length:=ω
    have hge:t.getD x ⟨⟨#[]⟩,0⟩=t[x]:=by simp [hxt]
    have x0:W.cell? ⟨w.heap.size,x*2,none⟩=some (.string t[x].nm):=by
      have q:=(EH t x hxt).1
      obtain ⟨hq,hv⟩:=List.getElem?_eq_some_iff.1 q
      rw [Nat.mul_comm x 2,hb0.cell (i:=2*x) hq,hv]
    have hhit:RL t s x=decide (t[x].nm=s):=by unfold RL;rw [hge]
    have hst:=Tw t[x].nm s
    generalize t[x].nm=nm at *
    clear hge
    have s0:W.cell? ⟨w.heap.size+1,0,none⟩=some (.string s):=hb1.cell (i:=0) (by simp)
    have o0:W.cell? ⟨w.heap.size+1+1,0,none⟩=some (ν 0):=hho.cell (i:=0) (by simp)
    have of0:W.frozen? ⟨w.heap.size+1+1,0,none⟩=false:=hho.frozen 0
    have HH0:=hid hb0;have HH1:=hid hb1;have HH2:=hid hho;have HNO:=hid hno;have HB:=hid hb
    clear hb0 hb1 hho hno hb
    have HHT:=hid hhit
    clear hhit
    have hx16:(x:Int)<16:=ω
    by_cases hq:nm=s
    · rw [decide_eq_true hq] at hst
      have hh:hit x=true:=by rw [HH.out,HHT.out];exact decide_eq_true hq
      clear hq
      gi_wp2
      gi_region
      all_goals
        simp only [Exit.then]
        go_at_K
        gi_wp2
      all_goals
        refine ⟨((KeepUp.refl _ W).setCell (p:=⟨w.heap.size+1+1,0,none⟩) (by rw [hsz];exact (ω:w.heap.size+1+1<w.heap.size+4)) _).drew,rfl,pre,x,rfl,HNO.out,hh,HH2.out.set 0 _,(HB.out.setCell (p:=⟨w.heap.size+1+1,0,none⟩) (ω:w.heap.size≤w.heap.size+1+1) _).drew⟩
    · rw [decide_eq_false hq] at hst
      have hh:hit x=false:=by rw [HH.out,HHT.out];exact decide_eq_false hq
      clear hq
      gi_wp2
      gi_region
      all_goals
        simp only [Exit.then]
        go_at_K
        gi_wp2
      all_goals
        refine ⟨(KeepUp.refl _ W).drew,⟨HH0.out,HH1.out,HH2.out⟩,fun y hy=>?_,HB.out.drew⟩
        rcases List.mem_append.1 hy with h | h
        · exact HNO.out y h
        · rw [List.mem_singleton.1 h];exact hh
  case done=>
    rintro D xs W hD rfl ⟨⟨hb0,hb1,hho⟩,hno,hb⟩ hk
    have hans:AW t s=-1:=by
      have:(BK (DX s.data.toList)).find? (RL t s)=none:=List.find?_eq_none.2 (fun y hy=>by have:=hno y hy;rw [HH.out] at this;rw [this];simp)
      unfold AW
      rw [if_neg hs0,this];rfl
    have HANS:=hid hans
    clear hans
    have o0:W.cell? ⟨w.heap.size+1+1,0,none⟩=some (ν 0):=hho.cell (i:=0) (by simp)
    have of0:W.frozen? ⟨w.heap.size+1+1,0,none⟩=false:=hho.frozen 0
    have HH2:=hid hho;have HB:=hid hb;have HK:=hid hk
    clear hb0 hb1 hho hno hb hk
    gi_wp2
    refine ⟨by simp,.inl ⟨_,_,rfl,run_takeDeferred (ds:=[]) ((Below.heap_setCell _ _ _ _ (by rw [hsz] at hD;exact (ω:D≠w.heap.size+1+1))).trans HK.out),?_⟩⟩
    exact ⟨_,EA rfl rfl ((World.putObj_heap_other (by rw [hsz] at hD;omega)).trans (HH2.out.set 0 _)),by rw [HANS.out],BI (HB.out.setCell (p:=⟨w.heap.size+1+1,0,none⟩) (ω:w.heap.size≤w.heap.size+1+1) _) _ (by rw [hsz] at hD;omega)⟩
  case stop=>
    rintro D c pre W hD hsp ⟨rfl,q,x,rfl,hno,hx,ho,hb⟩ hk
    have hans:AW t s=(x:Int):=by
      have:(BK (DX s.data.toList)).find? (RL t s)=some x:=KC hsp (fun y hy=>by have:=hno y hy;rw [HH.out] at this;exact this) (by rw [HH.out] at hx;exact hx)
      unfold AW
      rw [if_neg hs0,this];rfl
    have HANS:=hid hans
    clear hans
    gi_wp2
    refine ⟨by simp,.inl ⟨_,_,rfl,run_takeDeferred hk,?_⟩⟩
    exact ⟨_,EA rfl rfl ((World.putObj_heap_other (by rw [hsz] at hD;omega)).trans ho),by rw [HANS.out],BI hb _ (by rw [hsz] at hD;omega)⟩
end
section
open Go.RowKit Go.Shelf
attribute [local go_sem] Oper.semAt_some
theorem Rs (a b:ByteArray) (i j:Int) (w:World):(Op.equalIn 10000 109 (.agg #[.string a,ν i]) (.agg #[.string b,ν j])).run prog w=.ok (decide (a=b∧i=j)) w:=by
  have u3:=υ3
  have a3:=Tryz.isAgg3
  have z3:=Tryz.sizeOf3
  have u9:=υ9
  have a9:=Tryz.isAgg9
  have z9:=Tryz.sizeOf9
  have hS:prog.underlying 109=some (.struct (prog.fieldsOf 109)):=κ
  have hp:prog.stoodInHeld 109=false:=κ
  rw [show (10000:Nat)=9999+1 from rfl,run_equalIn_agg w 9999 109 _ _ hS hp]
  simp only [Program.fieldsOf,υ109]
  have he:=Tw a b
  by_cases h0:a=b
  · rw [decide_eq_true h0] at he
    go_simp
    by_cases h1:i=j<;>simp [h0,h1]
  · rw [decide_eq_false h0] at he
    go_simp
    try simp [h0]
def ND (t:List EntT) (x:Nat):Bool:=decide ((t.getD x ⟨⟨#[]⟩,0⟩).nm=⟨#[]⟩∧(t.getD x ⟨⟨#[]⟩,0⟩).ino=0)
def FS (t:List EntT) (s:ByteArray):Int:=Adu ((BK (DX s.data.toList)).find? (ND t))
theorem IV (t:List EntT) (s:ByteArray) (ht:t.length=16) (hs:s.size≤1000) (w:World) :
    Calls prog 127 #[.agg (Aq t).toArray,.string s] w fun e w'=>e=.returned (ν (FS t s))∧Below w.heap.size w w':=by
  have hd:Fence.wide.depth=none:=rfl
  refine (callsIn_wide (n:=5)).1 ?_
  refine callsIn_of_wp_marks func127 rfl trivial ?_ rfl
  simp only [ntmps127,List.size_toArray,List.length_cons,List.length_nil,Nat.reduceAdd,Nat.reduceSub,Array.replicate_succ,Array.replicate_zero,List.push_toArray,List.append_toArray,List.nil_append,List.cons_append]
  gi_wp2_with ((try refine ⟨trivial,?_⟩);gi_at_call 140;refine (callsIn_wide.2 (Mv s _)).mono ?_;rintro e w4 ⟨rfl,hw4⟩)
  have hsz:w4.heap.size=w.heap.size+3:=by rw [hw4];simp
  have b0:Below w.heap.size w w4:=by rw [hw4];exact (((Below.refl _ w).alloc (Nat.le_refl _) _).alloc (by simp;try omega) _).alloc (by simp;try omega) _
  have k0:Blk w4 w.heap.size 111 (Aq t):=by rw [hw4];exact ((CI rfl _ (Aq t)).mono (JU _ _)).mono (JU _ _)
  have k2:Blk w4 (w.heap.size+1) 3 [ν 0]:=by rw [hw4];exact (CI (by simp) _ [ν 0]).mono (JU _ _)
  have k3:Blk w4 (w.heap.size+1+1) 9 [.string s]:=by rw [hw4];exact CI (by simp) _ [.string s]
  have hpt:((w.alloc (.cells (Aq t).toArray 111)).alloc (.cells #[ν 0] 3)).heap.size=w.heap.size+1+1:=by simp
  try rw [← hw4]
  try rw [hpt]
  clear hw4
  obtain ⟨hit,hhit⟩:∃ hit:Nat→Bool,hit=ND t:=⟨_,rfl⟩
  have HH:=hid hhit
  clear hhit
  have hI:StabC w4.heap.size (fun (pre:List Nat) W=>(Blk W w.heap.size 111 (Aq t)∧Blk W (w.heap.size+1) 3 [ν 0])∧(∀ y∈pre,hit y=false)∧Below w.heap.size w W):=by
    rintro pre X Y ⟨⟨hb0,hho⟩,h1,h2⟩ b
    exact ⟨⟨(b.block _ (by rw [hsz];omega)).trans hb0,(b.block _ (by rw [hsz];omega)).trans hho⟩,h1,h2.trans (b.mono (by rw [hsz];omega))⟩
  have hIx:∀ c,StabC w4.heap.size (fun (pre:List Nat) W=>c=Code.ret∧∃ (q:List Nat) (x:Nat),pre=q++[x]∧(∀ y∈q,hit y=false)∧hit x=true∧Blk W (w.heap.size+1) 3 [ν (x:Int)]∧Below w.heap.size w W):=by
    rintro c pre X Y ⟨h0,q,x,h1,h2,h3,h4,h6⟩ b
    exact ⟨h0,q,x,h1,h2,h3,(b.block _ (by rw [hsz];omega)).trans h4,h6.trans (b.mono (by rw [hsz];omega))⟩
  refine Di rfl ω (gf:=172) (lb:=#[π (w.heap.size+1+1)]) rfl trivial (enters_of func172 κ rfl)
    (Mw (5-1) w4 s hs _ k3) (Below.refl _ _) (fun _=>rfl)
    _ _ hI hIx ⟨⟨k0,k2⟩,fun y hy=>absurd hy (by simp),b0⟩
    (fun (x:Nat) (a':Act) (W:World)=>a'={ tmps:=#[.agg (Aq t).toArray,.string s,π w.heap.size,undef,π (w.heap.size+1),ν (x:Int),.string s,.func (.func 172) #[] #[π (w.heap.size+1+1)],ν (x:Int),undef,undef,undef,undef,undef,undef],defers:=[] }) (fun _ _ _ _ _ _ h _=>h) ?assign ?body ?done ?stop
  case assign=>
    rintro l pre x W K hi hlt hK
    have HI:=hid hi
    clear hi
    gi_wp2
    exact hK _ _ (KeepUp.refl _ W) HI.out rfl
  case body=>
    rintro l pre x a' W ⟨⟨hb0,hho⟩,hno,hb⟩ rfl hlt _ hsp
    have hx:=Mu (DX s.data.toList) x (hsp.subset (by simp))
    clear hsp
    have hxt:x<t.length:=ω
    have hge:t.getD x ⟨⟨#[]⟩,0⟩=t[x]:=by simp [hxt]
    have x0:W.cell? ⟨w.heap.size,x*2,none⟩=some (.string t[x].nm):=by
      have q:=(EH t x hxt).1
      obtain ⟨hq,hv⟩:=List.getElem?_eq_some_iff.1 q
      rw [Nat.mul_comm x 2,hb0.cell (i:=2*x) hq,hv]
    have x1:W.cell? ⟨w.heap.size,x*2+1,none⟩=some (ν t[x].ino):=by
      have q:=(EH t x hxt).2
      obtain ⟨hq,hv⟩:=List.getElem?_eq_some_iff.1 q
      rw [Nat.mul_comm x 2,hb0.cell (i:=2*x+1) hq,hv]
    have hhit:ND t x=decide (t[x].nm=⟨#[]⟩∧t[x].ino=0):=by unfold ND;rw [hge]
    have E:=Rs t[x].nm ⟨#[]⟩ t[x].ino 0
    generalize t[x].ino=ino at *
    generalize t[x].nm=nm at *
    clear hge
    have o0:W.cell? ⟨w.heap.size+1,0,none⟩=some (ν 0):=hho.cell (i:=0) (by simp)
    have of0:W.frozen? ⟨w.heap.size+1,0,none⟩=false:=hho.frozen 0
    have HH0:=hid hb0;have HH2:=hid hho;have HNO:=hid hno;have HB:=hid hb
    clear hb0 hho hno hb
    have HHT:=hid hhit
    clear hhit
    have hx16:(x:Int)<16:=ω
    by_cases hq:nm=⟨#[]⟩∧ino=0
    · rw [decide_eq_true hq] at E
      have hh:hit x=true:=by rw [HH.out,HHT.out];exact decide_eq_true hq
      clear hq
      gi_wp2
      refine ⟨(KeepUp.refl _ W).setCell (p:=⟨w.heap.size+1,0,none⟩) (by rw [hsz];exact (ω:w.heap.size+1<w.heap.size+3)) _,rfl,pre,x,rfl,HNO.out,hh,HH2.out.set 0 _,HB.out.setCell (p:=⟨w.heap.size+1,0,none⟩) (ω:w.heap.size≤w.heap.size+1) _⟩
    · rw [decide_eq_false hq] at E
      have hh:hit x=false:=by rw [HH.out,HHT.out];exact decide_eq_false hq
      clear hq
      gi_wp2
      refine ⟨(KeepUp.refl _ W),⟨HH0.out,HH2.out⟩,fun y hy=>?_,HB.out⟩
      rcases List.mem_append.1 hy with h | h
      · exact HNO.out y h
      · rw [List.mem_singleton.1 h];exact hh
  case done=>
    rintro D xs W hD rfl ⟨⟨hb0,hho⟩,hno,hb⟩ hk
    have hans:FS t s=-1:=by
      have:(BK (DX s.data.toList)).find? (ND t)=none:=List.find?_eq_none.2 (fun y hy=>by have:=hno y hy;rw [HH.out] at this;rw [this];simp)
      unfold FS
      rw [this];rfl
    have HANS:=hid hans
    clear hans
    have o0:W.cell? ⟨w.heap.size+1,0,none⟩=some (ν 0):=hho.cell (i:=0) (by simp)
    have of0:W.frozen? ⟨w.heap.size+1,0,none⟩=false:=hho.frozen 0
    have HH2:=hid hho;have HB:=hid hb;have HK:=hid hk
    clear hb0 hho hno hb hk
    gi_wp2
    refine ⟨by simp,.inl ⟨_,_,rfl,run_takeDeferred (ds:=[]) ((Below.heap_setCell _ _ _ _ (by rw [hsz] at hD;exact (ω:D≠w.heap.size+1))).trans HK.out),?_⟩⟩
    exact ⟨_,EA rfl rfl ((World.putObj_heap_other (by rw [hsz] at hD;omega)).trans (HH2.out.set 0 _)),by rw [HANS.out],BI (HB.out.setCell (p:=⟨w.heap.size+1,0,none⟩) (ω:w.heap.size≤w.heap.size+1) _) _ (by rw [hsz] at hD;omega)⟩
  case stop=>
    rintro D c pre W hD hsp ⟨rfl,q,x,rfl,hno,hx,ho,hb⟩ hk
    have hans:FS t s=(x:Int):=by
      have:(BK (DX s.data.toList)).find? (ND t)=some x:=KC hsp (fun y hy=>by have:=hno y hy;rw [HH.out] at this;exact this) (by rw [HH.out] at hx;exact hx)
      unfold FS
      rw [this];rfl
    have HANS:=hid hans
    clear hans
    gi_wp2
    refine ⟨by simp,.inl ⟨_,_,rfl,run_takeDeferred hk,?_⟩⟩
    exact ⟨_,EA rfl rfl ((World.putObj_heap_other (by rw [hsz] at hD;omega)).trans ho),by rw [HANS.out],BI hb _ (by rw [hsz] at hD;omega)⟩
end
section
open Go.RowKit Go.Shelf
def EntAt (w:World) (b off:Nat) (t:List EntT):Prop:=b<w.heap.size∧∀ i (h:i<t.length),w.cell? ⟨b,off+i*2,none⟩=some (.string t[i].nm)∧w.cell? ⟨b,off+i*2+1,none⟩=some (ν t[i].ino)
theorem EntAt.mono {w w':World} {b off:Nat} {t:List EntT} (h:EntAt w b off t) (hb:Below w.heap.size w w'):EntAt w' b off t:=
  ⟨Nat.lt_of_lt_of_le h.1 hb.size,fun i hi=>⟨(hb.cell (p:=⟨b,off+i*2,none⟩) h.1).trans (h.2 i hi).1,(hb.cell (p:=⟨b,off+i*2+1,none⟩) h.1).trans (h.2 i hi).2⟩⟩
end
section
open Go.RowKit Go.Shelf
def Adj (s:ByteArray):ByteArray:=if s.size≤20 then s else s.extract 0 20
end
section
open Go.RowKit Go.Shelf
theorem Ik:(prog.info? 111).map (·.size)=some 32:=κ
def Bf:List EntT:=List.replicate 16 ⟨⟨#[]⟩,0⟩
def Aem:Array Value:=#[.string ⟨#[]⟩,ν 0,.string ⟨#[]⟩,ν 0,.string ⟨#[]⟩,ν 0,.string ⟨#[]⟩,ν 0,.string ⟨#[]⟩,ν 0,.string ⟨#[]⟩,ν 0,.string ⟨#[]⟩,ν 0,.string ⟨#[]⟩,ν 0,.string ⟨#[]⟩,ν 0,.string ⟨#[]⟩,ν 0,.string ⟨#[]⟩,ν 0,.string ⟨#[]⟩,ν 0,.string ⟨#[]⟩,ν 0,.string ⟨#[]⟩,ν 0,.string ⟨#[]⟩,ν 0,.string ⟨#[]⟩,ν 0]
theorem ZV:Aem=(Aq Bf).toArray:=rfl
theorem Hh (e:EntT):∀ v∈Rr e,v.oneCell'=true:=by
  intro v hv
  unfold Rr at hv
  simp only [List.mem_cons,List.not_mem_nil,or_false] at hv
  rcases hv with e | e<;>rw [e]<;>rfl
theorem QL (t:List EntT):∀ v∈Aq t,v.oneCell'=true:=by
  intro v hv
  simp only [Aq,List.mem_flatMap] at hv
  obtain ⟨e,_,he⟩:=hv
  exact Hh e v he
theorem YU (t:List EntT) (e:EntT):∀ i,i<t.length→Aq (t.set i e)=((Aq t).set (2*i) (.string e.nm)).set (2*i+1) (ν e.ino):=by
  induction t with
  | nil=>intro i h;cases h
  | cons d r ih=>
    intro i h
    cases i with
    | zero=>rfl
    | succ k=>
      rw [show 2*(k+1)=2*k+1+1 by omega]
      show Rr d++Aq (r.set k e)=_
      rw [ih k (by simpa using h)]
      rfl
theorem DJ {w:World} {ops:Array Oper} {rest:List Oper} {o:Oper} {act:Act} {Q:Exit→Act→World→Prop} (hgd:o.guard=none) (x:Operand)
    (ho:o.op=.load 111 x) (g:Nat) (hx:act.eval x=π g) {e:TypeId} (t:List EntT) (ht:t.length=16) (hb:Blk w g e (Aq t))
    (h:wpList prog ops Q rest (act.put o.dst (.agg (Aq t).toArray)) w):wpList prog ops Q (o::rest) act w:=
  wpList_load_mid hgd 111 x ho g 0 hx (Aq t) _ hb.range υ111 rfl (by rw [Ik,BL,ht]) h
theorem Dc {w:World} {ops:Array Oper} {rest:List Oper} {o:Oper} {act:Act} {Q:Exit→Act→World→Prop} (hgd:o.guard=none) (x y:Operand)
    (ho:o.op=.store 111 x y) (g:Nat) (hx:act.eval x=π g) {e:TypeId} (t:List EntT) (ht:t.length=16) (hy:act.eval y=.agg (Aq t).toArray) {L:List Value} (hb:Blk w g e L) (hL:L.length=32)
    (h:∀ w',Blk w' g e (Aq t)→w.grownBy w' (some g)→wpList prog ops Q rest (act.put o.dst undef) w'):wpList prog ops Q (o::rest) act w:=
  Nf hgd 111 x y ho g hx (Aq t) hy (by rw [Ik,BL,ht]) (QL _) hb (by rw [BL,ht,hL]) h
def EM (t:List EntT) (at_:Int) (e:EntT):List EntT:=if 0≤at_∧at_<16 then t.set at_.toNat e else t
theorem AC (t:List EntT) (at_:Int) (e:EntT):(EM t at_ e).length=t.length:=by unfold EM;split<;>simp
theorem CQ:(prog.info? 109).map (·.size)=some 2:=κ
theorem Tb {w:World} {ops:Array Oper} {rest:List Oper} {o:Oper} {act:Act} {Q:Exit→Act→World→Prop} (hgd:o.guard=none) (x:Operand)
    (ho:o.op=.load 109 x) (g:Nat) (hx:act.eval x=π g) {e:TypeId} (n:ByteArray) (i:Int) (hb:Blk w g e [.string n,ν i])
    (h:wpList prog ops Q rest (act.put o.dst (.agg #[.string n,ν i])) w):wpList prog ops Q (o::rest) act w:=
  wpList_load_mid hgd 109 x ho g 0 hx [.string n,ν i] _ hb.range υ109 rfl (by rw [CQ];rfl) h
theorem VX (t:List EntT) (n:ByteArray) (i:Int) (k:Nat) (h:k<t.length):Aq (t.set k ⟨n,i⟩)=((Aq t).set (k*2) (.string n)).set (k*2+1) (ν i):=by
  rw [YU t ⟨n,i⟩ k h,Nat.mul_comm k 2]
theorem MQ (t:List EntT) (at_:Int) (n:ByteArray) (i:Int) (ht:t.length=16) (w:World) :
    Calls prog 155 #[.agg (Aq t).toArray,ν at_,.agg #[.string n,ν i]] w fun e w'=>e=.returned (.agg (Aq (EM t at_ ⟨n,i⟩)).toArray)∧Below w.heap.size w w':=by
  obtain ⟨w3,hw3⟩:∃ w3,w3=(((w.alloc (.cells (Aq t).toArray 111)).alloc (.cells #[.string n,ν i] 109)).alloc (.cells #[.string ⟨#[]⟩,ν 0,.string ⟨#[]⟩,ν 0,.string ⟨#[]⟩,ν 0,.string ⟨#[]⟩,ν 0,.string ⟨#[]⟩,ν 0,.string ⟨#[]⟩,ν 0,.string ⟨#[]⟩,ν 0,.string ⟨#[]⟩,ν 0,.string ⟨#[]⟩,ν 0,.string ⟨#[]⟩,ν 0,.string ⟨#[]⟩,ν 0,.string ⟨#[]⟩,ν 0,.string ⟨#[]⟩,ν 0,.string ⟨#[]⟩,ν 0,.string ⟨#[]⟩,ν 0,.string ⟨#[]⟩,ν 0] 111)):=⟨_,rfl⟩
  have b0:Below w.heap.size w (((w.alloc (.cells (Aq t).toArray 111)).alloc (.cells #[.string n,ν i] 109)).alloc (.cells #[.string ⟨#[]⟩,ν 0,.string ⟨#[]⟩,ν 0,.string ⟨#[]⟩,ν 0,.string ⟨#[]⟩,ν 0,.string ⟨#[]⟩,ν 0,.string ⟨#[]⟩,ν 0,.string ⟨#[]⟩,ν 0,.string ⟨#[]⟩,ν 0,.string ⟨#[]⟩,ν 0,.string ⟨#[]⟩,ν 0,.string ⟨#[]⟩,ν 0,.string ⟨#[]⟩,ν 0,.string ⟨#[]⟩,ν 0,.string ⟨#[]⟩,ν 0,.string ⟨#[]⟩,ν 0,.string ⟨#[]⟩,ν 0] 111)):=(((Below.refl _ w).alloc (Nat.le_refl _) _).alloc (by simp;try omega) _).alloc (by simp;try omega) _
  have k0:Blk (((w.alloc (.cells (Aq t).toArray 111)).alloc (.cells #[.string n,ν i] 109)).alloc (.cells #[.string ⟨#[]⟩,ν 0,.string ⟨#[]⟩,ν 0,.string ⟨#[]⟩,ν 0,.string ⟨#[]⟩,ν 0,.string ⟨#[]⟩,ν 0,.string ⟨#[]⟩,ν 0,.string ⟨#[]⟩,ν 0,.string ⟨#[]⟩,ν 0,.string ⟨#[]⟩,ν 0,.string ⟨#[]⟩,ν 0,.string ⟨#[]⟩,ν 0,.string ⟨#[]⟩,ν 0,.string ⟨#[]⟩,ν 0,.string ⟨#[]⟩,ν 0,.string ⟨#[]⟩,ν 0,.string ⟨#[]⟩,ν 0] 111)) w.heap.size 111 (Aq t):=((CI rfl _ (Aq t)).mono (JU _ _)).mono (JU _ _)
  have k1:Blk (((w.alloc (.cells (Aq t).toArray 111)).alloc (.cells #[.string n,ν i] 109)).alloc (.cells #[.string ⟨#[]⟩,ν 0,.string ⟨#[]⟩,ν 0,.string ⟨#[]⟩,ν 0,.string ⟨#[]⟩,ν 0,.string ⟨#[]⟩,ν 0,.string ⟨#[]⟩,ν 0,.string ⟨#[]⟩,ν 0,.string ⟨#[]⟩,ν 0,.string ⟨#[]⟩,ν 0,.string ⟨#[]⟩,ν 0,.string ⟨#[]⟩,ν 0,.string ⟨#[]⟩,ν 0,.string ⟨#[]⟩,ν 0,.string ⟨#[]⟩,ν 0,.string ⟨#[]⟩,ν 0,.string ⟨#[]⟩,ν 0] 111)) (w.heap.size+1) 109 [.string n,ν i]:=(CI (by simp) _ [.string n,ν i]).mono (JU _ _)
  have k2:Blk (((w.alloc (.cells (Aq t).toArray 111)).alloc (.cells #[.string n,ν i] 109)).alloc (.cells #[.string ⟨#[]⟩,ν 0,.string ⟨#[]⟩,ν 0,.string ⟨#[]⟩,ν 0,.string ⟨#[]⟩,ν 0,.string ⟨#[]⟩,ν 0,.string ⟨#[]⟩,ν 0,.string ⟨#[]⟩,ν 0,.string ⟨#[]⟩,ν 0,.string ⟨#[]⟩,ν 0,.string ⟨#[]⟩,ν 0,.string ⟨#[]⟩,ν 0,.string ⟨#[]⟩,ν 0,.string ⟨#[]⟩,ν 0,.string ⟨#[]⟩,ν 0,.string ⟨#[]⟩,ν 0,.string ⟨#[]⟩,ν 0] 111)) (w.heap.size+1+1) 111 (Aq Bf):=CI (by simp) _ (Aq Bf)
  have hz:(Aq Bf).length=32:=by rw [BL];rfl
  have K0:=hid k0;have K1:=hid k1;have K2:=hid k2;have B0:=hid b0;have HW:=hid hw3
  clear k0 k1 k2 b0 hw3
  by_cases h1:0≤at_∧at_<16
  · obtain ⟨k,rfl⟩:∃ k:Nat,at_=k:=⟨at_.toNat,ω⟩
    have hk:k<t.length:=ω
    have hr:EM t (k:Int) ⟨n,i⟩=t.set k ⟨n,i⟩:=by unfold EM;rw [if_pos h1];rfl
    rw [hr]
    have d1:decide ((0:Int)≤k)=true:=decide_eq_true ω
    have d2:decide ((k:Int)<16)=true:=decide_eq_true ω
    have d3:(k:Int)<16:=h1.2
    have K0':Hid (Blk w3 w.heap.size 111 (Aq t)):=by rw [HW.out];exact K0.out
    have K1':Hid (Blk w3 (w.heap.size+1) 109 [.string n,ν i]):=by rw [HW.out];exact K1.out
    have K2':Hid (Blk w3 (w.heap.size+1+1) 111 (Aq Bf)):=by rw [HW.out];exact K2.out
    have B0':Hid (Below w.heap.size w w3):=by rw [HW.out];exact B0.out
    obtain ⟨hq0,hv0⟩:=List.getElem?_eq_some_iff.1 (EH t k hk).1
    obtain ⟨hq1,hv1⟩:=List.getElem?_eq_some_iff.1 (EH t k hk).2
    have c0:w3.cell? ⟨w.heap.size,k*2,none⟩=some (.string t[k].nm):=by rw [Nat.mul_comm k 2,K0'.out.cell (i:=2*k) hq0,hv0]
    have c1:w3.cell? ⟨w.heap.size,k*2+1,none⟩=some (ν t[k].ino):=by rw [Nat.mul_comm k 2,K0'.out.cell (i:=2*k+1) hq1,hv1]
    have f0:w3.frozen? ⟨w.heap.size,k*2,none⟩=false:=K0'.out.frozen _
    have f1:w3.frozen? ⟨w.heap.size,k*2+1,none⟩=false:=K0'.out.frozen _
    have ks:=(K0'.out.set (k*2) (.string n)).set (k*2+1) (ν i)
    rw [← VX t n i k hk] at ks
    have kz:=(K2'.out.setOtherS (ω:w.heap.size+1+1≠w.heap.size) (k*2) (.string n)).setOtherS (ω:w.heap.size+1+1≠w.heap.size) (k*2+1) (ν i)
    have KS:=hid ks;have KZ:=hid kz
    have hl:(t.set k ⟨n,i⟩).length=16:=by simp [ht]
    have HL:=hid hl
    clear hr ks kz hq0 hq1 hv0 hv1 hl
    generalize t[k].nm=nm0 at *
    generalize t[k].ino=AT at *
    go_enter func155,ntmps155
    go_wp2_with (first
      | (rw [← HW.out];with_reducible refine Tb rfl _ rfl (w.heap.size+1) rfl n i K1'.out ?_)
      | (with_reducible refine DJ rfl _ rfl w.heap.size rfl (t.set k ⟨n,i⟩) HL.out KS.out ?_)
      | ((with_reducible refine Dc rfl _ _ rfl (w.heap.size+1+1) rfl (t.set k ⟨n,i⟩) HL.out rfl KZ.out hz ?_);intro w5 k5 g5;have K5:=hid k5;have G5:=hid g5;clear k5 g5))
    refine bodyPost_ret (Ds rfl rfl K5.out υ111 rfl (by rw [Ik,BL,HL.out])) rfl ⟨rfl,?_⟩
    have q:=(B0'.out.setCell (p:=⟨w.heap.size,k*2,none⟩) (Nat.le_refl _) (.string n)).setCell (p:=⟨w.heap.size,k*2+1,none⟩) (Nat.le_refl _) (ν i)
    exact AU q G5.out ω q.size
  · have hr:EM t at_ ⟨n,i⟩=t:=if_neg h1
    rw [hr]
    clear hr
    by_cases h0:0≤at_
    · have d1:decide (0≤at_)=true:=decide_eq_true h0
      have d2:decide (at_<16)=false:=decide_eq_false (fun h=>h1 ⟨h0,h⟩)
      clear h1 h0
      go_enter func155,ntmps155
      go_wp2_with (first
        | (with_reducible refine DJ rfl _ rfl w.heap.size rfl t ht K0.out ?_)
        | ((with_reducible refine Dc rfl _ _ rfl (w.heap.size+1+1) rfl t ht rfl K2.out hz ?_);intro w5 k5 g5;have K5:=hid k5;have G5:=hid g5;clear k5 g5))
      refine bodyPost_ret (Ds rfl rfl K5.out υ111 rfl (by rw [Ik,BL,ht])) rfl ⟨rfl,?_⟩
      exact AU B0.out G5.out ω B0.out.size
    · have d1:decide (0≤at_)=false:=decide_eq_false h0
      clear h1 h0
      go_enter func155,ntmps155
      go_wp2_with (first
        | (with_reducible refine DJ rfl _ rfl w.heap.size rfl t ht K0.out ?_)
        | ((with_reducible refine Dc rfl _ _ rfl (w.heap.size+1+1) rfl t ht rfl K2.out hz ?_);intro w5 k5 g5;have K5:=hid k5;have G5:=hid g5;clear k5 g5))
      refine bodyPost_ret (Ds rfl rfl K5.out υ111 rfl (by rw [Ik,BL,ht])) rfl ⟨rfl,?_⟩
      exact AU B0.out G5.out ω B0.out.size
end
section
open Go.RowKit Go.Shelf
def nmA:ByteArray:=⟨#[97]⟩
def nmB:ByteArray:=⟨#[98]⟩
def Mk:List EntT:=EM Bf 14 ⟨nmA,3⟩
theorem OM:Mk.length=16:=by decide +kernel
theorem Aen:FS Bf nmA=14:=by decide +kernel
theorem Aeo:AW Mk nmA=14:=by decide +kernel
theorem Aep:FS Mk nmA=15:=by decide +kernel
theorem Aeq:AW Mk nmB=-1:=by decide +kernel
theorem l1 (w1:World):Calls prog 127 #[.agg (Aq Bf).toArray,.string nmA] w1 fun e w'=>e=.returned (ν 14)∧Below w1.heap.size w1 w':=by
  have H1:=IV Bf nmA (by decide +kernel) (by decide +kernel) w1
  rw [Aen] at H1
  exact H1
theorem l2 (w1:World):Calls prog 155 #[.agg (Aq Bf).toArray,ν 14,.agg #[.string nmA,ν 3]] w1 fun e w'=>e=.returned (.agg (Aq Mk).toArray)∧Below w1.heap.size w1 w':=
  MQ Bf 14 nmA 3 (by decide +kernel) w1
theorem l3 (w1:World):Calls prog 117 #[.agg (Aq Mk).toArray,.string nmA] w1 fun e w'=>e=.returned (ν 14)∧Below w1.heap.size w1 w':=by
  have H1:=Ii Mk nmA OM (by decide +kernel) w1
  rw [Aeo] at H1
  exact H1
theorem l4 (w1:World):Calls prog 127 #[.agg (Aq Mk).toArray,.string nmA] w1 fun e w'=>e=.returned (ν 15)∧Below w1.heap.size w1 w':=by
  have H1:=IV Mk nmA OM (by decide +kernel) w1
  rw [Aep] at H1
  exact H1
theorem l5 (w1:World):Calls prog 117 #[.agg (Aq Mk).toArray,.string nmB] w1 fun e w'=>e=.returned (ν (-1))∧Below w1.heap.size w1 w':=by
  have H1:=Ii Mk nmB OM (by decide +kernel) w1
  rw [Aeq] at H1
  exact H1
theorem SH {o:Oper} (ho:o.op=.alloc 111) (ρ:Operand→Value) (w:World):(execOp ρ o).run prog w=.ok (.value (π w.heap.size)) (w.alloc (.cells Aem 111)):=by
  unfold execOp;rw [ho];kernel_rfl
theorem GO {w:World} {ops:Array Oper} {rest:List Oper} {o:Oper} {act:Act} {Q:Exit→Act→World→Prop} {z:List EntT} (hz:z=Bf) (hgd:o.guard=none) (ho:o.op=.alloc 111)
    (h:∀ w',Blk w' w.heap.size 111 (Aq z)→Below w.heap.size w w'→w'.heap.size=w.heap.size+1→wpList prog ops Q rest (act.put o.dst (π w.heap.size)) w'):wpList prog ops Q (o::rest) act w:=by
  subst hz
  refine Wm hgd _ _ (SH ho _ w) ?_
  exact h _ (by rw [ZV];exact CI rfl _ _) (JU _ _) (by simp)
theorem Ay:Bf.length=16:=by decide +kernel
theorem Abh {t:List EntT} (h:t.length=16):(Aq t).length=32:=by rw [BL,h]
end
section
open Go.RowKit Go.Shelf
end
section
open Go.RowKit Go.Shelf
abbrev e0D:EntT:=⟨⟨#[]⟩,0⟩
abbrev Agr (w:World) (a:Ω) (c:Nat) (L:List EntT):Prop:=Row w 2 a L.length c (Aq L)
def Afq (e:EntT):EntT:=⟨Adj e.nm,e.ino⟩
def Agf (L:List EntT):List EntT:=(List.range 16).map fun i=>Afq (L.getD i e0D)
def Agl (L:List EntT) (k:Nat):List EntT:=(Agf L).take k++List.replicate (16-k) e0D
theorem QW {w:World} {ops:Array Oper} {rest:List Oper} {o:Oper} {act:Act} {Q:Exit→Act→World→Prop} (hgd:o.guard=none) (x y:Operand)
    (ho:o.op=.store 109 x y) (g k:Nat) (hx:act.eval x=.pointer (some ⟨g,k*2,none⟩)) (n:ByteArray) (i:Int) (hy:act.eval y=.agg #[.string n,ν i]) {e:TypeId} {t:List EntT} (hb:Blk w g e (Aq t)) (hk:k<t.length)
    (h:∀ w',Blk w' g e (Aq (t.set k ⟨n,i⟩))→w.grownBy w' (some g)→wpList prog ops Q rest (act.put o.dst undef) w'):wpList prog ops Q (o::rest) act w:=by
  refine Jc hgd 109 x y ho g (k*2) hx [.string n,ν i] hy (by rw [CQ];rfl) (Hh ⟨n,i⟩) hb (by rw [BL];simp;omega) ?_
  intro w' h1 h2
  refine h w' ?_ h2
  have:=LN Rr 2 (fun _=>rfl) t k ⟨n,i⟩ hk
  unfold Aq
  rw [this];exact h1
end
section
open Go.RowKit Go.Shelf Go.WideShapes Go.ChangeShapes Go.Deep
theorem EntAt.grown {w w':World} {b off k:Nat} {t:List EntT} (h:EntAt w b off t) (G:w.grownBy w' (some k)) (hne:b≠k):EntAt w' b off t:=
  ⟨Nat.lt_of_lt_of_le h.1 G.size,fun i hi=>⟨(World.cell?_of_block (a:=⟨b,off+i*2,none⟩) (G.block b h.1 (by simpa using hne))).trans (h.2 i hi).1,(World.cell?_of_block (a:=⟨b,off+i*2+1,none⟩) (G.block b h.1 (by simpa using hne))).trans (h.2 i hi).2⟩⟩
end
section
open Go.RowKit Go.Shelf
theorem Lg (a b:ByteArray):(a.toList == b.toList)=decide (a=b):=by
  by_cases h:a=b
  · subst h;simp
  · rw [decide_eq_false h]
    exact beq_eq_false_iff_ne.2 (fun q=>h (by rw [ByteArray.toList_eq,ByteArray.toList_eq] at q;exact ByteArray.ext (Array.toList_inj.1 q)))
theorem Ab4 {s:ByteArray} (h:¬ s=⟨#[]⟩):s.toList.isEmpty=false:=by
  rw [← decide_eq_emptyBytes];exact decide_eq_false h
theorem WP:(⟨#[]⟩:ByteArray).toList.isEmpty=true:=by
  rw [← decide_eq_emptyBytes];exact decide_eq_true rfl
theorem PR (a:UInt8):(⟨#[a]⟩:ByteArray).toList=[a]:=by rw [ByteArray.toList_eq]
theorem Ael (a b:UInt8):(⟨#[a,b]⟩:ByteArray).toList=[a,b]:=by rw [ByteArray.toList_eq]
def okN (c:Int):Bool:=decide (97≤c∧c≤122)||decide (48≤c∧c≤57)||decide (c=46)||decide (c=95)||decide (c=45)
theorem Vo (c:Int):((97≤c∧c≤122)∧okN c=true)∨((48≤c∧c≤57)∧okN c=true)∨(c=46∧okN c=true)∨(c=95∧okN c=true)∨(c=45∧okN c=true) ∨
    ((c<48∧c≠45∧c≠46)∧okN c=false)∨((57<c∧c<97∧c≠95)∧okN c=false)∨(122<c∧okN c=false):=by
  have key:okN c=true↔((97≤c∧c≤122)∨(48≤c∧c≤57)∨c=46∨c=95∨c=45):=by
    unfold okN;simp only [Bool.or_eq_true,decide_eq_true_eq];omega
  have kf:okN c=false↔¬ ((97≤c∧c≤122)∨(48≤c∧c≤57)∨c=46∨c=95∨c=45):=by
    rw [← key];simp
  rw [key,kf];omega
def Ra (s:ByteArray):Bool:=s.data.toList.all (fun b=>okN (b.toNat:Int))
def DQ (s:ByteArray):Bool:=decide (1≤s.size)&&decide (s.size≤12)&&!decide (s=⟨#[46]⟩)&&!decide (s=⟨#[46,46]⟩)&&Ra s
theorem Un (s:ByteArray) (k:Nat) (h:k<s.size):(s.data.toList.take (k+1)).all (fun b=>okN (b.toNat:Int))=((s.data.toList.take k).all (fun b=>okN (b.toNat:Int))&&okN ((s[k]'h).toNat:Int)):=by
  have e:s.data.toList.take (k+1)=s.data.toList.take k++[s[k]]:=by
    rw [List.take_succ_eq_append_getElem (by simpa using h)];rfl
  rw [e,List.all_append];simp
theorem Rb (s:ByteArray) (k:Nat) (h:k<s.size) (hk:okN ((s[k]'h).toNat:Int)=false):Ra s=false:=by
  unfold Ra
  rw [List.all_eq_false]
  refine ⟨s[k],?_,by rw [hk];simp⟩
  exact List.mem_of_getElem? (i:=k) (by simp [h];rfl)
theorem RM (r:Int) (w:World):Calls prog 171 #[.int .i32 r] w fun e w'=>e=.returned (.bool (okN r))∧w=w':=by
  rcases Vo r with ⟨h,hk⟩ | ⟨h,hk⟩ | ⟨h,hk⟩ | ⟨h,hk⟩ | ⟨h,hk⟩ | ⟨h,hk⟩ | ⟨h,hk⟩ | ⟨h,hk⟩
  all_goals
    rw [hk]
    clear hk
  · obtain ⟨h1,h2⟩:=h
    have d1:decide (97≤r)=true:=decide_eq_true h1
    have d2:decide (r≤122)=true:=decide_eq_true h2
    go_enter func171,ntmps171
    go_wp2
    go_ret
    exact ⟨rfl,rfl⟩
  · obtain ⟨h1,h2⟩:=h
    have d1:decide (97≤r)=false:=decide_eq_false ω
    have d3:decide (48≤r)=true:=decide_eq_true h1
    have d4:decide (r≤57)=true:=decide_eq_true h2
    go_enter func171,ntmps171
    go_wp2
    go_ret
    exact ⟨rfl,rfl⟩
  · subst h
    go_enter func171,ntmps171
    go_wp2
    go_ret
    exact ⟨rfl,rfl⟩
  · subst h
    go_enter func171,ntmps171
    go_wp2
    go_ret
    exact ⟨rfl,rfl⟩
  · subst h
    go_enter func171,ntmps171
    go_wp2
    go_ret
    exact ⟨rfl,rfl⟩
  · have d1:decide (97≤r)=false:=decide_eq_false ω
    have d3:decide (48≤r)=false:=decide_eq_false ω
    have e1:(r == 46)=false:=by simp;omega
    have e2:(r == 95)=false:=by simp;omega
    have e3:(r == 45)=false:=by simp;omega
    go_enter func171,ntmps171
    go_wp2
    go_ret
    exact ⟨rfl,rfl⟩
  · have d1:decide (97≤r)=false:=decide_eq_false ω
    have d3:decide (48≤r)=true:=decide_eq_true ω
    have d4:decide (r≤57)=false:=decide_eq_false ω
    have e1:(r == 46)=false:=by simp;omega
    have e2:(r == 95)=false:=by simp;omega
    have e3:(r == 45)=false:=by simp;omega
    go_enter func171,ntmps171
    go_wp2
    go_ret
    exact ⟨rfl,rfl⟩
  · have d1:decide (97≤r)=true:=decide_eq_true ω
    have d2:decide (r≤122)=false:=decide_eq_false ω
    have d3:decide (48≤r)=true:=decide_eq_true ω
    have d4:decide (r≤57)=false:=decide_eq_false ω
    have e1:(r == 46)=false:=by simp;omega
    have e2:(r == 95)=false:=by simp;omega
    have e3:(r == 45)=false:=by simp;omega
    go_enter func171,ntmps171
    go_wp2
    go_ret
    exact ⟨rfl,rfl⟩
theorem ZU {s:ByteArray} (h:¬ s=⟨#[]⟩):1≤s.size:=by
  rcases Nat.eq_zero_or_pos s.size with h0 | h0
  · exact absurd (ByteArray.ext (Array.eq_empty_of_size_eq_zero h0)) h
  · exact h0
theorem PV (s:ByteArray) (w:World):Calls prog 139 #[.string s] w fun e w'=>e=.returned (.bool (DQ s))∧Below w.heap.size w w':=by
  by_cases h0:s=⟨#[]⟩
  · subst h0
    have het:=WP
    rw [show DQ ⟨#[]⟩=false from by decide +kernel]
    go_enter func139,ntmps139
    go_wp2
    go_ret
    exact ⟨rfl,Below.refl _ _⟩
  have h1:=ZU h0
  have he:=Ab4 h0
  by_cases h2:s=⟨#[46]⟩
  · subst h2
    rw [show DQ ⟨#[46]⟩=false from by decide +kernel]
    clear h0 h1 
    go_enter func139,ntmps139
    go_wp2
    go_ret
    exact ⟨rfl,Below.refl _ _⟩
  have e2:=Lg s ⟨#[46]⟩
  rw [decide_eq_false h2,PR] at e2
  by_cases h3:s=⟨#[46,46]⟩
  · subst h3
    rw [show DQ ⟨#[46,46]⟩=false from by decide +kernel]
    clear h0 h1 h2
    go_enter func139,ntmps139
    go_wp2
    go_ret
    exact ⟨rfl,Below.refl _ _⟩
  have e3:=Lg s ⟨#[46,46]⟩
  rw [decide_eq_false h3,Ael] at e3
  by_cases h4:s.size≤12
  · have hm:DQ s=Ra s:=by unfold DQ;rw [decide_eq_true h1,decide_eq_true h4,decide_eq_false h2,decide_eq_false h3];simp
    rw [hm]
    have d4:decide (12<(s.size:Int))=false:=decide_eq_false ω
    clear hm h0 h2 h3
    go_enter func139,ntmps139
    go_wp2
    go_loopw [2] (fun v wr=>∃ pos:Nat,wr=w.iter s pos∧v=.bool false∧(pos≤s.size∧(s.data.toList.take pos).all (fun b=>okN (b.toNat:Int))=true)) (fun _ wr=>s.size-wr.iterPos w.heap.size)
    case atStart=>exact ⟨0,rfl,rfl,ω,by simp⟩
    case round=>
      obtain ⟨pos,rfl,rfl,hps,hall⟩:=hrel
      by_cases hp:pos<s.size
      · have hts:=Un s pos hp
        rw [hall,Bool.true_and] at hts
        have hfa:=Rb s pos hp
        have hlo:=fun ha=>decode_ascii s pos hp ha
        have hhi:=fun ha=>decode_high s pos hp ha
        have hnx:∀ ty,(Instr.next (π w.heap.size) true ty).run prog (w.iter s pos)=_:=fun ty=>run_next_any w s pos ty hp
        have HIN:=hid (fun w1=>RM ((Utf8.decode s pos).1:Int) w1)
        have HTS:=hid hts;have HFA:=hid hfa
        clear hts hfa
        rcases Nat.lt_or_ge (s[pos]'hp).toNat 128 with hb | hb
        · have hd:=hlo hb
          rw [hd] at hnx HIN
          clear hlo hhi hd
          generalize (s[pos]'hp).toNat=b at *
          cases hk:okN (b:Int) with
          | true=>
            rw [hk] at HIN HTS
            clear hk
            have HA:=hid hall
            clear hall
            go_wp2_with (go_at_call 171;refine (HIN.out _).mono ?_;rintro e w1 ⟨rfl,rfl⟩)
            go_roundw
            case rel=>exact ⟨pos+1,rfl,rfl,ω,HTS.out⟩
            case measure=>simp;omega
          | false=>
            rw [hk] at HIN
            have HF:=hid (HFA.out hk)
            clear hk hall
            go_wp2_with (go_at_call 171;refine (HIN.out _).mono ?_;rintro e w1 ⟨rfl,rfl⟩)
            go_ret
            exact ⟨Bl HF.out.symm,by unfold World.iter;exact (Below.refl _ _).alloc (Nat.le_refl _) _⟩
        · obtain ⟨hd1,hd2⟩:=hhi hb
          have hbl:(s[pos]'hp).toNat<256:=(s[pos]'hp).toNat_lt
          have hk:okN (((s[pos]'hp).toNat:Nat):Int)=false:=by
            unfold okN;simp only [Bool.or_eq_false_iff,decide_eq_false_iff_not];omega
          have hk2:okN (((Utf8.decode s pos).1:Nat):Int)=false:=by
            unfold okN;simp only [Bool.or_eq_false_iff,decide_eq_false_iff_not];omega
          rw [hk2] at HIN
          have HF:=hid (HFA.out hk)
          clear hk hk2 hall hlo hhi hd1 hd2 hb hbl
          generalize (Utf8.decode s pos).1=r at *
          go_wp2_with (go_at_call 171;refine (HIN.out _).mono ?_;rintro e w1 ⟨rfl,rfl⟩)
          go_ret
          exact ⟨Bl HF.out.symm,by unfold World.iter;exact (Below.refl _ _).alloc (Nat.le_refl _) _⟩
      · have hnx:∀ ty,(Instr.next (π w.heap.size) true ty).run prog (w.iter s pos)=_:=fun ty=>run_next_end w s pos ty hp
        have hf:Ra s=true:=by
          rw [List.take_of_length_le (by simp;omega)] at hall
          exact hall
        have HF:=hid hf
        clear hf hall
        go_wp2
        go_ret
        exact ⟨Bl HF.out.symm,by unfold World.iter;exact (Below.refl _ _).alloc (Nat.le_refl _) _⟩
  · have hm:DQ s=false:=by unfold DQ;rw [decide_eq_false h4];simp
    rw [hm]
    have d4:decide (12<(s.size:Int))=true:=decide_eq_true ω
    clear hm h0 h2 h3
    go_enter func139,ntmps139
    go_wp2
    go_ret
    exact ⟨rfl,Below.refl _ _⟩
end
section
open Go.RowKit Go.Shelf
end
section
open Go.RowKit Go.Shelf
theorem Re {W w1:World} (hb:Below W.heap.size W w1):(∀ b o,b<W.heap.size→w1.cell? ⟨b,o,none⟩=W.cell? ⟨b,o,none⟩)∧(∀ b o,b<W.heap.size→w1.frozen? ⟨b,o,none⟩=W.frozen? ⟨b,o,none⟩):=
  ⟨fun b o h=>hb.cell (p:=⟨b,o,none⟩) h,fun b o h=>hb.frozen (p:=⟨b,o,none⟩) h⟩
def EX (n:ByteArray) (i:Int):Bool:=decide (n=⟨#[]⟩∧i=0)||(DQ n&&decide (1≤i∧i≤32))
theorem Mf (n:ByteArray) (i:Int):((n=⟨#[]⟩∧i=0)∧EX n i=true)∨(¬ (n=⟨#[]⟩∧i=0) ∧
    ((DQ n=false∧EX n i=false)∨(DQ n=true∧((i<1∧EX n i=false)∨((1≤i∧i≤32)∧EX n i=true)∨((1≤i∧32<i)∧EX n i=false))))):=by
  by_cases h:n=⟨#[]⟩∧i=0
  · exact .inl ⟨h,by unfold EX;rw [decide_eq_true h];rfl⟩
  · refine .inr ⟨h,?_⟩
    have e:EX n i=(DQ n&&decide (1≤i∧i≤32)):=by unfold EX;rw [decide_eq_false h];simp
    rw [e]
    cases DQ n with
    | false=>exact .inl ⟨rfl,rfl⟩
    | true=>
      refine .inr ⟨rfl,?_⟩
      rcases (ω:i<1∨(1≤i∧i≤32)∨(1≤i∧32<i)) with g | g | g
      · exact .inl ⟨g,by simp;omega⟩
      · exact .inr (.inl ⟨g,by simp;omega⟩)
      · exact .inr (.inr ⟨g,by simp;omega⟩)
theorem LF (n:ByteArray) (i:Int) (w:World):Calls prog 141 #[.agg #[.string n,ν i]] w fun e w'=>e=.returned (.bool (EX n i))∧Below w.heap.size w w':=by
  have E:=Rs n ⟨#[]⟩ i 0
  have HM:=hid (fun w1=>PV n w1)
  have hal:=hid (Cu w (.cells #[.string n,ν i] 109))
  rcases Mf n i with ⟨h,hk⟩ | ⟨h,⟨hm,hk⟩ | ⟨hm,⟨g,hk⟩ | ⟨g,hk⟩ | ⟨g,hk⟩⟩⟩
  all_goals rw [hk];clear hk
  · rw [decide_eq_true h] at E
    clear h
    go_enter func141,ntmps141
    go_wp2_with fail
    go_ret
    exact ⟨rfl,hal.out⟩
  · rw [decide_eq_false h] at E
    rw [hm] at HM
    clear h hm
    go_enter func141,ntmps141
    go_wp2_with (go_at_call 139;refine (HM.out _).mono ?_;rintro e w1 ⟨rfl,b1⟩;have B1:=hid (Ae hal.out b1);clear b1)
    go_ret
    exact ⟨rfl,B1.out⟩
  · rw [decide_eq_false h] at E
    rw [hm] at HM
    clear h hm
    have d1:decide (1≤i)=false:=decide_eq_false ω
    go_enter func141,ntmps141
    go_wp2_with (go_at_call 139;refine (HM.out _).mono ?_;rintro e w1 ⟨rfl,b1⟩;obtain ⟨c1,f1⟩:=Re b1;have c2:=(c1 w.heap.size 1 (by simp)).trans (by exact (AR (W:=w) rfl 109 [.string n,ν i]).cell (i:=1) (by simp));have B1:=hid (Ae hal.out b1);clear b1 c1 f1;simp only [List.getElem_cons_succ,List.getElem_cons_zero] at c2)
    go_ret
    exact ⟨rfl,B1.out⟩
  · rw [decide_eq_false h] at E
    rw [hm] at HM
    clear h hm
    have d1:decide (1≤i)=true:=decide_eq_true ω
    have d2:decide (i≤32)=true:=decide_eq_true ω
    go_enter func141,ntmps141
    go_wp2_with (go_at_call 139;refine (HM.out _).mono ?_;rintro e w1 ⟨rfl,b1⟩;obtain ⟨c1,f1⟩:=Re b1;have c2:=(c1 w.heap.size 1 (by simp)).trans (by exact (AR (W:=w) rfl 109 [.string n,ν i]).cell (i:=1) (by simp));have B1:=hid (Ae hal.out b1);clear b1 c1 f1;simp only [List.getElem_cons_succ,List.getElem_cons_zero] at c2)
    go_ret
    exact ⟨rfl,B1.out⟩
  · rw [decide_eq_false h] at E
    rw [hm] at HM
    clear h hm
    have d1:decide (1≤i)=true:=decide_eq_true ω
    have d2:decide (i≤32)=false:=decide_eq_false ω
    go_enter func141,ntmps141
    go_wp2_with (go_at_call 139;refine (HM.out _).mono ?_;rintro e w1 ⟨rfl,b1⟩;obtain ⟨c1,f1⟩:=Re b1;have c2:=(c1 w.heap.size 1 (by simp)).trans (by exact (AR (W:=w) rfl 109 [.string n,ν i]).cell (i:=1) (by simp));have B1:=hid (Ae hal.out b1);clear b1 c1 f1;simp only [List.getElem_cons_succ,List.getElem_cons_zero] at c2)
    go_ret
    exact ⟨rfl,B1.out⟩
end
section
open Go.RowKit Go.Shelf
def Fz (n:ByteArray) (i:Int):Λ:=[UInt8.ofNat i.toNat,UInt8.ofNat n.size]++n.data.toList++List.replicate (14-n.size) 0
theorem Jk (n:ByteArray) (i:Int) (h:n.size≤14):(Fz n i).length=16:=by
  have:n.data.toList.length=n.size:=by simp
  simp only [Fz,List.length_append,List.length_cons,List.length_nil,List.length_replicate,this];omega
theorem Jv {n:ByteArray} {i:Int} (h:EX n i=true):0≤i∧i≤32∧n.size≤12:=by
  rcases Mf n i with ⟨⟨rfl,rfl⟩,_⟩ | ⟨_,⟨_,hk⟩ | ⟨hm,⟨_,hk⟩ | ⟨g,_⟩ | ⟨_,hk⟩⟩⟩
  · exact ⟨ω,ω,by decide⟩
  · rw [h] at hk;cases hk
  · rw [h] at hk;cases hk
  · refine ⟨ω,ω,?_⟩
    unfold DQ at hm
    simp only [Bool.and_eq_true,decide_eq_true_eq] at hm
    exact hm.1.1.1.2
  · rw [h] at hk;cases hk
theorem VU (n:ByteArray):n.data.toList.length=n.size:=by simp
theorem Ac8 (i:Int) (h:0≤i∧i≤255):Av [] i 1=[UInt8.ofNat i.toNat]:=by
  unfold Av Bq
  rw [if_pos rfl,if_pos (by simp;omega)];rfl
theorem Ac9 (x:UInt8) (i:Int) (h:0≤i∧i≤255):Av [x] i 1=[x,UInt8.ofNat i.toNat]:=by
  unfold Av Bq
  rw [if_pos rfl,if_pos (by simp;omega)];rfl
theorem VH (k:Nat):List.replicate k (Value.int .u8 0)=(List.replicate k (0:UInt8)).map Ac:=by
  rw [List.map_replicate];rfl
theorem LG (n:ByteArray) (i:Int) (hi:0≤i∧i≤255) (hn:n.size≤14) (w:World):Calls prog 143 #[.agg #[.string n,ν i]] w (Ul w (Fz n i)):=by
  have B0:=hid (Cu w (.cells #[.string n,ν i] 109))
  have K0:=hid (AR (W:=w) rfl 109 [.string n,ν i])
  have P1:=Eb none 0 [] i 1 (w.alloc (.cells #[.string n,ν i] 109)) (Row.nil _ _) (by simp) ω
  rw [Ac8 i hi] at P1
  have HX:Hid ([UInt8.ofNat i.toNat,UInt8.ofNat n.size]++n.data.toList++List.replicate (14-n.size) 0=Fz n i):=rfl
  have P2:=fun (a:Ω) (c:Nat) (w1:World) (h:By w1 a c [UInt8.ofNat i.toNat])=>Eb a c [UInt8.ofNat i.toNat] (n.size:Int) 1 w1 h (by simp) ω
  rw [Ac9 _ (n.size:Int) ⟨ω,ω⟩,show ((n.size:Int)).toNat=n.size by omega] at P2
  generalize UInt8.ofNat i.toNat=x at *
  generalize UInt8.ofNat n.size=y at *
  have P1:=hid P1;have P2:=hid P2
  go_enter func143,ntmps143
  go_wp2_with (go_at_call 63;fail)
  refine (P1.out).mono ?_
  rintro e w1 ⟨a1,c1,rfl,o1,b1⟩
  have K1:=hid (K0.out.mono b1);have B1:=hid (Ae B0.out b1);have O1:=hid o1
  clear o1 b1
  have c10:=K1.out.cell (i:=0) (by simp);have c11:=K1.out.cell (i:=1) (by simp)
  simp only [List.getElem_cons_zero,List.getElem_cons_succ] at c10 c11
  go_wp2_with (go_at_call 63;fail)
  refine (P2.out _ _ _ O1.out.row).mono ?_
  rintro e w2 ⟨a2,c2,rfl,o2,b2⟩
  clear c10 c11
  have K2:=hid (K1.out.mono b2);have B2:=hid (Ae B1.out b2)
  have hs1:w.heap.size≤w1.heap.size:=B1.out.size
  have O2:=hid (show Own w2 w1.heap.size 5 1 a2 2 c2 ([x,y].map Ac) from o2)
  clear o2 b2
  have c20:=K2.out.cell (i:=0) (by simp);have c21:=K2.out.cell (i:=1) (by simp)
  simp only [List.getElem_cons_zero,List.getElem_cons_succ] at c20 c21
  have hlen:=VU n
  have HLEN:=hid hlen
  have h2s:w1.heap.size≤w2.heap.size:=by
    rcases O2.out.row.at ω with ⟨b,off,e,hlt,_⟩
    have:=O2.out
    obtain ⟨g,rfl⟩:=Vr this ω
    obtain ⟨_,_,_,hB,_⟩:=Mn this
    cases e;omega
  have t1:True:=trivial
  clear hlen
  go_wp2_with (first
    | (at_builtin;have _t:=t1;(refine Ne rfl (.tmp 12) (.tmp 14) rfl υ52 υ9 κ w1.heap.size rfl rfl O2.out ω h2s ?_);clear t1;intro a3 c3 w3 o3 g3 b3;have O3:=hid o3;have B3:=hid (B2.out.trans (b3.mono hs1));have h3s:w1.heap.size≤w3.heap.size:=Nat.le_trans h2s b3.size;clear o3 g3 b3)
    | (at_builtin;(refine Dj rfl (.tmp 16) (.tmp 19) rfl υ52 υ3 (z:=.int .u8 0) (bytes:=1) κ rfl rfl w1.heap.size (k:=14-n.size) rfl rfl ω O3.out ω ω h3s ?_);intro a4 c4 w4 o4 g4 b4;have O4:=hid o4;have B4:=hid (B3.out.trans (b4.mono hs1));clear o4 g4 b4))
  have hl16:2+n.size+(14-n.size)=(Fz n i).length:=by rw [Jk n i hn];omega
  have o4:=O4.out
  rw [VH,← List.map_append,← List.map_append,HX.out,hl16] at o4
  have O5:=hid o4
  have HL:=hid hl16
  clear o4 hl16 O4
  go_ret
  exact ⟨a4,c4,by rw [HL.out];rfl,O5.out.low hs1,B4.out⟩
def Wy (es:List EntT):Option (Λ):=if es.all (fun e=>EX e.nm e.ino) then some (es.flatMap fun e=>Fz e.nm e.ino) else none
def Abx (w:World) (o:Option (Λ)) (e:Ending) (w':World):Prop:=
  ∃ a c,e=.returned (.tuple #[.slice a (o.getD []).length c,ν (if o.isSome then 0 else 1)])∧CE w' w.heap.size a c (o.getD [])∧Below w.heap.size w w'
theorem Nr {w w':World} {o:Option (Λ)} {e:Ending} (ho:o=none) (he:e=.returned (.tuple #[.slice none 0 0,ν 1])) (hb:Below w.heap.size w w'):Abx w o e w':=by
  subst ho;exact ⟨none,0,he,Own.nil _ _ _ _,hb⟩
theorem Um {w w':World} {o:Option (Λ)} {e:Ending} {bs:Λ} {a:Ω} {c:Nat} (ho:o=some bs) (he:e=.returned (.tuple #[.slice a bs.length c,ν 0])) (h:CE w' w.heap.size a c bs) (hb:Below w.heap.size w w'):Abx w o e w':=by
  subst ho;exact ⟨a,c,he,h,hb⟩
def IH (t:List EntT) (k:Int):Option (Λ):=if 0≤k∧k<4 then Wy ((t.drop (4*k.toNat)).take 4) else none
theorem Wz {es:List EntT} {j:Nat} (h:j<es.length) (hm:EX es[j].nm es[j].ino=false):Wy es=none:=by
  unfold Wy
  rw [if_neg]
  intro ha
  have:=List.all_eq_true.1 ha es[j] (List.getElem_mem h)
  rw [hm] at this;cases this
theorem Uo {es:List EntT} {j:Nat} (h:j<es.length) (ha:(es.take j).all (fun e=>EX e.nm e.ino)=true) (hm:EX es[j].nm es[j].ino=true):(es.take (j+1)).all (fun e=>EX e.nm e.ino)=true:=by
  rw [List.take_succ_eq_append_getElem h,List.all_append,ha];simp [hm]
theorem RC {es:List EntT} {j:Nat} (h:j<es.length):((es.take (j+1)).flatMap fun e=>Fz e.nm e.ino)=((es.take j).flatMap fun e=>Fz e.nm e.ino)++Fz es[j].nm es[j].ino:=by
  rw [List.take_succ_eq_append_getElem h,List.flatMap_append]
  simp only [List.flatMap_cons,List.flatMap_nil,List.append_nil]
theorem NC:∀ es:List EntT,es.all (fun e=>EX e.nm e.ino)=true→(es.flatMap fun e=>Fz e.nm e.ino).length=16*es.length
  | [],_=>rfl
  | e::r,h=>by
    simp only [List.all_cons,Bool.and_eq_true] at h
    have:=Jv h.1
    rw [List.flatMap_cons,List.length_append,Jk _ _ ω,NC r h.2,List.length_cons];omega
theorem DF (k:Int) (w:World):Calls prog 118 #[ν k] w fun e w'=>e=.returned (.bool (decide (0≤k∧k<4)))∧w=w':=by
  by_cases h0:0≤k
  · by_cases h1:k<4
    · rw [decide_eq_true ⟨h0,h1⟩]
      have d0:decide (0≤k)=true:=decide_eq_true h0
      have d1:decide (k<4)=true:=decide_eq_true h1
      go_enter func118,ntmps118
      go_wp2
      go_ret
      exact ⟨rfl,rfl⟩
    · rw [decide_eq_false (fun h=>h1 h.2)]
      have d0:decide (0≤k)=true:=decide_eq_true h0
      have d1:decide (k<4)=false:=decide_eq_false h1
      go_enter func118,ntmps118
      go_wp2
      go_ret
      exact ⟨rfl,rfl⟩
  · rw [decide_eq_false (fun h=>h0 h.1)]
    have d0:decide (0≤k)=false:=decide_eq_false h0
    go_enter func118,ntmps118
    go_wp2
    go_ret
    exact ⟨rfl,rfl⟩
theorem Oc (g q:Nat) (hq:q<4) (w:World):(Instr.sliceAt 111 (π g) (some (ν ((q:Int)*4))) (some (ν (((q:Int)+1)*4))) none).run prog w=.ok (.slice (some ⟨g,8*q,none⟩) 4 (16-4*q)) w:=by
  rcases (ω:q=0∨q=1∨q=2∨q=3) with rfl | rfl | rfl | rfl<;>kernel_rfl
theorem SW (t:List EntT) (ht:t.length=16) (k:Int) (w:World):Calls prog 158 #[.agg (Aq t).toArray,ν k] w (Abx w (IH t k)):=by
  have HT:=hid ht
  have K0:=hid (AR (W:=w) rfl 111 (Aq t))
  have B0:=hid (Cu w (.cells (Aq t).toArray 111))
  have SZ:=hid (show (w.alloc (.cells (Aq t).toArray 111)).heap.size=w.heap.size+1 by simp)
  clear ht
  by_cases hk:0≤k∧k<4
  · obtain ⟨q,rfl⟩:∃ q:Nat,k=q:=⟨k.toNat,ω⟩
    have hq:q<4:=ω
    have HR:Hid (IH t (q:Int)=Wy ((t.drop (4*q)).take 4)):=if_pos hk
    have HIB:=fun w1=>DF (q:Int) w1
    rw [decide_eq_true hk] at HIB
    have HIB:=hid HIB
    have q4:(q:Int)<4:=ω
    clear hk
    obtain ⟨es,hes⟩:∃ es,es=(t.drop (4*q)).take 4:=⟨_,rfl⟩
    rw [← hes] at HR
    have hel:es.length=4:=by rw [hes,List.length_take,List.length_drop,HT.out];omega
    have hget:∀ j (h:j<es.length),∃ h':4*q+j<t.length,es[j]=t[4*q+j]:=fun j h=>⟨by rw [HT.out];omega,by subst hes;simp⟩
    have HG:=hid hget;have HEL:=hid hel
    clear hes hget hel
    have hsl:=fun w1=>Oc w.heap.size q hq w1
    go_enter func158,ntmps158
    go_wp2_with (go_at_call 118;refine (HIB.out _).mono ?_;rintro e w1 ⟨rfl,rfl⟩)
    go_loopw [6,19] (fun b i wr=>∃ (j:Nat) (a1:Ω) (c1 m:Nat),j≤4∧i=ν j∧b=.slice a1 m c1∧m=16*j∧(es.take j).all (fun e=>EX e.nm e.ino)=true∧Own wr (w.heap.size+1) 5 1 a1 m c1 (((es.take j).flatMap fun e=>Fz e.nm e.ino).map Ac)∧Blk wr w.heap.size 111 (Aq t)∧Below w.heap.size w wr∧w.heap.size+1≤wr.heap.size) (fun _ i _=>4-(intOf i).toNat)
    case atStart=>exact ⟨0,none,0,0,ω,rfl,rfl,rfl,rfl,Own.nil _ _ _ _,K0.out,B0.out,by rw [SZ.out];exact Nat.le_refl _⟩
    case round=>
      obtain ⟨j,a1,c1,m,hj,rfl,rfl,hm,hall,ho,hb0,hbl,hsz⟩:=hrel
      clear K0 B0 SZ hsl
      have HO:=hid ho;have HB0:=hid hb0;have HBL:=hid hbl;have HALL:=hid hall;have HM:=hid hm
      have hm64:m≤64:=ω
      clear ho hb0 hbl hall hm
      by_cases hj4:j<4
      · have ij:(j:Int)<4:=ω
        have dj:decide ((j:Int)<4)=true:=decide_eq_true ij
        have hje:j<es.length:=by rw [HEL.out];exact hj4
        obtain ⟨ht4,hte⟩:=HG.out j hje
        have ck:=EH t (4*q+j) ht4
        obtain ⟨hq0,hv0⟩:=List.getElem?_eq_some_iff.1 ck.1
        obtain ⟨hq1,hv1⟩:=List.getElem?_eq_some_iff.1 ck.2
        have c0:wr.cell? ⟨w.heap.size,8*q+j*2,none⟩=some (.string es[j].nm):=by rw [hte,show 8*q+j*2=2*(4*q+j) by omega,HB0.out.cell (i:=2*(4*q+j)) hq0,hv0]
        have c1':wr.cell? ⟨w.heap.size,8*q+j*2+1,none⟩=some (ν es[j].ino):=by rw [hte,show 8*q+j*2+1=2*(4*q+j)+1 by omega,HB0.out.cell (i:=2*(4*q+j)+1) hq1,hv1]
        have hbad:=fun hm=>Wz hje hm
        have hgood:=fun hm=>Uo hje HALL.out hm
        have hfl:=RC hje
        have hHM:=fun w1=>LF es[j].nm es[j].ino w1
        have HBAD:=hid hbad;have HGOOD:=hid hgood;have HFL:=hid hfl;have HHM:=hid hHM
        clear hbad hgood hfl hHM hte ck hq0 hq1 hv0 hv1
        generalize es[j].nm=nm at *
        generalize es[j].ino=ino at *
        have KE:=hid (AR (W:=wr) rfl 109 [.string nm,ν ino])
        cases hmm:EX nm ino with
        | false=>
          rw [hmm] at HHM
          have HN:=hid (HBAD.out hmm)
          clear hmm
          go_wp2_with (go_at_call 141;refine (HHM.out _).mono ?_;rintro e w3 ⟨rfl,b3⟩;have B3:=hid (Ae (HBL.out.alloc HBL.out.size _) b3);clear b3)
          go_ret2
          exact Nr (by rw [HR.out,HN.out]) rfl B3.out
        | true=>
          rw [hmm] at HHM
          have hbd:=Jv hmm
          have HG2:=hid (HGOOD.out hmm)
          have HPU:=hid (fun w1=>LG nm ino ⟨hbd.1,ω⟩ ω w1)
          have hel:=Jk nm ino ω
          have HE16:=hid hel
          clear hmm hbd hel
          generalize Fz nm ino=B16 at *
          go_wp2_with (first
            | (go_at_call 141;refine (HHM.out _).mono ?_;rintro e w3 ⟨rfl,b3⟩;have B3:=hid (Ae (HBL.out.alloc HBL.out.size _) b3);have KE3:=hid (KE.out.mono b3);have HO3:=hid ((HO.out.alloc _).mono b3);have HB3:=hid ((HB0.out.mono (Cu _ _)).mono b3);have z3:wr.heap.size+1≤w3.heap.size:=by (have:=b3.size;simpa using this)
               clear b3
               have e30:=KE3.out.cell (i:=0) (by simp);have e31:=KE3.out.cell (i:=1) (by simp)
               simp only [List.getElem_cons_zero,List.getElem_cons_succ] at e30 e31)
            | (go_at_call 143;refine (HPU.out _).mono ?_;rintro e w4 ⟨a4,c4,rfl,o4,b4⟩;have B4:=hid (Ae B3.out b4);have HO4:=hid (HO3.out.mono b4);have HB4:=hid (HB3.out.mono b4);have O4:=hid o4;have z4:wr.heap.size+1≤w4.heap.size:=Nat.le_trans z3 b4.size
               clear b4 o4;rw [HE16.out])
            | (at_builtin;have r4:Row w4 1 a4 16 c4 (B16.map Ac):=by (have:=O4.out.row;rw [HE16.out] at this;exact this)
               (refine CG rfl (.tmp 26) (.tmp 28) rfl E8 (w.heap.size+1) rfl rfl HO4.out r4 (CN B16) ω ω ω ?_)
               intro a5 c5 w5 o5 g5 b5;have O5:=hid o5;have B5:=hid (B4.out.trans (b5.mono ω));have HB5:=hid (HB4.out.below b5 ω);have z5:w.heap.size+1≤w5.heap.size:=by (have:=b5.size;omega)
               clear o5 g5 b5 r4))
          go_roundw
          case rel=>exact ⟨j+1,a5,c5,m+16,ω,by go_num,rfl,by have:=HM.out;omega,HG2.out,by rw [HFL.out,List.map_append];exact O5.out,HB5.out,B5.out,z5⟩
          case measure=>simp [intOf];omega
      · obtain rfl:j=4:=ω
        have dj:decide (((4:Nat):Int)<4)=false:=by decide
        rw [List.take_of_length_le (by rw [HEL.out];omega)] at HO HALL
        have hsome:Wy es=some (es.flatMap fun e=>Fz e.nm e.ino):=if_pos HALL.out
        have hlen:=NC es HALL.out
        rw [HEL.out,← HM.out] at hlen
        have HS:=hid hsome;have HLN:=hid hlen
        clear hsome hlen
        generalize (es.flatMap fun e=>Fz e.nm e.ino)=bs at *
        go_wp2_with fail
        go_ret2
        exact Um (by rw [HR.out,HS.out]) (by rw [HLN.out];rfl) (by unfold CE;rw [HLN.out];exact HO.out.low ω) HBL.out
  · have HR:Hid (IH t k=none):=if_neg hk
    have HIB:=fun w1=>DF k w1
    rw [decide_eq_false hk] at HIB
    have HIB:=hid HIB
    clear hk
    go_enter func158,ntmps158
    go_wp2_with (go_at_call 118;refine (HIB.out _).mono ?_;rintro e w1 ⟨rfl,rfl⟩)
    go_ret2
    exact Nr HR.out rfl B0.out
end
section
open Go.RowKit Go.Shelf
theorem Jd {P:Program} {w:World} {o:Oper} {act:Act} {K:Act→World→Prop} {Q:Exit→Act→World→Prop} (T:TypeId) (x y:Operand)
    (ho:o.op=.store T x y) (g off:Nat) (hx:act.eval x=.pointer (some ⟨g,off,none⟩)) {e:TypeId} (vs:List Value) (hy:act.eval y=.agg vs.toArray) (hn:(P.info? T).map (·.size)=some vs.length) (h1:∀ v∈vs,v.oneCell'=true) {L:List Value} (hb:Blk w g e L) (hL:off+vs.length≤L.length)
    (h:∀ w',Blk w' g e (splice L off vs)→w.grownBy w' (some g)→K (act.put o.dst undef) w'):o.wp P act w K Q:=by
  refine wp_store_mid T x y ho g off vs.toArray hx hy (by simpa using hb.there off vs.length hL) (by simpa using hn) (all_oneCell_toArray h1) ?_
  obtain ⟨h2,h3⟩:=Blk.setCells vs off w L hb hL
  exact h _ h2 h3
def nmR (bs:Λ):ByteArray:=⟨((bs.drop 2).take (bAt bs 1)).toArray⟩
def KX (bs:Λ):Option EntT:=if bAt bs 1≤12∧EX (nmR bs) (bAt bs 0)=true∧(bs.drop (2+bAt bs 1)).all (fun b=>b == 0)=true then some ⟨nmR bs,bAt bs 0⟩ else none
theorem Mh {bs:Λ} (h:bs.length=16) (hn:bAt bs 1≤14):(nmR bs).size=bAt bs 1:=by
  show ((bs.drop 2).take (bAt bs 1)).toArray.size=_
  simp;omega
theorem Ad3 {bs:Λ} (h:bs.length=16):bs=[UInt8.ofNat (bAt bs 0),UInt8.ofNat (bAt bs 1)]++bs.drop 2:=by
  match bs,h with
  | x::y::r,_=>simp [bAt]
theorem WV {bs:Λ} (h:bs.length=16) (hn:bAt bs 1≤14):Fz (nmR bs) (bAt bs 0)=bs↔(bs.drop (2+bAt bs 1)).all (fun b=>b == 0)=true:=by
  have hs:=Mh h hn
  have e1:(nmR bs).data.toList=(bs.drop 2).take (bAt bs 1):=by simp [nmR]
  have e0:((bAt bs 0:Nat):Int).toNat=bAt bs 0:=ω
  have hd:bs=[UInt8.ofNat (bAt bs 0),UInt8.ofNat (bAt bs 1)]++((bs.drop 2).take (bAt bs 1)++bs.drop (2+bAt bs 1)):=by
    have:=Ad3 h
    rw [show bs.drop (2+bAt bs 1)=(bs.drop 2).drop (bAt bs 1) by rw [List.drop_drop]]
    rw [List.take_append_drop];exact this
  have hl:(bs.drop (2+bAt bs 1)).length=14-bAt bs 1:=by rw [List.length_drop];omega
  unfold Fz
  rw [hs,e1,e0,List.append_assoc]
  constructor
  · intro he
    have:=List.append_cancel_left (List.append_cancel_left (he.trans hd))
    rw [← this]
    simp
  · intro ha
    have hz:bs.drop (2+bAt bs 1)=List.replicate (14-bAt bs 1) 0:=by
      rw [← hl]
      exact List.eq_replicate_of_mem (fun b hb=>by simpa using List.all_eq_true.1 ha b hb)
    rw [← hz];exact hd.symm
theorem WL {bs:Λ} (h:¬ bAt bs 1≤12):KX bs=none:=if_neg (fun q=>h q.1)
theorem ZB {bs:Λ} (h:bs.length=16) (hn:bAt bs 1≤14):KX bs=if EX (nmR bs) (bAt bs 0)=true∧Fz (nmR bs) (bAt bs 0)=bs then some ⟨nmR bs,bAt bs 0⟩ else none:=by
  unfold KX
  by_cases hm:EX (nmR bs) (bAt bs 0)=true
  · have:=(Jv hm).2.2
    rw [Mh h hn] at this
    have hi:=WV h hn
    by_cases he:Fz (nmR bs) (bAt bs 0)=bs
    · rw [if_pos ⟨this,hm,hi.1 he⟩,if_pos ⟨hm,he⟩]
    · rw [if_neg (fun q=>he (hi.2 q.2.2)),if_neg (fun q=>he q.2)]
  · rw [if_neg (fun q=>hm q.2.1),if_neg (fun q=>hm q.1)]
theorem PF {xs:Λ} (i:Nat) (h:i<xs.length):AK xs (i:Int) 1=some (bAt xs i):=by
  have e:(xs.drop i).take 1=[xs[i]]:=by
    rw [List.drop_eq_getElem_cons h];rfl
  have hb:=DT xs i
  unfold AK
  rw [if_pos ⟨by decide,ω,ω⟩,show ((i:Int)).toNat=i by omega,show ((1:Int)).toNat=1 by omega,e]
  have:BW [xs[i]]=bAt xs i:=by simp [BW,DR h]
  rw [this,if_pos ω]
def Adr (w:World) (bs:Λ) (e:Ending) (w':World):Prop:=
  ∃ (nm:ByteArray) (ino:Int) (b:Bool),e=.returned (.tuple #[.agg #[.string nm,ν ino],.bool b])∧(b=true→KX bs=some ⟨nm,ino⟩)∧(b=false→KX bs=none)∧Below w.heap.size w w'
theorem FH {fn:Func} {c u:Tmp} (h:fn.results=#[.cell c 109,.tmp u]) {tmps:Array Value} {w:World} {g:Nat} {e:TypeId} {n:ByteArray} {i:Int} (hc:tmps.getD c undef=π g) (hb:Blk w g e [.string n,ν i]) :
    (results fn tmps).run prog w=.ok (.tuple #[.agg #[.string n,ν i],tmps.getD u undef]) w:=
  Cd h hc hb υ109 rfl (by rw [CQ];rfl)
theorem UD (b off c:Nat) (bs:Λ) (hbs:bs.length=16) (w:World) (hr:By w (some ⟨b,off,none⟩) c bs):Calls prog 119 #[.slice (some ⟨b,off,none⟩) 16 c] w (Adr w bs):=by
  have hc16:16≤c:=by have:=hr.2.1;omega
  have hc9:c≤9223372036854775807:=by have:=hr.2.2.1;unfold maxLen at this;omega
  have K0:=hid (AR (W:=w) rfl 109 [.string ⟨#[]⟩,ν 0])
  have B0:=hid (Cu w (.cells #[.string ⟨#[]⟩,ν 0] 109))
  have HROW:=hid hr
  have HG0:=EU (some ⟨b,off,none⟩) c bs 0 1 (w.alloc (.cells #[.string ⟨#[]⟩,ν 0] 109)) (hr.alloc _) ω
  have HG1:=EU (some ⟨b,off,none⟩) c bs 1 1 (w.alloc (.cells #[.string ⟨#[]⟩,ν 0] 109)) (hr.alloc _) ω
  rw [show (0:Int)=((0:Nat):Int) from rfl,PF 0 ω,hbs] at HG0
  rw [show AK bs (1:Int) 1=some (bAt bs 1) from PF 1 ω,hbs] at HG1
  unfold OB at HG0 HG1
  simp only [Option.getD_some,Option.isSome_some,Int.ofNat_zero] at HG0 HG1
  have HG0:=hid HG0;have HG1:=hid HG1
  have l0:=DT bs 0;have l1:=DT bs 1
  have hr':=hr
  clear hr
  by_cases hn:bAt bs 1≤14
  · have hs:=Mh hbs hn
    have hdr:=ZB hbs hn
    have hrs:=MF (show By (w.alloc (.cells #[.string ⟨#[]⟩,ν 0] 109)) (some ⟨b,off,none⟩) c bs from hr'.alloc _) 2 (bAt bs 1) ω
    have hcv:=GK hrs
    have hln:((bs.drop 2).take (bAt bs 1)).length=bAt bs 1:=by simp;omega
    rw [hln] at hcv
    have hcv':(convert 52 9 (.slice (some ⟨b,off+2,none⟩) (bAt bs 1) (c-2))).run prog (w.alloc (.cells #[.string ⟨#[]⟩,ν 0] 109))=.ok (.string (nmR bs)) (w.alloc (.cells #[.string ⟨#[]⟩,ν 0] 109)):=hcv
    have HM:=fun w1=>LF (nmR bs) (bAt bs 0) w1
    have HPU:=fun (hm:EX (nmR bs) (bAt bs 0)=true) w1=>LG (nmR bs) (bAt bs 0) ⟨ω,ω⟩ (by have:=(Jv hm).2.2;omega) w1
    have HE16:EX (nmR bs) (bAt bs 0)=true→(Fz (nmR bs) (bAt bs 0)).length=16:=fun hm=>Jk _ _ (by have:=(Jv hm).2.2;omega)
    have HEQ:=fun (a:Ω) (c':Nat) (w1:World) (h1:By w1 a c' (Fz (nmR bs) (bAt bs 0))) (h2:By w1 (some ⟨b,off,none⟩) c bs)=>UK a (some ⟨b,off,none⟩) c' c (Fz (nmR bs) (bAt bs 0)) bs w1 h1 h2
    have HDR:=hid hdr;have HSZ:=hid hs
    clear hrs hcv hdr hs hln
    have d1:decide (14<((bAt bs 1:Nat):Int))=false:=decide_eq_false ω
    have i1:¬ 14<((bAt bs 1:Nat):Int):=ω
    have hc2:¬ c=2:=ω
    generalize Fz (nmR bs) (bAt bs 0)=EB at *
    generalize nmR bs=nm at *
    generalize bAt bs 0=x at *
    generalize bAt bs 1=n at *
    have W1:Hid (Below w.heap.size w ((w.alloc (.cells #[.string ⟨#[]⟩,ν 0] 109)).alloc (.cells #[.string nm,ν (x:Int)] 109))):=hid (B0.out.alloc B0.out.size _)
    have KE:=hid (AR (W:=w.alloc (.cells #[.string ⟨#[]⟩,ν 0] 109)) (n:=w.heap.size+1) (by simp) 109 [.string nm,ν (x:Int)])
    have K1:=hid (K0.out.mono (Cu _ (.cells #[.string nm,ν (x:Int)] 109)))
    have HRG:Hid (∀ (X Y:World) (L:List Value),X.rangeAt (w.heap.size+1) 0 L→X.grownBy Y (some w.heap.size)→Y.rangeAt (w.heap.size+1) 0 L):=hid (fun X Y L h g j u hu=>(World.cell?_of_block (a:=⟨w.heap.size+1,0+j,none⟩) (g.block _ (World.block_lt_of_cell? X _ (h j u hu)) (by simp))).trans (h j u hu))
    have HSTEP:Hid (∀ X Y:World,(X.rangeAt (w.heap.size+1) 0 [.string nm,ν (x:Int)]∧(∃ L2,Blk X w.heap.size 109 L2∧L2.length=2)∧Below w.heap.size w X∧w.heap.size+2≤X.heap.size)→Below X.heap.size X Y→(Y.rangeAt (w.heap.size+1) 0 [.string nm,ν (x:Int)]∧(∃ L2,Blk Y w.heap.size 109 L2∧L2.length=2)∧Below w.heap.size w Y∧w.heap.size+2≤Y.heap.size)):=
      hid (fun X Y h b=>⟨KP h.1 b,⟨h.2.1.choose,h.2.1.choose_spec.1.mono b,h.2.1.choose_spec.2⟩,Ae h.2.2.1 b,Nat.le_trans h.2.2.2 b.size⟩)
    go_enter func119,ntmps119
    go_wp2_with (go_at_call 59;fail)
    refine (HG0.out).mono ?_
    rintro e w1 ⟨rfl,rfl⟩
    go_wp2_with (go_at_call 59;fail)
    refine (HG1.out).mono ?_
    rintro e w1 ⟨rfl,rfl⟩
    go_wp2_with fail
    have hS0:((w.alloc (.cells #[.string ⟨#[]⟩,ν 0] 109)).alloc (.cells #[.string nm,ν (x:Int)] 109)).drew.rangeAt (w.heap.size+1) 0 [.string nm,ν (x:Int)]∧(∃ L2,Blk ((w.alloc (.cells #[.string ⟨#[]⟩,ν 0] 109)).alloc (.cells #[.string nm,ν (x:Int)] 109)).drew w.heap.size 109 L2∧L2.length=2)∧Below w.heap.size w ((w.alloc (.cells #[.string ⟨#[]⟩,ν 0] 109)).alloc (.cells #[.string nm,ν (x:Int)] 109)).drew∧w.heap.size+2≤((w.alloc (.cells #[.string ⟨#[]⟩,ν 0] 109)).alloc (.cells #[.string nm,ν (x:Int)] 109)).drew.heap.size:=
      ⟨Blk.range (Blk.drew KE.out),⟨_,Blk.drew K1.out,rfl⟩,W1.out.drew,by show w.heap.size+2≤((w.alloc _).alloc _).heap.size;simp⟩
    clear hcv' hc2
    cases hm:EX nm (x:Int) with
    | false=>
      rw [hm] at HM
      have HD:Hid (KX bs=none):=hid (by rw [HDR.out,if_neg (fun q=>by rw [hm] at q;cases q.1)])
      have HM:=hid HM
      clear hm HPU HE16 HEQ
      refine wp_region_held_drew (S:=fun w'=>w'.rangeAt (w.heap.size+1) 0 [.string nm,ν (x:Int)]∧(∃ L2,Blk w' w.heap.size 109 L2∧L2.length=2)∧Below w.heap.size w w'∧w.heap.size+2≤w'.heap.size) κ hS0 (fun hS_0=>?_)
      refine Ce (i:=0) 109 _ ((w.heap.size+1)) 0 [.string nm,ν (x:Int)] _ rfl rfl rfl rfl (Eq.refl true) υ109 rfl (by rw [CQ];rfl) κ κ κ (fun _ _ _ h=>h) (fun w' h'=>h'.1) hS_0 ?_
      (try simp only [Act.put,List.setIfInBounds_toArray,List.set_cons_zero,List.set_cons_succ])
      refine Ce (i:=1) 109 _ ((w.heap.size+1)) 0 [.string nm,ν (x:Int)] _ rfl rfl rfl rfl (Eq.refl true) υ109 rfl (by rw [CQ];rfl) κ κ κ (fun _ _ _ h=>h) (fun w' h'=>h'.1) hS_0 ?_
      (try simp only [Act.put,List.setIfInBounds_toArray,List.set_cons_zero,List.set_cons_succ])
      refine wpAnyH_ready (rs:=[2]) κ (by simp) (AllReadyH.cons rfl (fun K hK=>?_) AllReadyH.nil)
      go_simp
      go_wp2_with (go_at_call 141;refine (HM.out _).mono ?_;rintro e w5 ⟨rfl,b5⟩)
      refine hK.out _ _ ?_ (fun hS_1=>?_)
      · exact HSTEP.out _ _ hS_0 b5
      clear hK K
      refine Bk (i:=3) (v:=.bool false) rfl rfl κ κ κ (fun _ _ _ h=>h) (Or.inl ⟨Eq.refl true,fun w1 hSw=>?_⟩) hS_1 ?_
      · first | rfl | (clear hSw;go_simp;done) | (clear hSw;go_simp;rfl)
      (try simp only [Act.put,List.setIfInBounds_toArray,List.set_cons_zero,List.set_cons_succ])
      refine Bk (i:=4) (v:=undef) rfl rfl κ κ κ (fun _ _ _ h=>h) (Or.inr ⟨Eq.refl false,rfl⟩) hS_1 ?_
      (try simp only [Act.put,List.setIfInBounds_toArray,List.set_cons_zero,List.set_cons_succ])
      refine Bk (i:=5) (v:=undef) rfl rfl κ κ κ (fun _ _ _ h=>h) (Or.inr ⟨Eq.refl false,rfl⟩) hS_1 ?_
      (try simp only [Act.put,List.setIfInBounds_toArray,List.set_cons_zero,List.set_cons_succ])
      refine Bk (i:=6) (v:=undef) rfl rfl κ κ κ (fun _ _ _ h=>h) (Or.inr ⟨Eq.refl false,rfl⟩) hS_1 ?_
      (try simp only [Act.put,List.setIfInBounds_toArray,List.set_cons_zero,List.set_cons_succ])
      refine Bk (i:=7) (v:=undef) rfl rfl κ κ κ (fun _ _ _ h=>h) (Or.inr ⟨Eq.refl false,rfl⟩) hS_1 ?_
      (try simp only [Act.put,List.setIfInBounds_toArray,List.set_cons_zero,List.set_cons_succ])
      refine Bk (i:=8) (v:=.bool false) rfl rfl κ κ κ (fun _ _ _ h=>h) (Or.inl ⟨Eq.refl true,fun w1 hSw=>?_⟩) hS_1 ?_
      · first | rfl | (clear hSw;go_simp;done) | (clear hSw;go_simp;rfl)
      (try simp only [Act.put,List.setIfInBounds_toArray,List.set_cons_zero,List.set_cons_succ])
      refine wpAnyH_ready (rs:=[9]) κ (by simp) (AllReadyH.cons rfl (fun K hK=>?_) AllReadyH.nil)
      refine BG (Eq.refl true) ?_
      obtain ⟨L2,hb2,hl2⟩:=hS_1.2.1;refine Jd 109 _ _ rfl w.heap.size 0 rfl [.string nm,ν (x:Int)] rfl (by rw [CQ];rfl) (Hh ⟨nm,x⟩) hb2 (by rw [hl2];exact Nat.le_refl 2) ?_;intro w9 k9 g9;rw [DA (by rw [hl2];rfl)] at k9;have K9:=hid k9;have G9:=hid g9
      refine hK.out _ _ ?_ (fun hS_2=>?_)
      · exact ⟨HRG.out _ _ _ hS_1.1 g9,⟨_,k9,rfl⟩,Cn hS_1.2.2.1 g9 (Nat.le_refl _) hS_1.2.2.1.size,Nat.le_trans hS_1.2.2.2 g9.size⟩
      clear hK K
      refine Bk (i:=10) (v:=.bool false) rfl rfl κ κ κ (fun _ _ _ h=>h) (Or.inl ⟨Eq.refl true,fun w1 hSw=>?_⟩) hS_2 ?_
      · first | rfl | (clear hSw;go_simp;done) | (clear hSw;go_simp;rfl)
      (try simp only [Act.put,List.setIfInBounds_toArray,List.set_cons_zero,List.set_cons_succ])
      refine wpAnyH_done κ ?_ _
      go_wp2_with fail
      refine bodyPost_ret (FH rfl rfl K9.out) rfl ⟨nm,x,false,rfl,(fun h=>by cases h),(fun _=>HD.out),hS_2.2.2.1⟩
    | true=>
      rw [hm] at HM
      have HPU:=hid (HPU hm);have HE16:=hid (HE16 hm)
      by_cases hq:EB=bs
      · have HD:Hid (KX bs=some ⟨nm,x⟩):=hid (by rw [HDR.out,if_pos ⟨hm,hq⟩])
        have HEQ':=fun a c' w1 h1 h2=>HEQ a c' w1 h1 h2
        rw [decide_eq_true hq,HE16.out,hbs] at HEQ'
        have HEQ:=hid HEQ'
        have HM:=hid HM
        clear hm hq HEQ'
        refine wp_region_held_drew (S:=fun w'=>w'.rangeAt (w.heap.size+1) 0 [.string nm,ν (x:Int)]∧(∃ L2,Blk w' w.heap.size 109 L2∧L2.length=2)∧Below w.heap.size w w'∧w.heap.size+2≤w'.heap.size) κ hS0 (fun hS_0=>?_)
        refine Ce (i:=0) 109 _ ((w.heap.size+1)) 0 [.string nm,ν (x:Int)] _ rfl rfl rfl rfl (Eq.refl true) υ109 rfl (by rw [CQ];rfl) κ κ κ (fun _ _ _ h=>h) (fun w' h'=>h'.1) hS_0 ?_
        (try simp only [Act.put,List.setIfInBounds_toArray,List.set_cons_zero,List.set_cons_succ])
        refine Ce (i:=1) 109 _ ((w.heap.size+1)) 0 [.string nm,ν (x:Int)] _ rfl rfl rfl rfl (Eq.refl true) υ109 rfl (by rw [CQ];rfl) κ κ κ (fun _ _ _ h=>h) (fun w' h'=>h'.1) hS_0 ?_
        (try simp only [Act.put,List.setIfInBounds_toArray,List.set_cons_zero,List.set_cons_succ])
        refine wpAnyH_ready (rs:=[2]) κ (by simp) (AllReadyH.cons rfl (fun K hK=>?_) AllReadyH.nil)
        go_simp
        go_wp2_with (go_at_call 141;refine (HM.out _).mono ?_;rintro e w5 ⟨rfl,b5⟩)
        refine hK.out _ _ ?_ (fun hS_1=>?_)
        · exact HSTEP.out _ _ hS_0 b5
        clear hK K
        refine Bk (i:=3) (v:=.bool true) rfl rfl κ κ κ (fun _ _ _ h=>h) (Or.inl ⟨Eq.refl true,fun w1 hSw=>?_⟩) hS_1 ?_
        · first | rfl | (clear hSw;go_simp;done) | (clear hSw;go_simp;rfl)
        (try simp only [Act.put,List.setIfInBounds_toArray,List.set_cons_zero,List.set_cons_succ])
        refine Ce (i:=4) 109 _ ((w.heap.size+1)) 0 [.string nm,ν (x:Int)] _ rfl rfl rfl rfl (Eq.refl true) υ109 rfl (by rw [CQ];rfl) κ κ κ (fun _ _ _ h=>h) (fun w' h'=>h'.1) hS_1 ?_
        (try simp only [Act.put,List.setIfInBounds_toArray,List.set_cons_zero,List.set_cons_succ])
        refine Bk (i:=6) (v:=.slice (some ⟨b,off,none⟩) 16 c) rfl rfl κ κ κ (fun _ _ _ h=>h) (Or.inl ⟨Eq.refl true,fun w1 hSw=>?_⟩) hS_1 ?_
        · first | rfl | (clear hSw;go_simp;done) | (clear hSw;go_simp;rfl)
        (try simp only [Act.put,List.setIfInBounds_toArray,List.set_cons_zero,List.set_cons_succ])
        refine wpAnyH_ready (rs:=[5]) κ (by simp) (AllReadyH.cons rfl (fun K hK=>?_) AllReadyH.nil)
        go_simp
        go_wp2_with (go_at_call 143;refine (HPU.out _).mono ?_;rintro e w6 ⟨a6,c6,rfl,o6,b6⟩;rw [HE16.out])
        refine hK.out _ _ ?_ (fun hS_2=>?_)
        · exact HSTEP.out _ _ hS_1 b6
        clear hK K
        refine wpAnyH_ready (rs:=[7]) κ (by simp) (AllReadyH.cons rfl (fun K hK=>?_) AllReadyH.nil)
        go_simp
        go_wp2_with (go_at_call 142;refine (HEQ.out a6 c6 _ (by have:=o6.row;exact this) ((HROW.out.mono hS_2.2.2.1))).mono ?_;rintro e w7 ⟨rfl,rfl⟩)
        refine hK.out _ _ ?_ (fun hS_3=>?_)
        · exact hS_2
        clear hK K
        refine Bk (i:=8) (v:=.bool true) rfl rfl κ κ κ (fun _ _ _ h=>h) (Or.inl ⟨Eq.refl true,fun w1 hSw=>?_⟩) hS_3 ?_
        · first | rfl | (clear hSw;go_simp;done) | (clear hSw;go_simp;rfl)
        (try simp only [Act.put,List.setIfInBounds_toArray,List.set_cons_zero,List.set_cons_succ])
        refine wpAnyH_ready (rs:=[9]) κ (by simp) (AllReadyH.cons rfl (fun K hK=>?_) AllReadyH.nil)
        refine BG (Eq.refl true) ?_
        obtain ⟨L2,hb2,hl2⟩:=hS_3.2.1;refine Jd 109 _ _ rfl w.heap.size 0 rfl [.string nm,ν (x:Int)] rfl (by rw [CQ];rfl) (Hh ⟨nm,x⟩) hb2 (by rw [hl2];exact Nat.le_refl 2) ?_;intro w9 k9 g9;rw [DA (by rw [hl2];rfl)] at k9;have K9:=hid k9;have G9:=hid g9
        refine hK.out _ _ ?_ (fun hS_4=>?_)
        · exact ⟨HRG.out _ _ _ hS_3.1 g9,⟨_,k9,rfl⟩,Cn hS_3.2.2.1 g9 (Nat.le_refl _) hS_3.2.2.1.size,Nat.le_trans hS_3.2.2.2 g9.size⟩
        clear hK K
        refine Bk (i:=10) (v:=.bool true) rfl rfl κ κ κ (fun _ _ _ h=>h) (Or.inl ⟨Eq.refl true,fun w1 hSw=>?_⟩) hS_4 ?_
        · first | rfl | (clear hSw;go_simp;done) | (clear hSw;go_simp;rfl)
        (try simp only [Act.put,List.setIfInBounds_toArray,List.set_cons_zero,List.set_cons_succ])
        refine wpAnyH_done κ ?_ _
        go_wp2_with fail
        refine bodyPost_ret (FH rfl rfl K9.out) rfl ⟨nm,x,true,rfl,fun _=>HD.out,(fun h=>by cases h),hS_4.2.2.1⟩
      · have HD:Hid (KX bs=none):=hid (by rw [HDR.out,if_neg (fun q=>hq q.2)])
        have HEQ':=fun a c' w1 h1 h2=>HEQ a c' w1 h1 h2
        rw [decide_eq_false hq,HE16.out,hbs] at HEQ'
        have HEQ:=hid HEQ'
        have HM:=hid HM
        clear hm hq HEQ'
        refine wp_region_held_drew (S:=fun w'=>w'.rangeAt (w.heap.size+1) 0 [.string nm,ν (x:Int)]∧(∃ L2,Blk w' w.heap.size 109 L2∧L2.length=2)∧Below w.heap.size w w'∧w.heap.size+2≤w'.heap.size) κ hS0 (fun hS_0=>?_)
        refine Ce (i:=0) 109 _ ((w.heap.size+1)) 0 [.string nm,ν (x:Int)] _ rfl rfl rfl rfl (Eq.refl true) υ109 rfl (by rw [CQ];rfl) κ κ κ (fun _ _ _ h=>h) (fun w' h'=>h'.1) hS_0 ?_
        (try simp only [Act.put,List.setIfInBounds_toArray,List.set_cons_zero,List.set_cons_succ])
        refine Ce (i:=1) 109 _ ((w.heap.size+1)) 0 [.string nm,ν (x:Int)] _ rfl rfl rfl rfl (Eq.refl true) υ109 rfl (by rw [CQ];rfl) κ κ κ (fun _ _ _ h=>h) (fun w' h'=>h'.1) hS_0 ?_
        (try simp only [Act.put,List.setIfInBounds_toArray,List.set_cons_zero,List.set_cons_succ])
        refine wpAnyH_ready (rs:=[2]) κ (by simp) (AllReadyH.cons rfl (fun K hK=>?_) AllReadyH.nil)
        go_simp
        go_wp2_with (go_at_call 141;refine (HM.out _).mono ?_;rintro e w5 ⟨rfl,b5⟩)
        refine hK.out _ _ ?_ (fun hS_1=>?_)
        · exact HSTEP.out _ _ hS_0 b5
        clear hK K
        refine Bk (i:=3) (v:=.bool true) rfl rfl κ κ κ (fun _ _ _ h=>h) (Or.inl ⟨Eq.refl true,fun w1 hSw=>?_⟩) hS_1 ?_
        · first | rfl | (clear hSw;go_simp;done) | (clear hSw;go_simp;rfl)
        (try simp only [Act.put,List.setIfInBounds_toArray,List.set_cons_zero,List.set_cons_succ])
        refine Ce (i:=4) 109 _ ((w.heap.size+1)) 0 [.string nm,ν (x:Int)] _ rfl rfl rfl rfl (Eq.refl true) υ109 rfl (by rw [CQ];rfl) κ κ κ (fun _ _ _ h=>h) (fun w' h'=>h'.1) hS_1 ?_
        (try simp only [Act.put,List.setIfInBounds_toArray,List.set_cons_zero,List.set_cons_succ])
        refine Bk (i:=6) (v:=.slice (some ⟨b,off,none⟩) 16 c) rfl rfl κ κ κ (fun _ _ _ h=>h) (Or.inl ⟨Eq.refl true,fun w1 hSw=>?_⟩) hS_1 ?_
        · first | rfl | (clear hSw;go_simp;done) | (clear hSw;go_simp;rfl)
        (try simp only [Act.put,List.setIfInBounds_toArray,List.set_cons_zero,List.set_cons_succ])
        refine wpAnyH_ready (rs:=[5]) κ (by simp) (AllReadyH.cons rfl (fun K hK=>?_) AllReadyH.nil)
        go_simp
        go_wp2_with (go_at_call 143;refine (HPU.out _).mono ?_;rintro e w6 ⟨a6,c6,rfl,o6,b6⟩;rw [HE16.out])
        refine hK.out _ _ ?_ (fun hS_2=>?_)
        · exact HSTEP.out _ _ hS_1 b6
        clear hK K
        refine wpAnyH_ready (rs:=[7]) κ (by simp) (AllReadyH.cons rfl (fun K hK=>?_) AllReadyH.nil)
        go_simp
        go_wp2_with (go_at_call 142;refine (HEQ.out a6 c6 _ (by have:=o6.row;exact this) ((HROW.out.mono hS_2.2.2.1))).mono ?_;rintro e w7 ⟨rfl,rfl⟩)
        refine hK.out _ _ ?_ (fun hS_3=>?_)
        · exact hS_2
        clear hK K
        refine Bk (i:=8) (v:=.bool false) rfl rfl κ κ κ (fun _ _ _ h=>h) (Or.inl ⟨Eq.refl true,fun w1 hSw=>?_⟩) hS_3 ?_
        · first | rfl | (clear hSw;go_simp;done) | (clear hSw;go_simp;rfl)
        (try simp only [Act.put,List.setIfInBounds_toArray,List.set_cons_zero,List.set_cons_succ])
        refine wpAnyH_ready (rs:=[9]) κ (by simp) (AllReadyH.cons rfl (fun K hK=>?_) AllReadyH.nil)
        refine BG (Eq.refl true) ?_
        obtain ⟨L2,hb2,hl2⟩:=hS_3.2.1;refine Jd 109 _ _ rfl w.heap.size 0 rfl [.string nm,ν (x:Int)] rfl (by rw [CQ];rfl) (Hh ⟨nm,x⟩) hb2 (by rw [hl2];exact Nat.le_refl 2) ?_;intro w9 k9 g9;rw [DA (by rw [hl2];rfl)] at k9;have K9:=hid k9;have G9:=hid g9
        refine hK.out _ _ ?_ (fun hS_4=>?_)
        · exact ⟨HRG.out _ _ _ hS_3.1 g9,⟨_,k9,rfl⟩,Cn hS_3.2.2.1 g9 (Nat.le_refl _) hS_3.2.2.1.size,Nat.le_trans hS_3.2.2.2 g9.size⟩
        clear hK K
        refine Bk (i:=10) (v:=.bool false) rfl rfl κ κ κ (fun _ _ _ h=>h) (Or.inl ⟨Eq.refl true,fun w1 hSw=>?_⟩) hS_4 ?_
        · first | rfl | (clear hSw;go_simp;done) | (clear hSw;go_simp;rfl)
        (try simp only [Act.put,List.setIfInBounds_toArray,List.set_cons_zero,List.set_cons_succ])
        refine wpAnyH_done κ ?_ _
        go_wp2_with fail
        refine bodyPost_ret (FH rfl rfl K9.out) rfl ⟨nm,x,false,rfl,(fun h=>by cases h),(fun _=>HD.out),hS_4.2.2.1⟩
  · have HD:=hid (WL (bs:=bs) ω)
    have d1:decide (14<((bAt bs 1:Nat):Int))=true:=decide_eq_true ω
    generalize bAt bs 0=x at *
    generalize bAt bs 1=n at *
    go_enter func119,ntmps119
    go_wp2_with (go_at_call 59;fail)
    refine (HG0.out).mono ?_
    rintro e w1 ⟨rfl,rfl⟩
    go_wp2_with (go_at_call 59;fail)
    refine (HG1.out).mono ?_
    rintro e w1 ⟨rfl,rfl⟩
    go_wp2_with fail
    refine bodyPost_ret (FH rfl rfl K0.out) rfl ⟨_,_,false,rfl,(fun h=>by cases h),(fun _=>HD.out),B0.out⟩
end
end Go.Proofs.YthiplgahhejmcaaGreatDoor
