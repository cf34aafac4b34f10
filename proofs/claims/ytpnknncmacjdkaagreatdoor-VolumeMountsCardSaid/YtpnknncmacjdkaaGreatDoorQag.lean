/- Parts of the proof. -/
import Derived.Lib.SlBytesConst
import Derived.Laws.StructEq
import Derived.Test.YtpnknncmacjdkaaGreatDoorQaf
namespace Go.Proofs.YtpnknncmacjdkaaGreatDoor
open Go.RowKit
open _root_.Go.Proofs.Tryz
set_option linter.unusedSimpArgs false
set_option linter.unusedVariables false
set_option linter.unusedSectionVars false
set_option maxRecDepth 100000
set_option maxHeartbeats 8000000
section
theorem YN {P:Program} {o:Oper} {x y:Operand} {t t2:TypeId} (ho:o.op=.call { callee:=.builtin .max,args:=#[x,y],argTypes:=#[t,t2] }) {ρ:Operand→Value} {i j:Int} (hx:ρ x=ν i) (hy:ρ y=ν j) (w:World):(execOp ρ o).run P w=.ok (.value (ν (max i j))) w:=by
  unfold execOp;rw [ho]
  simp [resolve,invoke,builtin,hx,hy,Builtin.max_,Builtin.max2]
  have e:(if i<j then j else i)=max i j:=by split<;>omega
  rw [e]
theorem YO {P:Program} {o:Oper} {x y:Operand} {t t2:TypeId} (ho:o.op=.call { callee:=.builtin .min,args:=#[x,y],argTypes:=#[t,t2] }) {ρ:Operand→Value} {i j:Int} (hx:ρ x=ν i) (hy:ρ y=ν j) (w:World):(execOp ρ o).run P w=.ok (.value (ν (min i j))) w:=by
  unfold execOp;rw [ho]
  simp [resolve,invoke,builtin,hx,hy,Builtin.min_,Builtin.min2]
  have e:(if j<i then j else i)=min i j:=by split<;>omega
  rw [e]
theorem VZ (w:World) {ty et:TypeId} {g off dLen dCap:Nat} {L:List Value} {s:Λ} (hblk:Blk w g et L) (hd:dLen≤s.length) (hfit:off+dLen≤L.length) :
    ∃ w',(Builtin.copy_ #[22,9] ty #[.slice (some ⟨g,off,none⟩) dLen dCap,Am s]).run prog w=.ok (goInt dLen) w'∧Blk w' g et (splice L off ((s.take dLen).map Ad))∧w.grownBy w' (some g):=by
  have hu:=υ22
  have hs:(prog.info? 5).map (·.size)=some 1:=κ
  have hlen:((s.take dLen).map Ad).length=dLen:=by rw [List.length_map,List.length_take];omega
  have hst:=run_storeCells_at prog g off et ((s.take dLen).map Ad) 0 L.toArray w hblk (by rw [hlen];simpa using hfit) (CN _)
  have hmin:Nat.min s.length dLen=dLen:=Nat.min_eq_right hd
  have htk:List.take dLen (List.map (fun b:UInt8=>Value.int IntKind.u8 (b.toNat:Int)) s)=(s.take dLen).map Ad:=by rw [List.map_take];rfl
  rw [hlen] at hst
  simp only [Nat.add_zero] at hst
  refine ⟨w.setRow g (L.take off++(s.take dLen).map Ad++L.drop (off+dLen)).toArray,?_,?_,Jd w g _⟩
  rotate_left
  · unfold Blk
    rw [setRow_heap w g _ _ et _ hblk]
    generalize (s.take dLen).map Ad=cs at hlen
    simp [splice,hlen]
  · cases hq:prog.info? 5 with
    | none=>simp [hq] at hs
    | some i=>
      simp [Builtin.copy_,run_underlying hu,Builtin.lenOf,Builtin.firstCells,sizeOf,typeInfo,hq,Am,CJ,GS,hmin]
      rw [htk,hst]
      simp [Result.andThen]
theorem Qp (at_:Int) (b:Λ) (P:List PtM) (p:PtM):ovl at_ b (P++[p])=Jm at_ (ovl at_ b P) p:=by unfold ovl;rw [List.foldl_append];rfl
theorem Qq {at_:Int} {b:Λ} {P:List PtM} {k:Nat} (hk:k<P.length):ovl at_ b (P.take (k+1))=Jm at_ (ovl at_ b (P.take k)) P[k]:=by rw [← List.take_append_getElem hk,Qp]
end
section
theorem Ri {α:Type} (L x:List α) (lo n:Nat) (h:lo+x.length≤n) (hn:n≤L.length):(splice L lo x).take n=splice (L.take n) lo x:=by
  unfold splice
  have e1:(L.take lo).length=lo:=by rw [List.length_take];omega
  (try rw [List.append_assoc]);(try rw [List.append_assoc])
  rw [List.take_append,e1,List.take_append,List.take_of_length_le (l:=x) ω,List.take_take,List.take_take,List.drop_take,show min n lo=lo by omega,show min lo n=lo by omega,show n-lo-x.length=n-(lo+x.length) by omega]
theorem VF {w:World} {B:Nat} {a:Ω} {c:Nat} {b:Λ} (o:CF w B a c b) (lo hi:Nat) (h1:lo<hi) (h2:hi≤b.length) :
    ∃ g,a=some ⟨g,0,none⟩∧B≤g ∧
      (∀ W,(Instr.sliceAt 22 (.slice a b.length c) (some (ν (lo:Int))) (some (ν (hi:Int))) none).run prog W=.ok (.slice (some ⟨g,lo,none⟩) (hi-lo) (c-lo)) W) ∧
      (∀ (W:World) (s:Λ) (ty:TypeId),CF W B a c b→hi-lo≤s.length→∃ w',(Builtin.copy_ #[22,9] ty #[.slice (some ⟨g,lo,none⟩) (hi-lo) (c-lo),Am s]).run prog W=.ok (goInt (hi-lo:Nat)) w'∧CF w' B a c (splice b lo (s.take (hi-lo)))∧W.grownBy w' (some g)):=by
  have r:=o.row
  have hc:=r.2.1
  obtain ⟨q1,q2⟩:=o
  rcases q2 with ⟨q3,q4⟩ | ⟨g,cap,cur,q3,q4,q5,q6,q7,q8,q9⟩
  · omega
  have e1:a=some ⟨g,0,none⟩:=by cases q3;rfl
  have e2:cap=c:=by cases q3;rfl
  subst e1;subst e2
  refine ⟨g,rfl,q4,fun W=>?_,fun W s ty oW hs=>?_⟩
  · rw [run_sliceAt_slice W _ _ _ _ _ unB,run_slice_lh W _ _ _ _ unB _ _ _ _ ω ω ω,elB,szB]
    show Result.ok (sliced _ _ _ _ _) W=_
    rw [Int.toNat_natCast,Int.toNat_natCast]
    unfold sliced
    rw [if_neg ω]
    simp [Addr.add]
    omega
  · obtain ⟨p1,p2⟩:=oW
    rcases p2 with ⟨p3,p4⟩ | ⟨g2,cap2,cur2,p3,p4,p5,p6,p7,p8,p9⟩
    · omega
    have e1:g2=g:=by cases p3;rfl
    have e2:cap2=cap:=by cases p3;rfl
    subst e1;subst e2
    have hb:Blk W g2 5 cur2.toList:=by unfold Blk;rw [p5]
    have hsz:cur2.toList.length=cap2:=by rw [Array.length_toList,p8,Nat.mul_one]
    obtain ⟨w',r1,r2,r3⟩:=VZ W (ty:=ty) (dCap:=cap2-lo) hb hs (by rw [hsz];omega:lo+(hi-lo)≤_)
    have hl:(s.take (hi-lo)).length=hi-lo:=by rw [List.length_take];omega
    have hsl:(splice b lo (s.take (hi-lo))).length=b.length:=length_splice _ _ _ (by rw [hl];omega)
    refine ⟨w',r1,?_,r3⟩
    unfold CF
    rw [hsl]
    refine ⟨by rw [List.length_map,hsl,Nat.mul_one],.inr ⟨g2,cap2,(splice cur2.toList lo ((s.take (hi-lo)).map Ad)).toArray,rfl,p4,r2,p6,p7,?_,?_⟩⟩
    · rw [List.size_toArray,length_splice _ _ _ (by rw [List.length_map,hl,hsz];omega),hsz,Nat.mul_one]
    · rw [Nat.mul_one] at p9 ⊢
      rw [IC,← p9]
      exact Ri _ _ _ _ (by rw [List.length_map,hl];omega) ω
end
section
theorem Ab4 (x y:Operand) (i j k:Int) (hk:i+j=k) (h1:-9223372036854775808≤k) (h2:k≤9223372036854775807) (w:World):(do eqGuard .add 3 x y (ν i) (ν j);binOp .add 3 (ν i) (ν j):Sem Value).run prog w=.ok (ν k) w:=by
  have u3:=υ3
  have a3:=Tryz.isAgg3
  have z3:=Tryz.sizeOf3
  subst hk
  have e1:IntKind.i64.wrap (i+j)=i+j:=IntWalk.i64_in _ ω
  go_simp
theorem SD {w:World} {B:Nat} {e:TypeId} {sz:Nat} {a:Ω} {n c:Nat} {cs:List Value} (h:Own w B e sz a n c cs):(Value.slice a n c).ownBlock≠some w.heap.size:=by
  intro e
  have z:=(World.ownsRow.lt h _ e).2
  omega
theorem SX {o:Oper} {x y:Operand} {t t2:TypeId} (ho:o.op=.call { callee:=.builtin .copy,args:=#[x,y],argTypes:=#[t,t2] }) {ρ:Operand→Value} {u v r:Value} (hx:ρ x=u) (hy:ρ y=v) {w w':World} (h:(Builtin.copy_ #[t,t2] o.type #[u,v]).run prog w=.ok r w'):(execOp ρ o).run prog w=.ok (.value r) w':=by
  unfold execOp;rw [ho]
  simp [resolve,invoke,builtin,hx,hy,h,Result.andThen]
theorem Aaj {w:World} {g v d p:Nat} {M:MemM} (h:MemP w g v d p M) (at_ n:Int) (ha:ER at_) (hn:ER n) (hi:inM M at_ n=false) :
    Calls prog 13 #[π g,ν at_,ν n] w fun e w'=>e=.returned (.tuple #[.slice none 0 0,ν 1])∧w=w':=by
  refine (Hf h at_ n ha hn).mono fun e w' q=>?_
  unfold GO at q
  rw [hi] at q
  exact q
theorem XW {w:World} {g v d p:Nat} {M:MemM} (h:MemP w g v d p M) (at_ n:Int) (ha:ER at_) (hn:ER n) (hi:inM M at_ n=true) {b0:Λ} (hb0:(M.V.drop at_.toNat).take n.toNat=b0) (hbl:(b0.length:Int)=n) :
    Calls prog 13 #[π g,ν at_,ν n] w fun e w'=>∃ a c,e=.returned (.tuple #[.slice a b0.length c,ν 0])∧CF w' w.heap.size a c b0∧Below w.heap.size w w':=by
  refine (Hf h at_ n ha hn).mono fun e w' q=>?_
  unfold GO at q
  rw [if_pos hi,hb0,show n.toNat=b0.length by omega] at q
  exact q
theorem Pv (args:Array Value) (w:World):(callFunc 13 args).run prog w=.ok (.enter 13 args) w:=by
  have h:=func13
  go_simp
theorem Iy (g:Nat) (w:World):(Instr.fieldAt 141 (π g) 0).run prog w=.ok (π g) w:=rfl
theorem LC (g:Nat) (w:World):(Instr.fieldAt 141 (π g) 1).run prog w=.ok (.pointer (some ⟨g,1,none⟩)) w:=rfl
theorem XT {w:World} {tg g lg v d p0 tc:Nat} {ta:Ω} {M:MemM} {P:List PtM} (hm:MemP w g v d p0 M) (hb:Blk w tg 105 (txC g lg ta P.length tc)) (hr:EN w ta tc P) (hok:TxOk M P) (hM:M.V.length≤1048576) (at_ n:Int) (ha:ER at_) (hn:ER n) (hi:inM M at_ n=false):Calls prog 71 #[π tg,ν at_,ν n] w fun e w'=>e=.returned (.tuple #[.slice none 0 0,ν 1])∧w=w':=by
  have HM:=hid hm;have HB0:=hid hb
  clear hm hb hr
  go_enter func71,ntmps71
  iterate 3 go_step
  refine Bk (N:=71) (l:=[(0,π tg),(1,ν at_),(2,ν n)]) ⟨rfl,(by intro x hx;simp only [List.mem_cons,List.not_mem_nil,or_false] at hx;rcases hx with rfl | rfl | rfl<;>rfl),rfl⟩ fun a2 h1=>mv h1 rfl fun _ h3=>mv h3 rfl fun _ h5=>?_
  iterate 5 go_step
  refine mv h5 rfl fun _ h7=>mv h7 rfl fun a1 h9=>fav h9 rfl (u:=π tg) (fun _=>Iz (tg) _) fun a3 h2=>sw1 h2 rfl (v:=π g) (rld h2 rfl rfl (He (HB0.out.cell (i:=0) (by show 0<3;omega)))) fun a4 h4=>mv h4 rfl fun _ h6=>mv h6 rfl fun _ h8=>BI h8 (wn rfl) rfl (by decide) (fr rfl) (fun args=>Pv args _) rfl #[π g,ν at_,ν n] (by simp only [List.map_toArray,List.map_cons,List.map_nil,h8.ev 18 rfl,h8.ev 19 rfl,h8.ev 20 rfl]) (R:=fun v' w'=>v'=.tuple #[.slice none 0 0,ν 1]∧w=w') ((Aaj HM.out at_ n ha hn hi).mono fun e w' q=>⟨_,q.1,rfl,q.2⟩) fun a5 v1 w1 r1 h10=>?_
  obtain ⟨rfl,rfl⟩:=r1
  refine mv h10 rfl fun _ h11=>mv h11 rfl fun a6 h12=>mv h12 rfl fun a7 h13=>mv h13 rfl fun _ h14=>mv h14 rfl fun _ h15=>h15.sk [9,8,7,6,0,1,2] rfl fun h16=>?_
  iterate 6 go_step
  refine mv h16 rfl fun _ h17=>wv h17 rfl rfl rfl rfl (.bool true) (by unfold execOp;simp only [h17.ev 24 rfl];exact Af (Qi _ _ _ _ _ (by rfl))) fun a8 h18=>h18.sk [25,9,8,7,6,0,1,2] rfl fun h19=>?_
  iterate 3 go_step
  refine wp_cond (t:=true) (h19.ev 25 rfl) ?_
  simp only [if_true]
  refine h19.sk [9,8,7,6,0,1,2] rfl fun h20=>?_
  iterate 2 go_step
  refine mv h20 rfl fun _ h21=>h21.sk [26,9,8,7,0,1,2] rfl fun h22=>mv h22 rfl fun _ h23=>h23.sk [6,26,9,8,0,1,2] rfl fun h24=>mv h24 rfl fun _ h25=>h25.sk [7,6,9,8,0,1,2] rfl fun h26=>?_
  iterate 4 go_step
  simp only [Exit.then,Exit.inBlock]
  exact bodyPost_ret (results_tmp2 rfl (h26.known (6,.slice none 0 0) (by simp)) (h26.known (7,ν 1) (by simp))) h26.defs ⟨rfl,rfl⟩
theorem Vq {w:World} {tg g lg v d p0 tc:Nat} {ta:Ω} {M:MemM} {P:List PtM} (hm:MemP w g v d p0 M) (hb:Blk w tg 105 (txC g lg ta P.length tc)) (hr:EN w ta tc P) (hok:TxOk M P) (hM:M.V.length≤1048576) (at_ n:Int) (ha:ER at_) (hn:ER n) (hi:inM M at_ n=true) {b0:Λ} (hb0:(M.V.drop at_.toNat).take n.toNat=b0) (hbl:(b0.length:Int)=n):Calls prog 71 #[π tg,ν at_,ν n] w fun e w'=>∃ ba bc,e=.returned (.tuple #[.slice ba b0.length bc,ν 0])∧CF w' w.heap.size ba bc (ovl at_ b0 P)∧Below w.heap.size w w':=by
  have HM:=hid hm;have HB0:=hid hb;have HR:=hid hr
  have hsz:=hok.n
  have hin:=of_decide_eq_true hi
  clear hm hb hr
  go_enter func71,ntmps71
  iterate 3 go_step
  refine Bk (N:=71) (l:=[(0,π tg),(1,ν at_),(2,ν n)]) ⟨rfl,(by intro x hx;simp only [List.mem_cons,List.not_mem_nil,or_false] at hx;rcases hx with rfl | rfl | rfl<;>rfl),rfl⟩ fun a2 h1=>mv h1 rfl fun _ h3=>mv h3 rfl fun _ h5=>?_
  iterate 5 go_step
  refine mv h5 rfl fun _ h7=>mv h7 rfl fun a1 h9=>fav h9 rfl (u:=π tg) (fun _=>Iz (tg) _) fun a3 h2=>sw1 h2 rfl (v:=π g) (rld h2 rfl rfl (He (HB0.out.cell (i:=0) (by show 0<3;omega)))) fun a4 h4=>mv h4 rfl fun _ h6=>mv h6 rfl fun _ h8=>BI h8 (wn rfl) rfl (by decide) (fr rfl) (fun args=>Pv args _) rfl #[π g,ν at_,ν n] (by simp only [List.map_toArray,List.map_cons,List.map_nil,h8.ev 18 rfl,h8.ev 19 rfl,h8.ev 20 rfl]) (R:=fun v' w'=>∃ ba bc,v'=.tuple #[.slice ba b0.length bc,ν 0]∧CF w' w.heap.size ba bc b0∧Below w.heap.size w w') ((XW HM.out at_ n ha hn hi hb0 hbl).mono fun e w' q=>by obtain ⟨x,y,q1,q2,q3⟩:=q;exact ⟨_,q1,x,y,rfl,q2,q3⟩) fun a5 v1 w1 r1 h10=>?_
  obtain ⟨ba,bc,rfl,o1,b1⟩:=r1
  have HO0:=hid o1;have HB1:=hid (HB0.out.mono b1);have HW0:=hid b1;clear o1 b1
  refine mv h10 rfl fun _ h11=>mv h11 rfl fun a6 h12=>mv h12 rfl fun a7 h13=>mv h13 rfl fun _ h14=>mv h14 rfl fun _ h15=>h15.sk [9,8,7,6,0,1,2] rfl fun h16=>?_
  iterate 6 go_step
  refine mv h16 rfl fun _ h17=>wv h17 rfl rfl rfl rfl (.bool false) (by unfold execOp;simp only [h17.ev 24 rfl];exact Af (Qi _ _ _ _ _ (by rfl))) fun a8 h18=>h18.sk [25,9,8,7,6,0,1,2] rfl fun h19=>?_
  iterate 3 go_step
  refine wp_cond (t:=false) (h19.ev 25 rfl) ?_
  simp only [Bool.false_eq_true,if_false]
  refine h19.sk [9,8,7,6,0,1,2] rfl fun h20=>?_
  iterate 6 go_step
  refine mv h20 rfl fun _ h21=>mv h21 rfl fun a9 h22=>fav h22 rfl (u:=.pointer (some ⟨tg,2,none⟩)) (fun _=>Cl (tg) _) fun a10 h23=>sw1 h23 rfl (v:=.slice ta P.length tc) (rld h23 rfl rfl (Dk (HB1.out.cell (i:=2) (by show 2<3;omega)))) fun a11 h24=>wv h24 rfl rfl rfl rfl (ν (P.length:Int)) (Fq rfl (h24.ev 30 rfl) _) fun a12 h25=>mv h25 rfl fun _ h26=>h26.sk [32,31,30,9,8,7,6,0,1,2] rfl fun h27=>?_
  iterate 4 go_step
  refine h27.sk [8,32,31,30,9,7,6,0,1,2] rfl fun h28=>?_
  refine wp_loop (I:=fun a' w'=>∃ (j:Nat) (eb:Λ),j≤P.length∧Kn 71 [(8,.slice ba b0.length bc),(32,ν (j:Int)),(31,ν (P.length:Int)),(30,.slice ta P.length tc),(9,ν 0),(7,ν 0),(6,.slice none 0 0),(0,π tg),(1,ν at_),(2,ν n)] a'∧eb=ovl at_ b0 (P.take j)∧CF w' w.heap.size ba bc eb∧Below w.heap.size w w') (μ:=fun a' _=>P.length-(intOf (a'.eval (.tmp 32))).toNat) ⟨0,b0,Nat.zero_le _,h28,rfl,HO0.out,HW0.out⟩ ?_
  clear HO0 HW0 HB1 h28
  rintro aL aw ⟨j,eb,hj,hK,heb,ho,hb⟩
  have hel:eb.length=b0.length:=by rw [heb,Fz]
  have HO:=hid ho;have HB:=hid hb;have HEB:=hid heb;clear ho hb heb
  by_cases hlt:j<P.length
  · have hd0:decide ((j:Int)<(P.length:Int))=true:=decide_eq_true ω
    obtain ⟨pb,poff,ha0,hrg⟩:=QM (HR.out.mono HB.out) ω
    have hrg:=hrg j hlt;have hsp:=hok.i P[j] (List.getElem_mem hlt);obtain ⟨p,hp⟩:∃ p,p=P[j]:=⟨_,rfl⟩;rw [← hp] at hrg hsp;have HPJ:=hid hp;clear hp;obtain ⟨hp1,hp2,hp3⟩:=hsp
    iterate 3 go_step
    refine wv hK rfl rfl rfl rfl (.bool true) (by unfold execOp;simp only [hK.ev 32 rfl,hK.ev 31 rfl];exact Af (KO _ _ _ _ _ hd0)) fun a13 h29=>?_
    iterate 4 go_step
    refine wp_cond (t:=true) (h29.ev 33 rfl) ?_
    simp only [if_true]
    refine h29.sk [8,32,31,30,9,7,6,0,1,2] rfl fun h30=>?_
    iterate 7 go_step
    refine wv h30 rfl rfl rfl rfl (.pointer (some ⟨pb,poff+j*2,none⟩)) (by unfold execOp;simp only [h30.ev 30 rfl,h30.ev 32 rfl];exact Af (by rw [ha0];exact ixP pb poff _ tc j hlt _)) fun a14 h31=>sw1 h31 rfl (v:=ptV p) (rld h31 rfl rfl (run_loadAt_mid _ _ _ _ (ptC p) _ hrg υ141 rfl (by rw [IB];rfl))) fun a15 h32=>wv h32 rfl rfl rfl rfl (π aw.heap.size) (Hn rfl _ aw) fun a16 h33=>?_
    obtain ⟨wp,hwp⟩:∃ x,x=aw.alloc (.cells (ptC ⟨0,[]⟩).toArray 141):=⟨_,rfl⟩
    obtain ⟨gp,hgp⟩:∃ x,x=aw.heap.size:=⟨_,rfl⟩
    have hk0:Blk wp gp 141 (ptC ⟨0,[]⟩):=by rw [hwp,hgp];exact AN rfl _ _
    have HOp:Hid (CF wp w.heap.size ba bc eb):=hid (by rw [hwp];exact Own.alloc HO.out _)
    have HBp:Hid (Below w.heap.size w wp):=hid (by rw [hwp];exact Gu HB.out _)
    have hgw:w.heap.size≤gp:=by rw [hgp];exact HB.out.size
    have hapart:(Value.slice ba eb.length bc).ownBlock≠some gp:=by rw [hgp];exact SD HO.out
    rw [← hgp] at h33;rw [← hwp];clear hwp hgp
    refine MU h33 rfl rfl rfl gp 0 (h33.ev 11 rfl) (ptC p) (h33.ev 35 rfl) (by rw [IB];rfl) (Jp _) hk0 (by show 0+2≤2;omega) fun a17 wq h34 kq gq=>?_
    rw [Dw (by rfl)] at kq
    have HP:=hid kq;have HOq:Hid (CF wq w.heap.size ba bc eb):=hid (SF HOp.out hk0 (by decide) (Turns.of_grown gq rfl));have HBq:Hid (Below w.heap.size w wq):=hid (AS HBp.out gq hgw HBp.out.size)
    clear kq gq hk0 HOp HBp
    refine h34.sk [11,8,32,31,30,9,7,6,0,1,2] rfl fun h35=>?_
    iterate 4 go_step
    have HPd:=hid (HP.out.mono (Below.refl _ _).drew);have HOd:Hid (CF wq.drew w.heap.size ba bc eb):=hid (Own.mono HOq.out (Below.refl _ _).drew);have HBd:=hid HBq.out.drew
    obtain ⟨fq,hfr⟩:∃ x,x=max at_ p.at_:=⟨_,rfl⟩
    obtain ⟨to,hto⟩:∃ x,x=min (at_+n) (p.at_+(p.d.length:Int)):=⟨_,rfl⟩
    refine wp_region_held_drew (S:=fun w'=>Blk w' gp 141 (ptC p)) κ HPd.out (fun hS1=>?_)
    refine tkm hS1 h35 0 1 rfl rfl rfl rfl κ (fun _ _ _ _ h=>h) rfl (fun _=>rfl) rfl fun a18 h36=>tkf hS1 h36 1 11 rfl rfl rfl rfl κ (fun _ _ _ _ h=>h) rfl rfl rfl (fun w=>Iy _ w) fun a19 h37=>tkl hS1 h37 2 37 rfl rfl rfl rfl κ (fun _ _ _ _ h=>h) rfl rfl rfl (fun _ hSw=>(Cy (hSw.cell (i:=0) (by show 0<2;omega)))) fun a20 h38=>tv1 hS1 h38 3 rfl rfl (v:=ν fq) (fun w1 hSw=>(by show (execOp _ (⟨_,.call { callee:=.builtin .max,args:=#[(.tmp 36),(.tmp 38)],argTypes:=#[3,3] },_,_,_,_⟩:Oper)).run _ _=_;exact (by rw [hfr];exact YN rfl (h38.ev 36 rfl) (h38.ev 38 rfl) _))) fun a21 h39=>tkm hS1 h39 4 1 rfl rfl rfl rfl κ (fun _ _ _ _ h=>h) rfl (fun _=>rfl) rfl fun a22 h40=>tkm hS1 h40 5 2 rfl rfl rfl rfl κ (fun _ _ _ _ h=>h) rfl (fun _=>rfl) rfl fun a23 h41=>tv1 hS1 h41 6 rfl rfl (v:=ν (at_+n)) (fun w1 hSw=>(by show (execOp _ (⟨_,.binOp .add 3 (.tmp 40) (.tmp 41) 3,_,_,_,_⟩:Oper)).run _ _=_;exact (by unfold execOp;simp only [h41.ev 40 rfl,h41.ev 41 rfl];exact Af (Ab4 _ _ _ _ _ rfl ω ω _)))) fun a24 h42=>tkf hS1 h42 7 11 rfl rfl rfl rfl κ (fun _ _ _ _ h=>h) rfl rfl rfl (fun w=>Iy _ w) fun a25 h43=>tkl hS1 h43 8 43 rfl rfl rfl rfl κ (fun _ _ _ _ h=>h) rfl rfl rfl (fun _ hSw=>(Cy (hSw.cell (i:=0) (by show 0<2;omega)))) fun a26 h44=>tkf hS1 h44 9 11 rfl rfl rfl rfl κ (fun _ _ _ _ h=>h) rfl rfl rfl (fun w=>LC _ w) fun a27 h45=>?_
    refine tkl hS1 h45 10 45 rfl rfl rfl rfl κ (fun _ _ _ _ h=>h) rfl rfl rfl (fun _ hSw=>(LP (hSw.cell (i:=1) (by show 1<2;omega)))) fun a28 h46=>tv1 hS1 h46 11 rfl rfl (v:=ν (p.d.length:Int)) (fun w1 hSw=>(by show (execOp _ (⟨_,.call { callee:=.builtin .len,args:=#[(.tmp 46)],argTypes:=#[9] },_,_,_,_⟩:Oper)).run _ _=_;exact (Cq rfl (h46.ev 46 rfl) _))) fun a29 h47=>tv1 hS1 h47 12 rfl rfl (v:=ν (p.at_+(p.d.length:Int))) (fun w1 hSw=>(by show (execOp _ (⟨_,.binOp .add 3 (.tmp 44) (.tmp 47) 3,_,_,_,_⟩:Oper)).run _ _=_;exact (by unfold execOp;simp only [h47.ev 44 rfl,h47.ev 47 rfl];exact Af (Ab4 _ _ _ _ _ rfl ω ω _)))) fun a30 h48=>tv1 hS1 h48 13 rfl rfl (v:=ν to) (fun w1 hSw=>(by show (execOp _ (⟨_,.call { callee:=.builtin .min,args:=#[(.tmp 42),(.tmp 48)],argTypes:=#[3,3] },_,_,_,_⟩:Oper)).run _ _=_;exact (by rw [hto];exact YO rfl (h48.ev 42 rfl) (h48.ev 48 rfl) _))) fun a31 h49=>tkm hS1 h49 14 39 rfl rfl rfl rfl κ (fun _ _ _ _ h=>h) rfl (fun _=>rfl) rfl fun a32 h50=>tkm hS1 h50 15 49 rfl rfl rfl rfl κ (fun _ _ _ _ h=>h) rfl (fun _=>rfl) rfl fun a33 h51=>?_
    refine wpAnyH_done κ ?_ _
    refine h51.sk [13,12,11,8,32,31,30,9,7,6,0,1,2] rfl fun h52=>?_
    iterate 2 go_step
    by_cases hcc:fq<to
    · have hc0:decide (fq<to)=true:=decide_eq_true ω
      iterate 2 go_step
      refine mv h52 rfl fun _ h53=>mv h53 rfl fun _ h54=>wv h54 rfl rfl rfl rfl (.bool true) (by unfold execOp;simp only [h54.ev 50 rfl,h54.ev 51 rfl];exact Af (KO _ _ _ _ _ hc0)) fun a34 h55=>h55.sk [52,13,12,11,8,32,31,30,9,7,6,0,1,2] rfl fun h56=>?_
      iterate 3 go_step
      refine wp_cond (t:=true) (h56.ev 52 rfl) ?_
      simp only [if_true]
      refine h56.sk [13,12,11,8,32,31,30,9,7,6,0,1,2] rfl fun h57=>?_
      obtain ⟨lo,hlo⟩:∃ x:Nat,fq-at_=(x:Int):=⟨(fq-at_).toNat,ω⟩
      obtain ⟨hi2,hhi⟩:∃ x:Nat,to-at_=(x:Int):=⟨(to-at_).toNat,ω⟩
      obtain ⟨sk,hsk⟩:∃ x:Nat,fq-p.at_=(x:Int):=⟨(fq-p.at_).toNat,ω⟩
      have HPe:=hid (HPd.out.mono (Below.refl _ _).drew);have HOe:Hid (CF wq.drew.drew w.heap.size ba bc eb):=hid (Own.mono HOd.out (Below.refl _ _).drew);have HBe:=hid HBd.out.drew
      obtain ⟨bg,hbg,hgB,hsl,hcp⟩:=VF HOe.out lo hi2 ω ω
      have hne:gp≠bg:=by intro e;apply hapart;rw [hbg,e];rfl
      obtain ⟨wc,r1,r2,r3⟩:=hcp wq.drew.drew (p.d.drop sk) 3 HOe.out (by rw [List.length_drop];omega)
      have HPc:=hid (HPe.out.grownS r3 hne);have HOc:=hid r2;have HBc:Hid (Below w.heap.size w wc):=hid (AS HBe.out r3 hgB HBe.out.size);rw [hel] at hsl
      refine wp_region_held_drew (S:=fun w'=>Blk w' gp 141 (ptC p)) κ HPe.out (fun hS2=>?_)
      refine tkm hS2 h57 0 8 rfl rfl rfl rfl κ (fun _ _ _ _ h=>h) rfl (fun _=>rfl) rfl fun a35 h58=>tkm hS2 h58 1 12 rfl rfl rfl rfl κ (fun _ _ _ _ h=>h) rfl (fun _=>rfl) rfl fun a36 h59=>tkm hS2 h59 2 1 rfl rfl rfl rfl κ (fun _ _ _ _ h=>h) rfl (fun _=>rfl) rfl fun a37 h60=>tv1 hS2 h60 3 rfl rfl (v:=ν (lo:Int)) (fun w1 hSw=>(by show (execOp _ (⟨_,.binOp .sub 3 (.tmp 54) (.tmp 55) 3,_,_,_,_⟩:Oper)).run _ _=_;exact (by unfold execOp;simp only [h60.ev 54 rfl,h60.ev 55 rfl];exact Af (FH _ _ _ _ _ hlo ω ω _)))) fun a38 h61=>tkm hS2 h61 4 13 rfl rfl rfl rfl κ (fun _ _ _ _ h=>h) rfl (fun _=>rfl) rfl fun a39 h62=>tkm hS2 h62 5 1 rfl rfl rfl rfl κ (fun _ _ _ _ h=>h) rfl (fun _=>rfl) rfl fun a40 h63=>tv1 hS2 h63 6 rfl rfl (v:=ν (hi2:Int)) (fun w1 hSw=>(by show (execOp _ (⟨_,.binOp .sub 3 (.tmp 57) (.tmp 58) 3,_,_,_,_⟩:Oper)).run _ _=_;exact (by unfold execOp;simp only [h63.ev 57 rfl,h63.ev 58 rfl];exact Af (FH _ _ _ _ _ hhi ω ω _)))) fun a41 h64=>tv1 hS2 h64 7 rfl rfl (v:=.slice (some ⟨bg,lo,none⟩) (hi2-lo) (bc-lo)) (fun w1 hSw=>(by show (execOp _ (⟨_,.slice 22 (.tmp 53) (some (.tmp 56)) (some (.tmp 59)) none,_,_,_,_⟩:Oper)).run _ _=_;exact (by unfold execOp;simp only [Option.map_some,Option.map_none,h64.ev 53 rfl,h64.ev 56 rfl,h64.ev 59 rfl];exact Af (hsl _)))) fun a42 h65=>tkf hS2 h65 8 11 rfl rfl rfl rfl κ (fun _ _ _ _ h=>h) rfl rfl rfl (fun w=>LC _ w) fun a43 h66=>tkl hS2 h66 9 61 rfl rfl rfl rfl κ (fun _ _ _ _ h=>h) rfl rfl rfl (fun _ hSw=>(LP (hSw.cell (i:=1) (by show 1<2;omega)))) fun a44 h67=>?_
      refine tkm hS2 h67 10 12 rfl rfl rfl rfl κ (fun _ _ _ _ h=>h) rfl (fun _=>rfl) rfl fun a45 h68=>tkf hS2 h68 11 11 rfl rfl rfl rfl κ (fun _ _ _ _ h=>h) rfl rfl rfl (fun w=>Iy _ w) fun a46 h69=>tkl hS2 h69 12 64 rfl rfl rfl rfl κ (fun _ _ _ _ h=>h) rfl rfl rfl (fun _ hSw=>(Cy (hSw.cell (i:=0) (by show 0<2;omega)))) fun a47 h70=>tv1 hS2 h70 13 rfl rfl (v:=ν (sk:Int)) (fun w1 hSw=>(by show (execOp _ (⟨_,.binOp .sub 3 (.tmp 63) (.tmp 65) 3,_,_,_,_⟩:Oper)).run _ _=_;exact (by unfold execOp;simp only [h70.ev 63 rfl,h70.ev 65 rfl];exact Af (FH _ _ _ _ _ hsk ω ω _)))) fun a48 h71=>tv1 hS2 h71 14 rfl rfl (v:=Am (p.d.drop sk)) (fun w1 hSw=>(by show (execOp _ (⟨_,.slice 9 (.tmp 62) (some (.tmp 66)) none none,_,_,_,_⟩:Oper)).run _ _=_;exact (by unfold execOp;simp only [Option.map_some,Option.map_none,h71.ev 62 rfl,h71.ev 66 rfl];exact Af (Af1 p.d sk ω _)))) fun a49 h72=>AF 15 rfl rfl κ fun KK hK=>Di (w':=wc) h72 rfl (by decide) (fr rfl) (goInt (hi2-lo:Nat)) (by show (execOp _ (⟨_,.call { callee:=.builtin .copy,args:=#[(.tmp 60),(.tmp 67)],argTypes:=#[22,9] },_,_,_,_⟩:Oper)).run _ _=_;exact (SX rfl (h72.ev 60 rfl) (h72.ev 67 rfl) r1)) fun a50 h73=>hK _ _ (HPc.out) fun hS3=>?_
      clear hK KK
      refine wpAnyH_done κ ?_ _
      refine h73.sk [13,12,11,8,32,31,30,9,7,6,0,1,2] rfl fun h74=>?_
      iterate 3 go_step
      refine bv h74 rfl (z:=ν ((j+1:Nat):Int)) (Nh _ _ j ω) fun a51 h75=>h75.sk [69,13,12,11,8,31,30,9,7,6,0,1,2] rfl fun h76=>mv h76 rfl fun _ h77=>h77.sk [32,13,12,11,8,31,30,9,7,6,0,1,2] rfl fun h78=>?_
      iterate 2 go_step
      refine ⟨⟨j+1,Jm at_ eb p,ω,by exact h78.subs rfl,?_,?_,HBc.out⟩,?_⟩
      · rw [Qq hlt,← HEB.out,← HPJ.out]
      · rw [← Yr (fr:=fq) (to:=to) hfr (by rw [hto,hel,hbl]) hcc,hlo,hsk,Int.toNat_natCast,Int.toNat_natCast,show (to-fq).toNat=hi2-lo by omega];exact HOc.out
      · rw [h78.ev 32 rfl,hK.ev 32 rfl];simp [intOf];omega
    · have hc0:decide (fq<to)=false:=decide_eq_false ω
      iterate 2 go_step
      refine mv h52 rfl fun _ h79=>mv h79 rfl fun _ h80=>wv h80 rfl rfl rfl rfl (.bool false) (by unfold execOp;simp only [h80.ev 50 rfl,h80.ev 51 rfl];exact Af (KO _ _ _ _ _ hc0)) fun a52 h81=>h81.sk [52,13,12,11,8,32,31,30,9,7,6,0,1,2] rfl fun h82=>?_
      iterate 3 go_step
      refine wp_cond (t:=false) (h82.ev 52 rfl) ?_
      simp only [Bool.false_eq_true,if_false]
      refine h82.sk [13,12,11,8,32,31,30,9,7,6,0,1,2] rfl fun h83=>?_
      iterate 4 go_step
      refine bv h83 rfl (z:=ν ((j+1:Nat):Int)) (Nh _ _ j ω) fun a53 h84=>h84.sk [69,13,12,11,8,31,30,9,7,6,0,1,2] rfl fun h85=>mv h85 rfl fun _ h86=>h86.sk [32,13,12,11,8,31,30,9,7,6,0,1,2] rfl fun h87=>?_
      iterate 2 go_step
      refine ⟨⟨j+1,Jm at_ eb p,ω,by exact h87.subs rfl,?_,?_,HBd.out⟩,?_⟩
      · rw [Qq hlt,← HEB.out,← HPJ.out]
      · rw [Ys (fr:=fq) (to:=to) hfr (by rw [hto,hel,hbl]) hcc];exact HOd.out
      · rw [h87.ev 32 rfl,hK.ev 32 rfl];simp [intOf];omega
  · have hd0:decide ((j:Int)<(P.length:Int))=false:=decide_eq_false ω
    obtain rfl:j=P.length:=ω
    iterate 3 go_step
    refine wv hK rfl rfl rfl rfl (.bool false) (by unfold execOp;simp only [hK.ev 32 rfl,hK.ev 31 rfl];exact Af (KO _ _ _ _ _ hd0)) fun a54 h88=>?_
    iterate 4 go_step
    refine wp_cond (t:=false) (h88.ev 33 rfl) ?_
    simp only [Bool.false_eq_true,if_false]
    refine h88.sk [8,32,31,30,9,7,6,0,1,2] rfl fun h89=>?_
    iterate 7 go_step
    refine mv h89 rfl fun _ h90=>h90.sk [70,8,32,31,30,9,7,0,1,2] rfl fun h91=>mv h91 rfl fun _ h92=>h92.sk [6,70,8,32,31,30,9,0,1,2] rfl fun h93=>mv h93 rfl fun _ h94=>h94.sk [7,6,8,32,31,30,9,0,1,2] rfl fun h95=>?_
    iterate 4 go_step
    rw [List.take_length] at HEB
    exact bodyPost_ret (results_tmp2 rfl (h95.known (6,.slice ba b0.length bc) (by simp)) (h95.known (7,ν 0) (by simp))) h95.defs ⟨ba,bc,rfl,by have z:=HO.out;rw [HEB.out] at z;exact z,HB.out⟩
end
section
structure VolK where
  tg:Nat
  lg:Nat
  g:Nat
  v:Nat
  d:Nat
  p:Nat
def VolK.has (K:VolK) (b:Nat):Prop:=b=K.tg∨b=K.lg∨b=K.g∨b=K.v∨b=K.d∨b=K.p
structure VolP (w:World) (K:VolK) (ta:Ω) (tc:Nat) (M:MemM) (P:List PtM):Prop where
  l:LogP w K.lg K.g K.v K.d K.p 2688 4096 M
  b:Blk w K.tg 105 (txC K.g K.lg ta P.length tc)
  o:By w (K.tg+1) ta tc P
  k:TxOk M P
  m:M.V.length=23168
  lt:K.lg<K.tg∧K.g<K.tg∧K.v<K.tg∧K.d<K.tg∧K.p<K.tg
theorem VolP.ok {w:World} {K:VolK} {ta:Ω} {tc:Nat} {M:MemM} {P:List PtM} (h:VolP w K ta tc M P):LogOk 2688 4096 M:=⟨ω,ω,by have:=h.m;omega,by have:=h.m;omega⟩
def txP (K:VolK) (ta:Ω) (tc:Nat) (M:MemM) (P:List PtM):Ch where
  F b:=K.has b∨obA ta=some b
  P w:=VolP w K ta tc M P
  keep {w w'} h t:=by
    have hK:∀ b,K.has b→¬ ¬ (K.has b∨obA ta=some b):=fun b hb q=>q (.inl hb)
    refine ⟨Fj h.l t (hK _ (.inr (.inl rfl))) (hK _ (.inr (.inr (.inl rfl)))) (hK _ (.inr (.inr (.inr (.inl rfl))))) (hK _ (.inr (.inr (.inr (.inr (.inl rfl)))))) (hK _ (.inr (.inr (.inr (.inr (.inr rfl)))))),t.blk h.b (hK _ (.inl rfl)),?_,h.k,h.m,h.lt⟩
    exact (AG _ _ _ _ _ _ _).keep (w:=w) h.o (t.mono' fun b _ q r=>q (.inr (by rw [← Fb ta P.length tc];exact r)))
  lt {w} h b hb:=by
    obtain ⟨h1,h2,h3,h4,h5⟩:=h.l.lt
    rcases hb with hb | hb
    · rcases hb with e | e | e | e | e | e
      · rw [e];exact h.b.lt
      all_goals omega
    · exact (World.ownsRow.lt h.o b (by rw [Fb];exact hb)).2
abbrev Dj (M:MemM) (P:List PtM) (at_ n:Int):Λ:=ovl at_ ((M.V.drop at_.toNat).take n.toNat) P
theorem MB {M:MemM} {P:List PtM} {at_ n:Int} (hi:inM M at_ n=true):(Dj M P at_ n).length=n.toNat:=(Fz _ _ _).trans (Lq rfl hi)
section
variable {w:World} {R:List Ch} {K:VolK} {ta:Ω} {tc:Nat} {M:MemM} {P:List PtM}
theorem Sn (hS:Sep w (txP K ta tc M P::R)) {at_ n:Int} (hi:inM M at_ n=true) (ha:Ec at_) (hn:Ec n) :
    CallsR prog 71 #[pG K.tg,ν at_,ν n] w (fun x w'=>∃ a c,x=.tuple #[.slice a (Dj M P at_ n).length c,ν 0]∧Sep w' (AG 0 5 1 a (Dj M P at_ n).length c ((Dj M P at_ n).map Ad)::txP K ta tc M P::R)):=by
  have h:VolP w K ta tc M P:=hS.get 0 rfl
  have hm:=h.m
  have hb:(((M.V.drop at_.toNat).take n.toNat).length:Int)=n:=by
    rw [Lq (M:=M) rfl hi]
    unfold inM at hi;have:=of_decide_eq_true hi;omega
  refine Calls.mono (Vq h.l.m h.b h.o.row h.k ω at_ n ha hn hi rfl hb) fun e w' ⟨ba,bc,e1,o,b⟩=>⟨_,e1,ba,bc,by rw [Fz],?_⟩
  rw [Fz]
  exact hS.push b (c:=AG 0 5 1 ba _ bc _) (by have z:=Own.low o (Nat.zero_le _);rw [Fz] at z;exact z) fun k hk=>(World.ownsRow.lt o k (by rw [Fz];exact hk)).1
theorem XV (hS:Sep w (txP K ta tc M P::R)) {at_ n:Int} (hi:inM M at_ n=false) (ha:Ec at_) (hn:Ec n) :
    CallsR prog 71 #[pG K.tg,ν at_,ν n] w (fun x w'=>x=.tuple #[.slice none 0 0,ν 1]∧Sep w' (txP K ta tc M P::R)):=by
  have h:VolP w K ta tc M P:=hS.get 0 rfl
  have hm:=h.m
  exact Calls.mono (XT h.l.m h.b h.o.row h.k ω at_ n ha hn hi) fun e w' ⟨e1,e2⟩=>⟨_,e1,rfl,e2 ▸ hS⟩
theorem Pl (hS:Sep w (txP K ta tc M P::R)) {at_:Int} {a:Ω} {c:Nat} {xs:Λ} (hr:RowB w a c xs) (ha:Ec at_) (hx:xs.length≤1000000) :
    CallsR prog 69 #[pG K.tg,ν at_,.slice a xs.length c] w (fun x w'=>∃ ta' tc',x=ν (Ly M P at_ xs.length)∧Sep w' (txP K ta' tc' M (Kg M P at_ xs)::R)):=by
  have h:VolP w K ta tc M P:=hS.get 0 rfl
  have hm:=h.m
  have hlt:=h.lt
  refine Calls.mono (Ra h.l.m h.b h.o (B:=K.tg+1) (by have:=h.b.lt;omega) ω ω hr ha h.k.n ω) fun e w' ⟨e1,ta',tc',hb,ho,t,wh⟩=>⟨_,e1,ta',tc',rfl,?_⟩
  have hob:∀ b,obA ta=some b→K.tg+1≤b:=Yu h.o
  have nX:∀ k,k<K.tg→¬ (k=K.tg∨some k=obA ta):=fun k hk q=>q.elim (fun q=>ω) (fun q=>by have:=hob _ q.symm;omega)
  have hl:LogP w' K.lg K.g K.v K.d K.p 2688 4096 M:=Fj h.l t (nX _ hlt.1) (nX _ hlt.2.1) (nX _ hlt.2.2.1) (nX _ hlt.2.2.2.1) (nX _ hlt.2.2.2.2)
  refine hS.head t (fun k _ q=>?_) (c':=txP K ta' tc' M _) ⟨hl,hb,ho,h.k.put at_ xs,h.m,h.lt⟩ fun k q=>?_
  · rcases q with q | q
    · exact .inl (.inl q)
    · exact .inr q.symm
  · rcases q with q | q
    · exact .inl (.inl q)
    · rcases wh with e | ⟨b,e,hb⟩
      · exact .inl (.inr (e ▸ q))
      · rw [e] at q;cases q;exact .inr hb
def cmE (M:MemM) (P:List PtM):Int:=if P=[] then 0 else Dt M 2688 4096 P
def cmM (M:MemM) (P:List PtM):MemM:=if P=[] then M else if Dt M 2688 4096 P=0 then AI (CR M 2688 4096 P) 2688 4096 else M
def cmP (M:MemM) (P:List PtM):List PtM:=if P=[] then [] else if Dt M 2688 4096 P=0 then [] else P
theorem ZF:(cmM M P).V.length=M.V.length:=by
  unfold cmM;split
  · rfl
  · split
    · rw [Cp,GP]
    · rfl
theorem WX (hS:Sep w (txP K ta tc M P::R)) :
    CallsR prog 21 #[pG K.tg] w (fun x w'=>∃ ta' tc',x=ν (cmE M P)∧Sep w' (txP K ta' tc' (cmM M P) (cmP M P)::R)):=by
  have h:VolP w K ta tc M P:=hS.get 0 rfl
  have hm:=h.m
  have hlt:=h.lt
  obtain ⟨lt1,lt2,lt3,lt4,lt5⟩:=hlt
  have hob:∀ b,obA ta=some b→K.tg+1≤b:=Yu h.o
  by_cases h0:P=[]
  · refine Calls.mono (Pz h.b h0) fun e w' ⟨e1,hb,t⟩=>⟨_,e1,ta,tc,by unfold cmE;rw [if_pos h0],?_⟩
    have eM:cmM M P=M:=by unfold cmM;rw [if_pos h0]
    have eP:cmP M P=P:=by unfold cmP;rw [if_pos h0,h0]
    rw [eM,eP]
    refine hS.head t (fun k _ q=>.inl (.inl q)) (c':=txP K ta tc M P) ⟨Fj h.l t ω ω ω ω ω,hb,t.own h.o (fun k q=>ω),h.k,h.m,h.lt⟩ fun k q=>.inl q
  · have okp:=(h.k.pts ω).1
    by_cases hE:Dt M 2688 4096 P=0
    · refine Calls.mono (Rx (B:=0) h.l h.ok h.b h.o.row ω ω ω ω ω h.k.n okp h0 hE) fun e w' ⟨e1,hl,hb,t⟩=>⟨_,e1,none,0,by unfold cmE;rw [if_neg h0,hE],?_⟩
      have eM:cmM M P=AI (CR M 2688 4096 P) 2688 4096:=by unfold cmM;rw [if_neg h0,if_pos hE]
      have eP:cmP M P=[]:=by unfold cmP;rw [if_neg h0,if_pos hE]
      rw [eP]
      refine hS.head t (fun k _ q=>?_) (c':=txP K none 0 (cmM M P) []) ⟨by rw [eM];exact hl,hb,Own.nil _ _ _ _,TxOk.nil _,ZF.trans h.m,h.lt⟩ fun k q=>?_
      · rcases q with (q | q | q) | q
        · exact .inl (.inr (.inr (.inr (.inl q))))
        · exact .inl (.inr (.inr (.inr (.inr (.inl q)))))
        · exact .inl (.inr (.inr (.inr (.inr (.inr q)))))
        · exact .inl (.inl q)
      · rcases q with q | q
        · exact .inl (.inl q)
        · cases q
    · refine Calls.mono (Py (B:=0) h.l h.ok h.b h.o.row ω ω ω ω ω h.k.n okp h0 hE) fun e w' ⟨e1,hl,hb,t⟩=>⟨_,e1,ta,tc,by unfold cmE;rw [if_neg h0],?_⟩
      have eM:cmM M P=M:=by unfold cmM;rw [if_neg h0,if_neg hE]
      have eP:cmP M P=P:=by unfold cmP;rw [if_neg h0,if_neg hE]
      rw [eM,eP]
      rw [WH hE] at hl
      refine hS.head t (fun k _ q=>?_) (c':=txP K ta tc M P) ⟨hl,hb,t.own h.o (fun k q=>by rcases q with q | q | q<;>omega),h.k,h.m,h.lt⟩ fun k q=>.inl q
      rcases q with q | q | q
      · exact .inl (.inr (.inr (.inr (.inl q))))
      · exact .inl (.inr (.inr (.inr (.inr (.inl q)))))
      · exact .inl (.inr (.inr (.inr (.inr (.inr q)))))
end
end
section
open Go.RowKit Go.WideShapes
structure InoT where
  k:Int
  l:Int
  s:Int
  b0:Int
  b1:Int
  b2:Int
  b3:Int
  o0:Int
  o1:Int
  o2:Int
  o3:Int
  o4:Int
  o5:Int
  o6:Int
  o7:Int
def InoT.B (i:InoT):List Int:=[i.b0,i.b1,i.b2,i.b3]
def InoT.O (i:InoT):List Int:=[i.o0,i.o1,i.o2,i.o3,i.o4,i.o5,i.o6,i.o7]
def AE (i:InoT):List Value:=[ν i.k,ν i.l,ν i.s,ν i.b0,ν i.b1,ν i.b2,ν i.b3,ν i.o0,ν i.o1,ν i.o2,ν i.o3,ν i.o4,ν i.o5,ν i.o6,ν i.o7]
def FM (i:InoT):Value:=.agg (AE i).toArray
def Ag2 (n:Int):Int:=if n<1 then 0 else (n-1) / 64+1
theorem Ct (n:Int) (w:World):Calls prog 148 #[ν n] w fun e w'=>e=.returned (.bool (decide (0≤n∧n≤128)))∧w=w':=by
  by_cases h:0≤n
  · by_cases h2:n≤128
    · have hd:decide (0≤n∧n≤128)=true:=decide_eq_true ⟨h,h2⟩
      rw [hd]
      have d1:decide (0≤n)=true:=decide_eq_true h
      have d2:decide (n≤128)=true:=decide_eq_true h2
      clear hd h h2
      go_enter func148,ntmps148
      go_wp2_with fail
      go_ret
      exact ⟨rfl,rfl⟩
    · have hd:decide (0≤n∧n≤128)=false:=decide_eq_false (fun hh=>h2 hh.2)
      rw [hd]
      have d1:decide (0≤n)=true:=decide_eq_true h
      have d2:decide (n≤128)=false:=decide_eq_false h2
      clear hd h h2
      go_enter func148,ntmps148
      go_wp2_with fail
      go_ret
      exact ⟨rfl,rfl⟩
  · have hd:decide (0≤n∧n≤128)=false:=decide_eq_false (fun hh=>h hh.1)
    rw [hd]
    have d1:decide (0≤n)=false:=decide_eq_false h
    clear hd h
    go_enter func148,ntmps148
    go_wp2_with fail
    go_ret
    exact ⟨rfl,rfl⟩
def Ahf (l:List Int):Int:=l.foldl (fun a o=>IntKind.i64.wrap (a+o)) 0
def Ahu (i:InoT):Int:=Ahf i.O
end
section
def InoT.blk (x:InoT) (k:Nat):Int:=[x.b0,x.b1,x.b2,x.b3].getD k 0
def InoT.opn (x:InoT) (k:Nat):Int:=[x.o0,x.o1,x.o2,x.o3,x.o4,x.o5,x.o6,x.o7].getD k 0
def okB (j n s:Int):Bool:=(decide (j<s) == (n != 0))&&decide (0≤n∧n≤128)
def okO (n:Int):Bool:=decide (0≤n∧n≤8)
def IZ (l s:Int):Bool:=decide (0≤l∧l≤20∧0≤s∧s≤256)
def TT (i:InoT):Bool:=okB 0 i.b0 i.s&&okB 64 i.b1 i.s&&okB 128 i.b2 i.s&&okB 192 i.b3 i.s
def TU (i:InoT):Bool:=okO i.o0&&okO i.o1&&okO i.o2&&okO i.o3&&okO i.o4&&okO i.o5&&okO i.o6&&okO i.o7
def Es (i:InoT):Bool:=IZ i.l i.s&&TT i&&TU i
theorem Mt {N:Nat} {l:List (Nat×Value)} {a:Act} (h:Kn N l a) {o:Oper} {T:TypeId} {x y:Operand} (ho:o.op=.index T x y) {v u:Value} (hx:opv l x=some v) (hy:opv l y=some u) {xs:List Int} (hv:v=.agg (xs.map iV).toArray) {n:Nat} (hu:prog.underlying T=some (.array n 3)) (hnx:n=xs.length) {i:Int} {j:Nat} (hi:u=ν i) (hij:i=(j:Int)) (hj:j<xs.length) (w:World):(execOp a.eval o).run prog w=.ok (.value (ν (xs.getD j 0))) w:=by
 subst hv hi hij
 unfold execOp;rw [ho];simp only [h.op hx,h.op hy]
 refine Af ?_
 have hj':(j:Int)<xs.length:=ω
 subst hnx
 have s3:∀ w,(sizeOf 3).run prog w=.ok 1 w:=fun w=>κ
 have a3:∀ w,(isAgg 3).run prog w=.ok false w:=fun w=>κ
 simp [Instr.index,part,asIntOf,underlying,hu,Sem.run_bind,s3,a3,hj,iV,List.getD_eq_getElem?_getD]
def PG (x:InoT) (k:Nat):Bool:=(List.range k).all fun j=>okB ((j:Int)*64) (x.blk j) x.s
def PH (x:InoT) (k:Nat):Bool:=(List.range k).all fun j=>okO (x.opn j)
theorem ZT {x:InoT} {k:Nat} (h:PG x k=true) (e:okB ((k:Int)*64) (x.blk k) x.s=true):PG x (k+1)=true:=by
 unfold PG at *;rw [List.range_succ,List.all_append,h];simp [e]
theorem ZU {x:InoT} {k:Nat} (h:PH x k=true) (e:0≤x.opn k∧x.opn k≤8):PH x (k+1)=true:=by
 unfold PH at *;rw [List.range_succ,List.all_append,h];simp [okO,e]
theorem Afn {j n s:Int} (h1:(decide (j<s) == decide (n≠0))=true) (h2:(decide (n≥0)&&decide (n≤128))=true):okB j n s=true:=by
 unfold okB;simp only [Bool.and_eq_true,decide_eq_true_eq] at h2 ⊢
 exact ⟨by by_cases q:n=0<;>by_cases q2:j<s<;>simp [q,q2] at h1 ⊢,h2⟩
theorem Adw {j n s:Int} (h1:(decide (j<s) == decide (n≠0))=false):okB j n s=false:=by
 unfold okB;by_cases q:n=0<;>by_cases q2:j<s<;>simp [q,q2] at h1 ⊢
theorem Adx {j n s:Int} (h2:(decide (n≥0)&&decide (n≤128))=false):okB j n s=false:=by
 unfold okB;rw [Bool.and_eq_false_iff] at h2 ⊢;refine .inr (decide_eq_false fun q=>?_)
 rcases h2 with h | h<;>(have:=dF h;omega)
theorem Aam {x:InoT} (h:x.l<0∨x.l>20∨x.s<0∨x.s>256):Es x=false:=by
 unfold Es IZ;rw [decide_eq_false ω];rfl
theorem Uc {x:InoT} {k:Nat} (hk:k<4) (h:okB ((k:Int)*64) (x.blk k) x.s=false):Es x=false:=by
 unfold Es TT
 rcases (ω:k=0∨k=1∨k=2∨k=3) with rfl | rfl | rfl | rfl
 ·rw [show okB 0 x.b0 x.s=false from h];simp
 ·rw [show okB 64 x.b1 x.s=false from h];simp
 ·rw [show okB 128 x.b2 x.s=false from h];simp
 ·rw [show okB 192 x.b3 x.s=false from h];simp
theorem Aan {x:InoT} {k:Nat} (hk:k<8) (h:x.opn k<0∨x.opn k>8):Es x=false:=by
 have e:okO (x.opn k)=false:=decide_eq_false ω
 unfold Es TU
 rcases (ω:k=0∨k=1∨k=2∨k=3∨k=4∨k=5∨k=6∨k=7) with rfl | rfl | rfl | rfl | rfl | rfl | rfl | rfl
 ·rw [show okO x.o0=false from e];simp
 ·rw [show okO x.o1=false from e];simp
 ·rw [show okO x.o2=false from e];simp
 ·rw [show okO x.o3=false from e];simp
 ·rw [show okO x.o4=false from e];simp
 ·rw [show okO x.o5=false from e];simp
 ·rw [show okO x.o6=false from e];simp
 ·rw [show okO x.o7=false from e];simp
theorem Aao {x:InoT} (h:0≤x.l∧x.l≤20∧0≤x.s∧x.s≤256) {k:Nat} (hk:k=4) (hf:PG x k=true) {j:Nat} (hj:j=8) (hg:PH x j=true):Es x=true:=by
 subst hk hj
 have f:∀ i:Nat,i<4→okB ((i:Int)*64) (x.blk i) x.s=true:=fun i hi=>List.all_eq_true.1 hf i (List.mem_range.2 hi)
 have g:∀ i:Nat,i<8→okO (x.opn i)=true:=fun i hi=>List.all_eq_true.1 hg i (List.mem_range.2 hi)
 unfold Es IZ TT TU
 rw [decide_eq_true h,show okB 0 x.b0 x.s=true from f 0 (by decide),show okB 64 x.b1 x.s=true from f 1 (by decide),show okB 128 x.b2 x.s=true from f 2 (by decide),show okB 192 x.b3 x.s=true from f 3 (by decide),
  show okO x.o0=true from g 0 (by decide),show okO x.o1=true from g 1 (by decide),show okO x.o2=true from g 2 (by decide),show okO x.o3=true from g 3 (by decide),show okO x.o4=true from g 4 (by decide),show okO x.o5=true from g 5 (by decide),show okO x.o6=true from g 6 (by decide),show okO x.o7=true from g 7 (by decide)]
 rfl
theorem Ss {w:World} {R:List Ch} {n:Int} (hS0:Sep w ([]++R)) :
  CallsR prog 148 #[ν n] w (fun v w'=>v=.bool (decide (n≥0)&&decide (n≤128))∧Sep w' ([]++R)):=by
 have hS:Sep w [Ch.many R]:=Sep.tail_many (xs:=[]) hS0;clear hS0
 refine AB func148 rfl (N:=9) ntmps148 (by show 1≤9;decide) [(0,ν n)] rfl fun _ h1=>sqr fun _ hK3=>mv h1 rfl fun _ h4=>wpList_nil<|hK3 _ _<|sqr fun _ hK6=>mv h4 rfl fun _ h7=>bv h7 (z:=.bool (decide (n≥0))) rfl (cGe _ _ _ _ rfl) fun _ h9=>mv h9 rfl fun _ h2=>sg h2 (wT h2 rfl rfl rfl) rfl rfl rfl (v:=ν n) (fun hC1=>Au h2 rfl rfl _) fun _ h3=>sg h3 (wT h3 rfl rfl rfl) rfl rfl rfl (v:=.bool (decide (n≤128))) (fun hC2=>Co h3 rfl (opg rfl hC2) rfl (cLe _ _ _ _ rfl) _) fun _ h5=>?_
 refine sv1 h5 rfl (v:=.bool ((decide (n≥0))&&(decide (n≤128)))) (SQ h5 rfl (E:=(decide (n≥0))) (F:=(decide (n≤128))) rfl rfl rfl (fun e=>if_pos (by rw [e];try rfl))) fun _ h6=>h6.sk [8,7,6,5,4,3,0] rfl fun h8=>mv h8 rfl fun _ h10=>h10.sn [2,0] rfl fun h11=>hK6 _ _<|wp_ret ?_
 try simp only [Exit.then,Exit.inBlock]
 refine AW (v:=.bool ((decide (n≥0))&&(decide (n≤128)))) (Cz h11 rfl rfl) h11.defs ?_
 exact ⟨rfl,Sep.tail_un (xs:=[]) hS⟩
theorem Vt {w:World} {R:List Ch} {x:InoT} (hS0:Sep w ([]++R)) :
  CallsR prog 120 #[.agg (AE x).toArray] w (fun v w'=>v=.bool (Es x)∧Sep w' ([]++R)):=by
 have hS:Sep w [Ch.many R]:=Sep.tail_many (xs:=[]) hS0;clear hS0
 refine AB func120 rfl (N:=59) ntmps120 (by show 1≤59;decide) [(0,.agg (AE x).toArray)] rfl fun _ h1=>sqr fun _ hK3=>so (wn rfl) fun _ hK1=>JE h1 rfl rfl rfl rfl rfl (z:=(AE x)) rfl hS fun _ g4 w7 h5 s8 _ _=>hK1 _ _ ?_
 refine mv h5 rfl fun _ h2=>wpList_nil<|hK3 _ _<|sq fun _ hK2=>sqr fun _ hK4=>fav h2 rfl (fQ 1) fun _ h3=>ldv h3 s8 0 υ3 rfl rfl rfl rfl fun _ h4=>bv h4 (z:=.bool (decide (x.l<0))) rfl (cLt _ _ _ _ rfl) fun _ h6=>mv h6 rfl fun _ h7=>sg h7 (wF h7 rfl rfl rfl) rfl rfl rfl (v:=.pointer (some ⟨g4,1,none⟩)) (fun hC1=>rfa h7 rfl rfl (fQ 1) _) fun _ h8=>sg h8 (wF h8 rfl rfl rfl) rfl rfl rfl (v:=ν x.l) (fun hC2=>(rld h8 rfl (opg rfl hC2) (ldB υ3 rfl (s8.get 0 rfl:Blk _ _ _ _) rfl))) fun _ h9=>sg h9 (wF h9 rfl rfl rfl) rfl rfl rfl (v:=.bool (decide (x.l>20))) (fun hC3=>Co h9 rfl (opg rfl hC3) rfl (cGt _ _ _ _ rfl) _) fun _ h10=>?_
 refine sv1 h10 rfl (v:=.bool ((decide (x.l<0))||(decide (x.l>20)))) (Hm h10 rfl (E:=(decide (x.l<0))) (F:=(decide (x.l>20))) rfl rfl rfl (fun e=>if_pos (by rw [e];try rfl))) fun _ h11=>mv h11 rfl fun _ h12=>sg h12 (wF h12 rfl rfl rfl) rfl rfl rfl (v:=.pointer (some ⟨g4,2,none⟩)) (fun hC4=>rfa h12 rfl rfl (fQ 2) _) fun _ h13=>sg h13 (wF h13 rfl rfl rfl) rfl rfl rfl (v:=ν x.s) (fun hC5=>(rld h13 rfl (opg rfl hC5) (ldB υ3 rfl (s8.get 0 rfl:Blk _ _ _ _) rfl))) fun _ h14=>sg h14 (wF h14 rfl rfl rfl) rfl rfl rfl (v:=.bool (decide (x.s<0))) (fun hC6=>Co h14 rfl (opg rfl hC6) rfl (cLt _ _ _ _ rfl) _) fun _ h15=>sv1 h15 rfl (v:=.bool (((decide (x.l<0))||(decide (x.l>20)))||(decide (x.s<0)))) (Hm h15 rfl (E:=((decide (x.l<0))||(decide (x.l>20)))) (F:=(decide (x.s<0))) rfl rfl rfl (fun e=>if_pos (by rw [e];try rfl))) fun _ h16=>mv h16 rfl fun _ h17=>sg h17 (wF h17 rfl rfl rfl) rfl rfl rfl (v:=.pointer (some ⟨g4,2,none⟩)) (fun hC7=>rfa h17 rfl rfl (fQ 2) _) fun _ h18=>sg h18 (wF h18 rfl rfl rfl) rfl rfl rfl (v:=ν x.s) (fun hC8=>(rld h18 rfl (opg rfl hC8) (ldB υ3 rfl (s8.get 0 rfl:Blk _ _ _ _) rfl))) fun _ h19=>sg h19 (wF h19 rfl rfl rfl) rfl rfl rfl (v:=.bool (decide (x.s>256))) (fun hC9=>Co h19 rfl (opg rfl hC9) rfl (cGt _ _ _ _ rfl) _) fun _ h20=>?_
 refine sv1 h20 rfl (v:=.bool ((((decide (x.l<0))||(decide (x.l>20)))||(decide (x.s<0)))||(decide (x.s>256)))) (Hm h20 rfl (E:=(((decide (x.l<0))||(decide (x.l>20)))||(decide (x.s<0)))) (F:=(decide (x.s>256))) rfl rfl rfl (fun e=>if_pos (by rw [e];try rfl))) fun _ h21=>h21.sn [25,2,1,0] rfl fun h22=>hK4 _ _ ?_
 rcases bC ((((decide (x.l<0))||(decide (x.l>20)))||(decide (x.s<0)))||(decide (x.s>256))) with hc1 | hc1
 ·skip
  have hp1:(((x.l<0)∨(x.l>20))∨(x.s<0))∨(x.s>256):=((orT hc1).imp (fun q=>((orT q).imp (fun q=>((orT q).imp (fun q=>(dT q)) (fun q=>(dT q)))) (fun q=>(dT q)))) (fun q=>(dT q)))
  refine wcT h22 rfl hc1<|h22.sk [2,1,0] rfl fun h23=>sqr fun _ hK5=>h23.sk [1,0] rfl fun h24=>mv h24 rfl fun _ h25=>wpList_nil<|hK5 _ _<|wp_ret ?_
  try simp only [Exit.then,Exit.inBlock]
  refine AW (v:=.bool false) (Cz h25 rfl rfl) h25.defs ?_
  exact ⟨congrArg _ (Aam ω).symm,Sep.tail_un (xs:=[]) (s8.pk [1] rfl)⟩
 ·skip
  have hp2:(((¬ (x.l<0))∧(¬ (x.l>20)))∧(¬ (x.s<0)))∧(¬ (x.s>256)):=(And.intro (And.intro (And.intro (dF (orF (orF (orF hc1).1).1).1) (dF (orF (orF (orF hc1).1).1).2)) (dF (orF (orF hc1).1).2)) (dF (orF hc1).2))
  refine wcF h22 rfl hc1<|h22.sk [2,1,0] rfl fun h26=>wp_skip<|hK2 _ _<|sq fun _ hK6=>sqr fun _ hK7=>fav h26 rfl (fQ 3) fun _ h27=>sw1 h27 rfl (v:=.agg #[ν x.b0,ν x.b1,ν x.b2,ν x.b3]) (rld h27 rfl rfl (ldA υ37 rfl (n:=4) κ (s8.get 0 rfl:Blk _ _ _ _) rfl rfl)) fun _ h28=>mv h28 rfl fun _ h29=>h29.sn [28,27,2,1,0] rfl fun h30=>hK7 _ _<|wp_block ?_
  refine DZ (fun (k:Nat) a' w'=>Kn 59 [(28,ν (k:Int)),(27,.agg #[ν x.b0,ν x.b1,ν x.b2,ν x.b3]),(2,.bool false),(1,π g4),(0,.agg (AE x).toArray)] a'∧Sep w' [Ab g4 40 (AE x),Ch.many R]∧(k≤4)∧(PG x k=true)) (fun (k:Nat)=>4-k) 0 ⟨h30.subs rfl,s8,Nat.zero_le _,rfl⟩ ?_
  rintro k1 a1 w1 ⟨h31,s1,hk85,hf86⟩ K1 hK8
  refine sqr fun _ hK9=>bv h31 (z:=.bool (decide ((k1:Int)<4))) rfl (cLt _ _ _ _ rfl) fun _ h32=>wpList_nil<|hK9 _ _<|sq fun _ hK10=>?_
  rcases bC (decide ((k1:Int)<4)) with hc2 | hc2
  ·skip
   have hp3:(k1:Int)<4:=(dT hc2)
   refine wcT h32 rfl hc2<|h32.sk [28,27,2,1,0] rfl fun h33=>wp_skip<|hK10 _ _<|sq fun _ hK11=>wp_block ?_
   refine sqr fun _ hK12=>mv h33 rfl fun _ h34=>sv1 h34 rfl (v:=ν (x.blk k1)) (Mt h34 rfl rfl rfl (xs:=[x.b0,x.b1,x.b2,x.b3]) rfl υ37 rfl rfl rfl (by show _<4;omega)) fun _ h35=>mvs 2 h35 rfl fun _ h36=>h36.sn [4,3,28,27,2,1,0] rfl fun h37=>hK12 _ _<|sqr fun _ hK13=>mv h37 rfl fun _ h38=>bv h38 (z:=ν ((k1:Int)*64)) rfl (Agj _ _ _ ω ω ω) fun _ h39=>fav h39 rfl (fQ 2) fun _ h40=>?_
   refine ldv h40 s1 0 υ3 rfl rfl rfl rfl fun _ h41=>bv h41 (z:=.bool (decide ((k1:Int)*64<x.s))) rfl (cLt _ _ _ _ rfl) fun _ h42=>mv h42 rfl fun _ h43=>h43.sn [5,4,3,28,27,2,1,0] rfl fun h44=>hK13 _ _<|sqr fun _ hK14=>mvs 2 h44 rfl fun _ h45=>bv h45 (z:=.bool (decide (x.blk k1≠0))) rfl (cNe _ _ _ _ rfl) fun _ h46=>bv h46 (z:=.bool (!((decide ((k1:Int)*64<x.s)) == (decide (x.blk k1≠0))))) rfl (Acv .neq υ4 _ _ _ _) fun _ h47=>mv h47 rfl fun _ h48=>?_
   refine sg h48 (wF h48 rfl rfl rfl) rfl rfl rfl (v:=ν (x.blk k1)) (fun hC10=>Au h48 rfl rfl _) fun _ h49=>?_
   rcases bC ((decide ((k1:Int)*64<x.s)) == (decide (x.blk k1≠0))) with hc3 | hc3
   ·skip
    refine so ((wF h49 rfl rfl rfl).trans (Lj (Lk hc3))) fun _ hK15=>BD h49 rfl rfl rfl (xs:=[.tmp 42]) rfl (cF func148) rfl (vs:=[ν (x.blk k1)]) (Afi (opg rfl (Lj (Lk hc3))) rfl) (args:=#[ν (x.blk k1)]) rfl (Ss s1) fun _ v1 w2 r1 h50=>hK15 _ _ ?_
    obtain ⟨rfl,s2⟩:=r1
    refine sv h50 ((wF h50 rfl rfl rfl).trans (Lj (Lk hc3))) rfl rfl rfl (v:=.bool (!((decide (x.blk k1≥0))&&(decide (x.blk k1≤128))))) (Aeb h50 rfl (b:=((decide (x.blk k1≥0))&&(decide (x.blk k1≤128)))) rfl) fun _ h51=>sv1 h51 rfl (v:=.bool (!((decide (x.blk k1≥0))&&(decide (x.blk k1≤128))))) (YK h51 rfl (E:=(!((decide ((k1:Int)*64<x.s)) == (decide (x.blk k1≠0))))) (b:=false) rfl (Lk hc3) rfl) fun _ h52=>h52.sn [45,5,4,3,28,27,2,1,0] rfl fun h53=>hK14 _ _ ?_
    rcases bC ((decide (x.blk k1≥0))&&(decide (x.blk k1≤128))) with hc4 | hc4
    ·skip
     have hp4:(x.blk k1≥0)∧(x.blk k1≤128):=(And.intro (dT (Zy hc4).1) (dT (Zy hc4).2))
     refine wcF h53 rfl (Lk hc4)<|h53.sk [5,4,3,28,27,2,1,0] rfl fun h54=>wp_skip<|hK11 _ _<|wp_region_lit<|bv h54 (z:=ν ((k1+1:Nat):Int)) rfl (CT _ _ _ ω ω ω) fun _ h55=>h55.sk [46,5,4,3,27,2,1,0] rfl fun h56=>mv h56 rfl fun _ h57=>h57.sk [28,5,4,3,27,2,1,0] rfl fun h58=>wpList_nil ?_
     exact hK8 (k1+1) _ _ ⟨h58.subs rfl,s2,ω,(ZT hf86 (Afn hc3 hc4))⟩ ω
    ·skip
     have hp5:(¬ (x.blk k1≥0))∨(¬ (x.blk k1≤128)):=((Aeq hc4).imp (fun q=>(dF q)) (fun q=>(dF q)))
     refine wcT h53 rfl (Lj hc4)<|h53.sk [5,4,3,28,27,2,1,0] rfl fun h59=>sqr fun _ hK16=>h59.sk [5,4,3,28,27,1,0] rfl fun h60=>mv h60 rfl fun _ h61=>wpList_nil<|hK16 _ _<|wp_ret ?_
     try simp only [Exit.then,Exit.inBlock]
     refine AW (v:=.bool false) (Cz h61 rfl rfl) h61.defs ?_
     exact ⟨congrArg _ (Uc (k:=k1) ω (Adx hc4)).symm,Sep.tail_un (xs:=[]) (s2.pk [1] rfl)⟩
   ·skip
    refine su h49 ((wF h49 rfl rfl rfl).trans (Lk (Lj hc3))) rfl rfl rfl fun _ h62=>su h62 ((wF h62 rfl rfl rfl).trans (Lk (Lj hc3))) rfl rfl rfl fun _ h63=>sv1 h63 rfl (v:=.bool true) (YK h63 rfl (E:=(!((decide ((k1:Int)*64<x.s)) == (decide (x.blk k1≠0))))) (b:=true) rfl (Lj hc3) rfl) fun _ h64=>h64.sn [45,5,4,3,28,27,2,1,0] rfl fun h65=>hK14 _ _<|wcT h65 rfl rfl<|h65.sk [5,4,3,28,27,2,1,0] rfl fun h66=>sqr fun _ hK17=>h66.sk [5,4,3,28,27,1,0] rfl fun h67=>mv h67 rfl fun _ h68=>?_
    refine wpList_nil<|hK17 _ _<|wp_ret ?_
    try simp only [Exit.then,Exit.inBlock]
    refine AW (v:=.bool false) (Cz h68 rfl rfl) h68.defs ?_
    exact ⟨congrArg _ (Uc (k:=k1) ω (Adw hc3)).symm,Sep.tail_un (xs:=[]) (s1.pk [1] rfl)⟩
  ·skip
   have hp6:¬ ((k1:Int)<4):=(dF hc2)
   refine wcF h32 rfl hc2<|h32.sk [28,27,2,1,0] rfl fun h69=>wp_exit ?_
   refine hK6 _ _ ?_
   refine sq fun _ hK18=>sqr fun _ hK19=>fav h69 rfl (fQ 7) fun _ h70=>sw1 h70 rfl (v:=.agg #[ν x.o0,ν x.o1,ν x.o2,ν x.o3,ν x.o4,ν x.o5,ν x.o6,ν x.o7]) (rld h70 rfl rfl (ldA υ38 rfl (n:=8) κ (s1.get 0 rfl:Blk _ _ _ _) rfl rfl)) fun _ h71=>mv h71 rfl fun _ h72=>h72.sn [49,48,28,27,2,1,0] rfl fun h73=>hK19 _ _<|wp_block ?_
   refine DZ (fun (k:Nat) a' w'=>Kn 59 [(49,ν (k:Int)),(48,.agg #[ν x.o0,ν x.o1,ν x.o2,ν x.o3,ν x.o4,ν x.o5,ν x.o6,ν x.o7]),(28,ν (k1:Int)),(27,.agg #[ν x.b0,ν x.b1,ν x.b2,ν x.b3]),(2,.bool false),(1,π g4),(0,.agg (AE x).toArray)] a'∧Sep w' [Ab g4 40 (AE x),Ch.many R]∧(k≤8)∧(PH x k=true)) (fun (k:Nat)=>8-k) 0 ⟨h73.subs rfl,s1,Nat.zero_le _,rfl⟩ ?_
   rintro k2 a2 w3 ⟨h74,s3,hk2192,hg193⟩ K2 hK20
   refine sqr fun _ hK21=>bv h74 (z:=.bool (decide ((k2:Int)<8))) rfl (cLt _ _ _ _ rfl) fun _ h75=>wpList_nil<|hK21 _ _<|sq fun _ hK22=>?_
   rcases bC (decide ((k2:Int)<8)) with hc5 | hc5
   ·skip
    have hp7:(k2:Int)<8:=(dT hc5)
    refine wcT h75 rfl hc5<|h75.sk [49,48,28,27,2,1,0] rfl fun h76=>wp_skip<|hK22 _ _<|sq fun _ hK23=>wp_block ?_
    refine sqr fun _ hK24=>sv1 h76 rfl (v:=ν (x.opn k2)) (Mt h76 rfl rfl rfl (xs:=[x.o0,x.o1,x.o2,x.o3,x.o4,x.o5,x.o6,x.o7]) rfl υ38 rfl rfl rfl (by show _<8;omega)) fun _ h77=>mv h77 rfl fun _ h78=>h78.sn [7,49,48,28,27,2,1,0] rfl fun h79=>hK24 _ _<|sqr fun _ hK25=>mv h79 rfl fun _ h80=>bv h80 (z:=.bool (decide (x.opn k2<0))) rfl (cLt _ _ _ _ rfl) fun _ h81=>mv h81 rfl fun _ h82=>sg h82 (wF h82 rfl rfl rfl) rfl rfl rfl (v:=ν (x.opn k2)) (fun hC11=>Au h82 rfl rfl _) fun _ h83=>?_
    refine sg h83 (wF h83 rfl rfl rfl) rfl rfl rfl (v:=.bool (decide (x.opn k2>8))) (fun hC12=>Co h83 rfl (opg rfl hC12) rfl (cGt _ _ _ _ rfl) _) fun _ h84=>sv1 h84 rfl (v:=.bool ((decide (x.opn k2<0))||(decide (x.opn k2>8)))) (Hm h84 rfl (E:=(decide (x.opn k2<0))) (F:=(decide (x.opn k2>8))) rfl rfl rfl (fun e=>if_pos (by rw [e];try rfl))) fun _ h85=>h85.sn [57,7,49,48,28,27,2,1,0] rfl fun h86=>hK25 _ _ ?_
    rcases bC ((decide (x.opn k2<0))||(decide (x.opn k2>8))) with hc6 | hc6
    ·skip
     have hp8:(x.opn k2<0)∨(x.opn k2>8):=((orT hc6).imp (fun q=>(dT q)) (fun q=>(dT q)))
     refine wcT h86 rfl hc6<|h86.sk [7,49,48,28,27,2,1,0] rfl fun h87=>sqr fun _ hK26=>h87.sk [7,49,48,28,27,1,0] rfl fun h88=>mv h88 rfl fun _ h89=>wpList_nil<|hK26 _ _<|wp_ret ?_
     try simp only [Exit.then,Exit.inBlock]
     refine AW (v:=.bool false) (Cz h89 rfl rfl) h89.defs ?_
     exact ⟨congrArg _ (Aan (k:=k2) ω ω).symm,Sep.tail_un (xs:=[]) (s3.pk [1] rfl)⟩
    ·skip
     have hp9:(¬ (x.opn k2<0))∧(¬ (x.opn k2>8)):=(And.intro (dF (orF hc6).1) (dF (orF hc6).2))
     refine wcF h86 rfl hc6<|h86.sk [7,49,48,28,27,2,1,0] rfl fun h90=>wp_skip<|hK23 _ _<|wp_region_lit<|bv h90 (z:=ν ((k2+1:Nat):Int)) rfl (CT _ _ _ ω ω ω) fun _ h91=>h91.sk [58,7,48,28,27,2,1,0] rfl fun h92=>mv h92 rfl fun _ h93=>h93.sk [49,7,48,28,27,2,1,0] rfl fun h94=>wpList_nil ?_
     exact hK20 (k2+1) _ _ ⟨h94.subs rfl,s3,ω,(ZU hg193 ω)⟩ ω
   ·skip
    have hp10:¬ ((k2:Int)<8):=(dF hc5)
    refine wcF h75 rfl hc5<|h75.sk [49,48,28,27,2,1,0] rfl fun h95=>wp_exit ?_
    refine hK18 _ _ ?_
    refine sqr fun _ hK27=>h95.sk [49,48,28,27,1,0] rfl fun h96=>mv h96 rfl fun _ h97=>wpList_nil<|hK27 _ _<|wp_ret ?_
    try simp only [Exit.then,Exit.inBlock]
    refine AW (v:=.bool true) (Cz h97 rfl rfl) h97.defs ?_
    exact ⟨congrArg _ (Aao ω (k:=k1) ω hf86 (j:=k2) ω hg193).symm,Sep.tail_un (xs:=[]) (s3.pk [1] rfl)⟩
theorem Kx (i:InoT) (w:World):Calls prog 120 #[FM i] w fun e w'=>e=.returned (.bool (Es i))∧Below w.heap.size w w':=
 Calls.mono (Vt (x:=i) (Sep.start w:Sep w ([]++[Dh w w.heap.size]))) fun e w' ⟨v,e1,e2,h⟩=>⟨by rw [e1,e2],(h.get 0 rfl:Below w.heap.size w w'∧_).1⟩
end
section
open Go.RowKit Go.WideShapes
theorem Agr (x0 x1 x2 x3 y0 y1 y2 y3:Int) (w:World):(Op.equalIn 9999 37 (.agg #[ν x0,ν x1,ν x2,ν x3]) (.agg #[ν y0,ν y1,ν y2,ν y3])).run prog w=.ok (decide ([x0,x1,x2,x3]=[y0,y1,y2,y3])) w:=by
  have u3:=υ3
  have a3:=Tryz.isAgg3
  have z3:=Tryz.sizeOf3
  rw [show (9999:Nat)=9998+1 from rfl,Op.equalIn]
  simp only [Sem.run_bind,run_underlying υ37,Result.andThen_ok]
  simp only [Std.Legacy.Range.forIn_eq_forIn_range',Std.Legacy.Range.size,Nat.sub_zero,Nat.add_sub_cancel,Nat.div_one,List.range'_succ,List.range'_zero,List.forIn_cons,List.forIn_nil]
  go_simp
  by_cases h0:x0=y0
  case neg=>simp [h0]
  by_cases h1:x1=y1
  case neg=>simp [h0,h1]
  by_cases h2:x2=y2
  case neg=>simp [h0,h1,h2]
  by_cases h3:x3=y3
  case neg=>simp [h0,h1,h2,h3]
  simp [h0,h1,h2,h3]
theorem Ags (x0 x1 x2 x3 x4 x5 x6 x7 y0 y1 y2 y3 y4 y5 y6 y7:Int) (w:World):(Op.equalIn 9999 38 (.agg #[ν x0,ν x1,ν x2,ν x3,ν x4,ν x5,ν x6,ν x7]) (.agg #[ν y0,ν y1,ν y2,ν y3,ν y4,ν y5,ν y6,ν y7])).run prog w=.ok (decide ([x0,x1,x2,x3,x4,x5,x6,x7]=[y0,y1,y2,y3,y4,y5,y6,y7])) w:=by
  have u3:=υ3
  have a3:=Tryz.isAgg3
  have z3:=Tryz.sizeOf3
  rw [show (9999:Nat)=9998+1 from rfl,Op.equalIn]
  simp only [Sem.run_bind,run_underlying υ38,Result.andThen_ok]
  simp only [Std.Legacy.Range.forIn_eq_forIn_range',Std.Legacy.Range.size,Nat.sub_zero,Nat.add_sub_cancel,Nat.div_one,List.range'_succ,List.range'_zero,List.forIn_cons,List.forIn_nil]
  go_simp
  by_cases h0:x0=y0
  case neg=>simp [h0]
  by_cases h1:x1=y1
  case neg=>simp [h0,h1]
  by_cases h2:x2=y2
  case neg=>simp [h0,h1,h2]
  by_cases h3:x3=y3
  case neg=>simp [h0,h1,h2,h3]
  by_cases h4:x4=y4
  case neg=>simp [h0,h1,h2,h3,h4]
  by_cases h5:x5=y5
  case neg=>simp [h0,h1,h2,h3,h4,h5]
  by_cases h6:x6=y6
  case neg=>simp [h0,h1,h2,h3,h4,h5,h6]
  by_cases h7:x7=y7
  case neg=>simp [h0,h1,h2,h3,h4,h5,h6,h7]
  simp [h0,h1,h2,h3,h4,h5,h6,h7]
theorem Ae2 (x0 x1 x2 x3 x4 x5 x6 x7 y0 y1 y2 y3 y4 y5 y6 y7:Int) (w:World):(Op.equalIn 10000 38 (.agg #[ν x0,ν x1,ν x2,ν x3,ν x4,ν x5,ν x6,ν x7]) (.agg #[ν y0,ν y1,ν y2,ν y3,ν y4,ν y5,ν y6,ν y7])).run prog w=.ok (decide ([x0,x1,x2,x3,x4,x5,x6,x7]=[y0,y1,y2,y3,y4,y5,y6,y7])) w:=by
  have u3:=υ3
  have a3:=Tryz.isAgg3
  have z3:=Tryz.sizeOf3
  rw [show (10000:Nat)=9999+1 from rfl,Op.equalIn]
  simp only [Sem.run_bind,run_underlying υ38,Result.andThen_ok]
  simp only [Std.Legacy.Range.forIn_eq_forIn_range',Std.Legacy.Range.size,Nat.sub_zero,Nat.add_sub_cancel,Nat.div_one,List.range'_succ,List.range'_zero,List.forIn_cons,List.forIn_nil]
  go_simp
  by_cases h0:x0=y0
  case neg=>simp [h0]
  by_cases h1:x1=y1
  case neg=>simp [h0,h1]
  by_cases h2:x2=y2
  case neg=>simp [h0,h1,h2]
  by_cases h3:x3=y3
  case neg=>simp [h0,h1,h2,h3]
  by_cases h4:x4=y4
  case neg=>simp [h0,h1,h2,h3,h4]
  by_cases h5:x5=y5
  case neg=>simp [h0,h1,h2,h3,h4,h5]
  by_cases h6:x6=y6
  case neg=>simp [h0,h1,h2,h3,h4,h5,h6]
  by_cases h7:x7=y7
  case neg=>simp [h0,h1,h2,h3,h4,h5,h6,h7]
  simp [h0,h1,h2,h3,h4,h5,h6,h7]
theorem Xm (x0 x1 x2 x3 x4 x5 x6 x7 x8 x9 x10 x11 x12 x13 x14 y0 y1 y2 y3 y4 y5 y6 y7 y8 y9 y10 y11 y12 y13 y14:Int) (w:World):(Op.equalIn 10000 40 (.agg #[ν x0,ν x1,ν x2,ν x3,ν x4,ν x5,ν x6,ν x7,ν x8,ν x9,ν x10,ν x11,ν x12,ν x13,ν x14]) (.agg #[ν y0,ν y1,ν y2,ν y3,ν y4,ν y5,ν y6,ν y7,ν y8,ν y9,ν y10,ν y11,ν y12,ν y13,ν y14])).run prog w=.ok (decide ([x0,x1,x2,x3,x4,x5,x6,x7,x8,x9,x10,x11,x12,x13,x14]=[y0,y1,y2,y3,y4,y5,y6,y7,y8,y9,y10,y11,y12,y13,y14])) w:=by
  have u3:=υ3
  have a3:=Tryz.isAgg3
  have z3:=Tryz.sizeOf3
  have u4:=υ37
  have a4:=Tryz.isAgg37
  have z4:=Tryz.sizeOf37
  have u8:=υ38
  have a8:=Tryz.isAgg38
  have z8:=Tryz.sizeOf38
  have E4:=Agr
  have E8:=Ags
  have hS:prog.underlying 40=some (.struct (prog.fieldsOf 40)):=κ
  have hp:prog.stoodInHeld 40=false:=κ
  rw [show (10000:Nat)=9999+1 from rfl,run_equalIn_agg w 9999 40 _ _ hS hp]
  simp only [Program.fieldsOf,υ40]
  go_simp
  by_cases h0:x0=y0
  case neg=>simp [h0]
  by_cases h1:x1=y1
  case neg=>simp [h0,h1]
  by_cases h2:x2=y2
  case neg=>simp [h0,h1,h2]
  by_cases h3:x3=y3
  case neg=>simp [h0,h1,h2,h3]
  by_cases h4:x4=y4
  case neg=>simp [h0,h1,h2,h3,h4]
  by_cases h5:x5=y5
  case neg=>simp [h0,h1,h2,h3,h4,h5]
  by_cases h6:x6=y6
  case neg=>simp [h0,h1,h2,h3,h4,h5,h6]
  by_cases h7:x7=y7
  case neg=>simp [h0,h1,h2,h3,h4,h5,h6,h7]
  by_cases h8:x8=y8
  case neg=>simp [h0,h1,h2,h3,h4,h5,h6,h7,h8]
  by_cases h9:x9=y9
  case neg=>simp [h0,h1,h2,h3,h4,h5,h6,h7,h8,h9]
  by_cases h10:x10=y10
  case neg=>simp [h0,h1,h2,h3,h4,h5,h6,h7,h8,h9,h10]
  by_cases h11:x11=y11
  case neg=>simp [h0,h1,h2,h3,h4,h5,h6,h7,h8,h9,h10,h11]
  by_cases h12:x12=y12
  case neg=>simp [h0,h1,h2,h3,h4,h5,h6,h7,h8,h9,h10,h11,h12]
  by_cases h13:x13=y13
  case neg=>simp [h0,h1,h2,h3,h4,h5,h6,h7,h8,h9,h10,h11,h12,h13]
  by_cases h14:x14=y14
  case neg=>simp [h0,h1,h2,h3,h4,h5,h6,h7,h8,h9,h10,h11,h12,h13,h14]
  simp [h0,h1,h2,h3,h4,h5,h6,h7,h8,h9,h10,h11,h12,h13,h14]
end
section
open Go.RowKit Go.WideShapes
def Ge (n:Int):Bool:=decide (0≤n∧n≤128)
def IU (l s:Int):Bool:=decide (l=1∧0≤s∧s≤16)
def noO (i:InoT):Bool:=decide ([i.o0,i.o1,i.o2,i.o3,i.o4,i.o5,i.o6,i.o7]=[0,0,0,0,0,0,0,0])
def Kb (i:InoT):Bool:=IU i.l i.s&&noO i&&(Ge i.b0&&Ge i.b1&&Ge i.b2&&Ge i.b3)
theorem LR (i:InoT) (w:World):Calls prog 122 #[FM i] w fun e w'=>e=.returned (.bool (Kb i))∧Below w.heap.size w w':=by
  obtain ⟨k,l,s,b0,b1,b2,b3,o0,o1,o2,o3,o4,o5,o6,o7⟩:=i
  have HB:Hid (Below w.heap.size w (w.alloc (.cells #[ν k,ν l,ν s,ν b0,ν b1,ν b2,ν b3,ν o0,ν o1,ν o2,ν o3,ν o4,ν o5,ν o6,ν o7] 40))):=(Below.refl w.heap.size w).alloc (Nat.le_refl _) _
  unfold FM AE
  obtain ⟨M,hM⟩:∃ M,M=Kb ⟨k,l,s,b0,b1,b2,b3,o0,o1,o2,o3,o4,o5,o6,o7⟩:=⟨_,rfl⟩
  rw [← hM]
  obtain ⟨zo,hzo⟩:∃ zo,decide ([o0,o1,o2,o3,o4,o5,o6,o7]=[0,0,0,0,0,0,0,0])=zo:=⟨_,rfl⟩
  have hMh:IU l s=false→M=false:=fun h=>by rw [hM];simp [Kb,h]
  have hMo:zo=false→M=false:=fun h=>by rw [hM];rw [h] at hzo;simp only [Kb,noO,hzo];simp
  have hMB:(Ge b0=false∨Ge b1=false∨Ge b2=false∨Ge b3=false)→M=false:=fun h=>by rw [hM];rcases h with h | h | h | h<;>simp [Kb,h]
  have hMT:IU l s=true→zo=true→(Ge b0=true∧Ge b1=true∧Ge b2=true∧Ge b3=true)→M=true:=fun h1 h2 h3=>by rw [hM];rw [h2] at hzo;simp only [Kb,noO,hzo,h1,h3.1,h3.2.1,h3.2.2.1,h3.2.2.2];rfl
  have HMh:=hid hMh;have HMB:=hid hMB;have HMo:=hid hMo;have HMT:=hid hMT
  have E8:=Ae2 o0 o1 o2 o3 o4 o5 o6 o7 0 0 0 0 0 0 0 0
  rw [hzo] at E8
  clear hM hMh hMB hMo hMT hzo
  by_cases hh:l=1∧0≤s∧s≤16
  · have hhT:IU l s=true:=decide_eq_true hh
    have HT:=hid (HMT.out hhT)
    obtain ⟨hl1,h3,h4⟩:=hh
    have d1:(l != 1)=false:=by simpa using hl1
    clear hl1
    have d3:decide (s<0)=false:=decide_eq_false ω
    have d4:decide (16<s)=false:=decide_eq_false ω
    clear hhT HMh
    cases zo
    · have HOK:Hid (M=false):=HMo.out rfl
      clear HT
      go_enter func122,ntmps122
      go_wp2_with fail
      go_ret
      exact ⟨by rw [HOK.out];rfl,HB.out⟩
    · have HT2:=hid (HT.out rfl)
      clear HT HMo
      have ib0:∀ w,(Instr.index 37 (.agg #[ν b0,ν b1,ν b2,ν b3]) (ν 0)).run prog w=.ok (ν b0) w:=fun _=>κ
      have ib1:∀ w,(Instr.index 37 (.agg #[ν b0,ν b1,ν b2,ν b3]) (ν 1)).run prog w=.ok (ν b1) w:=fun _=>κ
      have ib2:∀ w,(Instr.index 37 (.agg #[ν b0,ν b1,ν b2,ν b3]) (ν 2)).run prog w=.ok (ν b2) w:=fun _=>κ
      have ib3:∀ w,(Instr.index 37 (.agg #[ν b0,ν b1,ν b2,ν b3]) (ν 3)).run prog w=.ok (ν b3) w:=fun _=>κ
      go_enter func122,ntmps122
      go_wp2_with fail
      go_loopw [26] (fun i wr=>∃ j:Nat,j≤4∧i=ν j∧((1≤j→Ge b0=true)∧(2≤j→Ge b1=true)∧(3≤j→Ge b2=true)∧(4≤j→Ge b3=true))∧wr=(w.alloc (.cells #[ν k,ν l,ν s,ν b0,ν b1,ν b2,ν b3,ν o0,ν o1,ν o2,ν o3,ν o4,ν o5,ν o6,ν o7] 40))) (fun i _=>4-(intOf i).toNat)
      case atStart=>exact ⟨0,ω,rfl,⟨fun h=>absurd h ω,fun h=>absurd h ω,fun h=>absurd h ω,fun h=>absurd h ω⟩,rfl⟩
      case round=>
      obtain ⟨j,hj,rfl,hp,rfl⟩:=hrel
      have HP:=hid hp
      clear hp
      rcases (ω:j=0∨j=1∨j=2∨j=3∨j=4) with rfl | rfl | rfl | rfl | rfl
      · skip
        rw [show ((0:Nat):Int)=0 from rfl]
        cases hm:decide (0≤b0∧b0≤128)
        · have HOK:Hid (M=false):=HMB.out (.inl hm)
          go_wp2_with (go_at_call 148;refine (Ct _ _).mono ?_;rintro e w4 ⟨rfl,rfl⟩;rw [hm])
          go_ret
          exact ⟨by rw [HOK.out];rfl,HB.out⟩
        · have HOK:Hid (Ge b0=true):=hm
          go_wp2_with (go_at_call 148;refine (Ct _ _).mono ?_;rintro e w4 ⟨rfl,rfl⟩;rw [hm])
          go_roundw
          case rel=>exact ⟨1,ω,rfl,⟨fun _=>HOK.out,fun h=>absurd h ω,fun h=>absurd h ω,fun h=>absurd h ω⟩,by first | rfl | trivial⟩
          case measure=>simp [intOf]
      · skip
        rw [show ((1:Nat):Int)=1 from rfl]
        cases hm:decide (0≤b1∧b1≤128)
        · have HOK:Hid (M=false):=HMB.out (.inr (.inl hm))
          go_wp2_with (go_at_call 148;refine (Ct _ _).mono ?_;rintro e w4 ⟨rfl,rfl⟩;rw [hm])
          go_ret
          exact ⟨by rw [HOK.out];rfl,HB.out⟩
        · have HOK:Hid (Ge b1=true):=hm
          go_wp2_with (go_at_call 148;refine (Ct _ _).mono ?_;rintro e w4 ⟨rfl,rfl⟩;rw [hm])
          go_roundw
          case rel=>exact ⟨2,ω,rfl,⟨fun _=>HP.out.1 ω,fun _=>HOK.out,fun h=>absurd h ω,fun h=>absurd h ω⟩,by first | rfl | trivial⟩
          case measure=>simp [intOf]
      · skip
        rw [show ((2:Nat):Int)=2 from rfl]
        cases hm:decide (0≤b2∧b2≤128)
        · have HOK:Hid (M=false):=HMB.out (.inr (.inr (.inl hm)))
          go_wp2_with (go_at_call 148;refine (Ct _ _).mono ?_;rintro e w4 ⟨rfl,rfl⟩;rw [hm])
          go_ret
          exact ⟨by rw [HOK.out];rfl,HB.out⟩
        · have HOK:Hid (Ge b2=true):=hm
          go_wp2_with (go_at_call 148;refine (Ct _ _).mono ?_;rintro e w4 ⟨rfl,rfl⟩;rw [hm])
          go_roundw
          case rel=>exact ⟨3,ω,rfl,⟨fun _=>HP.out.1 ω,fun _=>HP.out.2.1 ω,fun _=>HOK.out,fun h=>absurd h ω⟩,by first | rfl | trivial⟩
          case measure=>simp [intOf]
      · skip
        rw [show ((3:Nat):Int)=3 from rfl]
        cases hm:decide (0≤b3∧b3≤128)
        · have HOK:Hid (M=false):=HMB.out (.inr (.inr (.inr hm)))
          go_wp2_with (go_at_call 148;refine (Ct _ _).mono ?_;rintro e w4 ⟨rfl,rfl⟩;rw [hm])
          go_ret
          exact ⟨by rw [HOK.out];rfl,HB.out⟩
        · have HOK:Hid (Ge b3=true):=hm
          go_wp2_with (go_at_call 148;refine (Ct _ _).mono ?_;rintro e w4 ⟨rfl,rfl⟩;rw [hm])
          go_roundw
          case rel=>exact ⟨4,ω,rfl,⟨fun _=>HP.out.1 ω,fun _=>HP.out.2.1 ω,fun _=>HP.out.2.2.1 ω,fun _=>HOK.out⟩,by first | rfl | trivial⟩
          case measure=>simp [intOf]
      · rw [show ((4:Nat):Int)=4 from rfl]
        have HOK:=hid (HT2.out ⟨HP.out.1 ω,HP.out.2.1 ω,HP.out.2.2.1 ω,HP.out.2.2.2 ω⟩)
        go_wp2_with fail
        go_ret
        exact ⟨by rw [HOK.out];rfl,HB.out⟩
  · have HOK:Hid (M=false):=HMh.out (decide_eq_false hh)
    rcases (ω:¬ l=1∨(l=1∧s<0)∨(l=1∧¬ s<0∧16<s)) with h1 | ⟨rfl,h3⟩ | ⟨rfl,h3,h4⟩
    · have d1:(l != 1)=true:=by simpa using h1
      clear hh h1
      go_enter func122,ntmps122
      go_wp2_with fail
      go_ret
      exact ⟨by rw [HOK.out];rfl,HB.out⟩
    · have d3:decide (s<0)=true:=decide_eq_true h3
      clear hh h3
      go_enter func122,ntmps122
      go_wp2_with fail
      go_ret
      exact ⟨by rw [HOK.out];rfl,HB.out⟩
    · have d3:decide (s<0)=false:=decide_eq_false h3
      have d4:decide (16<s)=true:=decide_eq_true h4
      clear hh h3 h4
      go_enter func122,ntmps122
      go_wp2_with fail
      go_ret
      exact ⟨by rw [HOK.out];rfl,HB.out⟩
def FF:List Nat→List Value
  | []=>List.replicate 129 (.bool false)
  | n::l=>(FF l).set n (.bool true)
theorem Dc (l:List Nat):(FF l).length=129:=by
  induction l with
  | nil=>simp [FF]
  | cons n l ih=>simp [FF,ih]
theorem Ih (l:List Nat) (n:Nat) (hn:n<129):(FF l)[n]? = some (.bool (decide (n∈l))):=by
  induction l with
  | nil=>
    rw [show FF []=List.replicate 129 (.bool false) from rfl,List.getElem?_replicate,if_pos hn]
    simp
  | cons m l ih=>
    have hl:=Dc l
    simp only [FF]
    by_cases h:m=n
    · subst h;simp [hl,hn]
    · rw [List.getElem?_set_ne h,ih]
      have:(decide (n∈m::l))=decide (n∈l):=by
        simp only [List.mem_cons]
        have h':¬ n=m:=fun e=>h e.symm
        simp [h']
      rw [this]
def twC (n:Nat) (l:List Nat):Bool:=(n != 0)&&decide (n∈l)
def tw (n0 n1 n2 n3:Nat):Bool:=twC n0 []||twC n1 [n0]||twC n2 [n1,n0]||twC n3 [n2,n1,n0]
theorem Ob (k l s:Int) (n0 n1 n2 n3:Nat) (o0 o1 o2 o3 o4 o5 o6 o7:Int) (w:World) (g0:n0≤128) (g1:n1≤128) (g2:n2≤128) (g3:n3≤128) :
    Calls prog 121 #[FM ⟨k,l,s,n0,n1,n2,n3,o0,o1,o2,o3,o4,o5,o6,o7⟩] w fun e w'=>e=.returned (.bool (tw n0 n1 n2 n3))∧Below w.heap.size w w':=by
  obtain ⟨M,hM⟩:∃ M,M=tw n0 n1 n2 n3:=⟨_,rfl⟩
  rw [← hM]
  have hMT:(twC n0 []=true∨twC n1 [n0]=true∨twC n2 [n1,n0]=true∨twC n3 [n2,n1,n0]=true)→M=true:=fun h=>by rw [hM];rcases h with h | h | h | h<;>simp [tw,h]
  have hMF:(twC n0 []=false∧twC n1 [n0]=false∧twC n2 [n1,n0]=false∧twC n3 [n2,n1,n0]=false)→M=false:=fun h=>by rw [hM];simp [tw,h.1,h.2.1,h.2.2.1,h.2.2.2]
  have HMT:=hid hMT;have HMF:=hid hMF
  clear hM hMT hMF
  obtain ⟨Z,hZ⟩:∃ Z:Array Value,Z=Array.replicate 129 (.bool false):=⟨_,rfl⟩
  have hz:∀ w,(zeroValue 211).run prog w=.ok (.agg Z) w:=fun _=>by rw [hZ];kernel_rfl
  unfold FM AE
  have k0:Blk ((w.alloc (.cells #[ν k,ν l,ν s,ν (n0:Nat),ν (n1:Nat),ν (n2:Nat),ν (n3:Nat),ν o0,ν o1,ν o2,ν o3,ν o4,ν o5,ν o6,ν o7] 40)).alloc (.cells Z 211)) (w.heap.size+1) 211 (FF []):=by
    have q:=heap_alloc_new (w.alloc (.cells #[ν k,ν l,ν s,ν (n0:Nat),ν (n1:Nat),ν (n2:Nat),ν (n3:Nat),ν o0,ν o1,ν o2,ν o3,ν o4,ν o5,ν o6,ν o7] 40)) (.cells Z 211)
    rw [show (w.alloc (.cells #[ν k,ν l,ν s,ν (n0:Nat),ν (n1:Nat),ν (n2:Nat),ν (n3:Nat),ν o0,ν o1,ν o2,ν o3,ν o4,ν o5,ν o6,ν o7] 40)).heap.size=w.heap.size+1 from by simp] at q
    unfold Blk
    have hs:(FF []).toArray=Array.replicate 129 (.bool false):=by
      show (List.replicate 129 (Value.bool false)).toArray=_
      exact List.toArray_replicate _ _
    rw [q,hZ,hs]
  have b0:Below w.heap.size w ((w.alloc (.cells #[ν k,ν l,ν s,ν (n0:Nat),ν (n1:Nat),ν (n2:Nat),ν (n3:Nat),ν o0,ν o1,ν o2,ν o3,ν o4,ν o5,ν o6,ν o7] 40)).alloc (.cells Z 211)):=((Below.refl _ w).alloc (Nat.le_refl _) _).alloc (by simp) _
  have K0:=hid k0;have B0:=hid b0
  clear k0 b0 hZ
  have ib0:∀ w,(Instr.index 37 (.agg #[ν (n0:Nat),ν (n1:Nat),ν (n2:Nat),ν (n3:Nat)]) (ν 0)).run prog w=.ok (ν (n0:Nat)) w:=fun _=>κ
  have ib1:∀ w,(Instr.index 37 (.agg #[ν (n0:Nat),ν (n1:Nat),ν (n2:Nat),ν (n3:Nat)]) (ν 1)).run prog w=.ok (ν (n1:Nat)) w:=fun _=>κ
  have ib2:∀ w,(Instr.index 37 (.agg #[ν (n0:Nat),ν (n1:Nat),ν (n2:Nat),ν (n3:Nat)]) (ν 2)).run prog w=.ok (ν (n2:Nat)) w:=fun _=>κ
  have ib3:∀ w,(Instr.index 37 (.agg #[ν (n0:Nat),ν (n1:Nat),ν (n2:Nat),ν (n3:Nat)]) (ν 3)).run prog w=.ok (ν (n3:Nat)) w:=fun _=>κ
  go_enter func121,ntmps121
  go_wp2_with fail
  go_loopw [8] (fun i wr=>∃ (j:Nat) (l:List Nat),j≤4∧i=ν j∧Blk wr (w.heap.size+1) 211 (FF l)∧Below w.heap.size w wr∧((j=0∧l=[])∨(j=1∧l=[n0]∧twC n0 []=false)∨(j=2∧l=[n1,n0]∧twC n0 []=false∧twC n1 [n0]=false)∨(j=3∧l=[n2,n1,n0]∧twC n0 []=false∧twC n1 [n0]=false∧twC n2 [n1,n0]=false)∨(j=4∧twC n0 []=false∧twC n1 [n0]=false∧twC n2 [n1,n0]=false∧twC n3 [n2,n1,n0]=false))) (fun i _=>4-(intOf i).toNat)
  case atStart=>exact ⟨0,[],ω,rfl,K0.out,B0.out,.inl ⟨rfl,rfl⟩⟩
  case round=>
  obtain ⟨j,l',hj,rfl,kb,bb,hrel⟩:=hrel
  clear K0 B0 hz
  rcases hrel with ⟨rfl,rfl⟩ | ⟨rfl,rfl,t0⟩ | ⟨rfl,rfl,t0,t1⟩ | ⟨rfl,rfl,t0,t1,t2⟩ | ⟨rfl,t0,t1,t2,t3⟩
  · skip
    rw [show ((0:Nat):Int)=0 from rfl]
    have kc:wr.cell? ⟨w.heap.size+1,n0,none⟩=some (.bool (decide (n0∈([]:List Nat)))):=by
      have q1:=kb.cell (i:=n0) (by rw [Dc];omega)
      have q2:=Ih [] n0 ω
      rw [List.getElem?_eq_getElem (by rw [Dc];omega)] at q2
      rw [q1,Option.some.inj q2]
    have hf:=kb.frozen n0
    have kb2:Hid (Blk (wr.setCell ⟨w.heap.size+1,n0,none⟩ (.bool true)) (w.heap.size+1) 211 (FF (n0::[]))):=kb.set n0 (.bool true)
    have bb2:=hid (bb.setCell (p:=⟨w.heap.size+1,n0,none⟩) (by show w.heap.size≤w.heap.size+1;omega) (.bool true))
    have hi:(n0:Int)<129:=ω
    have HC:Hid (twC n0 []=((n0 != 0)&&decide (n0∈([]:List Nat)))):=rfl
    have BB:=hid bb
    clear kb bb
    generalize decide (n0∈([]:List Nat))=dm at *
    by_cases hn:n0=0
    · have HT:Hid (twC n0 []=false):=by rw [HC.out,hn];rfl
      have hn':((n0:Int) != 0)=false:=by simp;omega
      clear HC hn
      go_wp2_with fail
      go_roundw
      case rel=>exact ⟨1,n0::[],ω,rfl,kb2.out,bb2.out,.inr (.inl ⟨rfl,rfl,HT.out⟩)⟩
      case measure=>simp [intOf]
    · have hn':((n0:Int) != 0)=true:=by simp;omega
      have hn2:(n0 != 0)=true:=by simp;omega
      cases dm
      · have HT:Hid (twC n0 []=false):=by rw [HC.out,Bool.and_false];exact rfl
        clear HC
        go_wp2_with fail
        go_roundw
        case rel=>exact ⟨1,n0::[],ω,rfl,kb2.out,bb2.out,.inr (.inl ⟨rfl,rfl,HT.out⟩)⟩
        case measure=>simp [intOf]
      · have HT:Hid (twC n0 []=true):=by rw [HC.out,hn2];rfl
        have HOK:Hid (M=true):=HMT.out (.inl HT.out)
        clear HC
        go_wp2_with fail
        go_ret
        exact ⟨by rw [HOK.out];rfl,BB.out⟩
  · skip
    have T0:=hid t0
    clear t0
    rw [show ((1:Nat):Int)=1 from rfl]
    have kc:wr.cell? ⟨w.heap.size+1,n1,none⟩=some (.bool (decide (n1∈([n0]:List Nat)))):=by
      have q1:=kb.cell (i:=n1) (by rw [Dc];omega)
      have q2:=Ih [n0] n1 ω
      rw [List.getElem?_eq_getElem (by rw [Dc];omega)] at q2
      rw [q1,Option.some.inj q2]
    have hf:=kb.frozen n1
    have kb2:Hid (Blk (wr.setCell ⟨w.heap.size+1,n1,none⟩ (.bool true)) (w.heap.size+1) 211 (FF (n1::[n0]))):=kb.set n1 (.bool true)
    have bb2:=hid (bb.setCell (p:=⟨w.heap.size+1,n1,none⟩) (by show w.heap.size≤w.heap.size+1;omega) (.bool true))
    have hi:(n1:Int)<129:=ω
    have HC:Hid (twC n1 [n0]=((n1 != 0)&&decide (n1∈([n0]:List Nat)))):=rfl
    have BB:=hid bb
    clear kb bb
    generalize decide (n1∈([n0]:List Nat))=dm at *
    by_cases hn:n1=0
    · have HT:Hid (twC n1 [n0]=false):=by rw [HC.out,hn];rfl
      have hn':((n1:Int) != 0)=false:=by simp;omega
      clear HC hn
      go_wp2_with fail
      go_roundw
      case rel=>exact ⟨2,n1::[n0],ω,rfl,kb2.out,bb2.out,.inr (.inr (.inl ⟨rfl,rfl,T0.out,HT.out⟩))⟩
      case measure=>simp [intOf]
    · have hn':((n1:Int) != 0)=true:=by simp;omega
      have hn2:(n1 != 0)=true:=by simp;omega
      cases dm
      · have HT:Hid (twC n1 [n0]=false):=by rw [HC.out,Bool.and_false];exact rfl
        clear HC
        go_wp2_with fail
        go_roundw
        case rel=>exact ⟨2,n1::[n0],ω,rfl,kb2.out,bb2.out,.inr (.inr (.inl ⟨rfl,rfl,T0.out,HT.out⟩))⟩
        case measure=>simp [intOf]
      · have HT:Hid (twC n1 [n0]=true):=by rw [HC.out,hn2];rfl
        have HOK:Hid (M=true):=HMT.out (.inr (.inl HT.out))
        clear HC
        go_wp2_with fail
        go_ret
        exact ⟨by rw [HOK.out];rfl,BB.out⟩
  · skip
    have T0:=hid t0
    clear t0
    have T1:=hid t1
    clear t1
    rw [show ((2:Nat):Int)=2 from rfl]
    have kc:wr.cell? ⟨w.heap.size+1,n2,none⟩=some (.bool (decide (n2∈([n1,n0]:List Nat)))):=by
      have q1:=kb.cell (i:=n2) (by rw [Dc];omega)
      have q2:=Ih [n1,n0] n2 ω
      rw [List.getElem?_eq_getElem (by rw [Dc];omega)] at q2
      rw [q1,Option.some.inj q2]
    have hf:=kb.frozen n2
    have kb2:Hid (Blk (wr.setCell ⟨w.heap.size+1,n2,none⟩ (.bool true)) (w.heap.size+1) 211 (FF (n2::[n1,n0]))):=kb.set n2 (.bool true)
    have bb2:=hid (bb.setCell (p:=⟨w.heap.size+1,n2,none⟩) (by show w.heap.size≤w.heap.size+1;omega) (.bool true))
    have hi:(n2:Int)<129:=ω
    have HC:Hid (twC n2 [n1,n0]=((n2 != 0)&&decide (n2∈([n1,n0]:List Nat)))):=rfl
    have BB:=hid bb
    clear kb bb
    generalize decide (n2∈([n1,n0]:List Nat))=dm at *
    by_cases hn:n2=0
    · have HT:Hid (twC n2 [n1,n0]=false):=by rw [HC.out,hn];rfl
      have hn':((n2:Int) != 0)=false:=by simp;omega
      clear HC hn
      go_wp2_with fail
      go_roundw
      case rel=>exact ⟨3,n2::[n1,n0],ω,rfl,kb2.out,bb2.out,.inr (.inr (.inr (.inl ⟨rfl,rfl,T0.out,T1.out,HT.out⟩)))⟩
      case measure=>simp [intOf]
    · have hn':((n2:Int) != 0)=true:=by simp;omega
      have hn2:(n2 != 0)=true:=by simp;omega
      cases dm
      · have HT:Hid (twC n2 [n1,n0]=false):=by rw [HC.out,Bool.and_false];exact rfl
        clear HC
        go_wp2_with fail
        go_roundw
        case rel=>exact ⟨3,n2::[n1,n0],ω,rfl,kb2.out,bb2.out,.inr (.inr (.inr (.inl ⟨rfl,rfl,T0.out,T1.out,HT.out⟩)))⟩
        case measure=>simp [intOf]
      · have HT:Hid (twC n2 [n1,n0]=true):=by rw [HC.out,hn2];rfl
        have HOK:Hid (M=true):=HMT.out (.inr (.inr (.inl HT.out)))
        clear HC
        go_wp2_with fail
        go_ret
        exact ⟨by rw [HOK.out];rfl,BB.out⟩
  · skip
    have T0:=hid t0
    clear t0
    have T1:=hid t1
    clear t1
    have T2:=hid t2
    clear t2
    rw [show ((3:Nat):Int)=3 from rfl]
    have kc:wr.cell? ⟨w.heap.size+1,n3,none⟩=some (.bool (decide (n3∈([n2,n1,n0]:List Nat)))):=by
      have q1:=kb.cell (i:=n3) (by rw [Dc];omega)
      have q2:=Ih [n2,n1,n0] n3 ω
      rw [List.getElem?_eq_getElem (by rw [Dc];omega)] at q2
      rw [q1,Option.some.inj q2]
    have hf:=kb.frozen n3
    have kb2:Hid (Blk (wr.setCell ⟨w.heap.size+1,n3,none⟩ (.bool true)) (w.heap.size+1) 211 (FF (n3::[n2,n1,n0]))):=kb.set n3 (.bool true)
    have bb2:=hid (bb.setCell (p:=⟨w.heap.size+1,n3,none⟩) (by show w.heap.size≤w.heap.size+1;omega) (.bool true))
    have hi:(n3:Int)<129:=ω
    have HC:Hid (twC n3 [n2,n1,n0]=((n3 != 0)&&decide (n3∈([n2,n1,n0]:List Nat)))):=rfl
    have BB:=hid bb
    clear kb bb
    generalize decide (n3∈([n2,n1,n0]:List Nat))=dm at *
    by_cases hn:n3=0
    · have HT:Hid (twC n3 [n2,n1,n0]=false):=by rw [HC.out,hn];rfl
      have hn':((n3:Int) != 0)=false:=by simp;omega
      clear HC hn
      go_wp2_with fail
      go_roundw
      case rel=>exact ⟨4,n3::[n2,n1,n0],ω,rfl,kb2.out,bb2.out,.inr (.inr (.inr (.inr (⟨rfl,T0.out,T1.out,T2.out,HT.out⟩))))⟩
      case measure=>simp [intOf]
    · have hn':((n3:Int) != 0)=true:=by simp;omega
      have hn2:(n3 != 0)=true:=by simp;omega
      cases dm
      · have HT:Hid (twC n3 [n2,n1,n0]=false):=by rw [HC.out,Bool.and_false];exact rfl
        clear HC
        go_wp2_with fail
        go_roundw
        case rel=>exact ⟨4,n3::[n2,n1,n0],ω,rfl,kb2.out,bb2.out,.inr (.inr (.inr (.inr (⟨rfl,T0.out,T1.out,T2.out,HT.out⟩))))⟩
        case measure=>simp [intOf]
      · have HT:Hid (twC n3 [n2,n1,n0]=true):=by rw [HC.out,hn2];rfl
        have HOK:Hid (M=true):=HMT.out (.inr (.inr (.inr (HT.out))))
        clear HC
        go_wp2_with fail
        go_ret
        exact ⟨by rw [HOK.out];rfl,BB.out⟩
  · rw [show ((4:Nat):Int)=4 from rfl]
    have HOK:Hid (M=false):=HMF.out ⟨t0,t1,t2,t3⟩
    have BB:=hid bb
    clear t0 t1 t2 t3 kb bb
    go_wp2_with fail
    go_ret
    exact ⟨by rw [HOK.out];rfl,BB.out⟩
end
section
open Go.RowKit Go.WideShapes
def OE (i:InoT):List Int:=[i.k,i.l,i.s,i.b0,i.b1,i.b2,i.b3,i.o0,i.o1,i.o2,i.o3,i.o4,i.o5,i.o6,i.o7]
def twI (i:InoT):Bool:=tw i.b0.toNat i.b1.toNat i.b2.toNat i.b3.toNat
def Fk (i:InoT):Bool:=
  if i.k=0 then decide (OE i=[0,0,0,0,0,0,0,0,0,0,0,0,0,0,0])
  else if i.k=1 then Es i&&!twI i
  else if i.k=2 then Kb i&&!twI i
  else false
theorem Ib {j n s:Int} (h:okB j n s=true):0≤n∧n≤128:=by
  unfold okB at h
  rw [Bool.and_eq_true] at h
  exact of_decide_eq_true h.2
theorem Jg {i:InoT} (h:Es i=true):(0≤i.b0∧i.b0≤128)∧(0≤i.b1∧i.b1≤128)∧(0≤i.b2∧i.b2≤128)∧(0≤i.b3∧i.b3≤128):=by
  unfold Es TT at h
  simp only [Bool.and_eq_true] at h
  obtain ⟨⟨_,⟨⟨h0,h1⟩,h2⟩,h3⟩,_⟩:=h
  exact ⟨Ib h0,Ib h1,Ib h2,Ib h3⟩
theorem Kv {i:InoT} (h:Kb i=true):(0≤i.b0∧i.b0≤128)∧(0≤i.b1∧i.b1≤128)∧(0≤i.b2∧i.b2≤128)∧(0≤i.b3∧i.b3≤128):=by
  unfold Kb at h
  simp only [Bool.and_eq_true] at h
  obtain ⟨_,⟨⟨h0,h1⟩,h2⟩,h3⟩:=h
  exact ⟨of_decide_eq_true h0,of_decide_eq_true h1,of_decide_eq_true h2,of_decide_eq_true h3⟩
theorem St (i:InoT) (w:World):Calls prog 97 #[FM i] w fun e w'=>e=.returned (.bool (Fk i))∧Below w.heap.size w w':=by
  by_cases hk0:i.k=0
  · have hM:Fk i=decide (OE i=[0,0,0,0,0,0,0,0,0,0,0,0,0,0,0]):=by unfold Fk;rw [if_pos hk0]
    rw [hM]
    obtain ⟨k,l,s,b0,b1,b2,b3,o0,o1,o2,o3,o4,o5,o6,o7⟩:=i
    have HB:Hid (Below w.heap.size w (w.alloc (.cells #[ν k,ν l,ν s,ν b0,ν b1,ν b2,ν b3,ν o0,ν o1,ν o2,ν o3,ν o4,ν o5,ν o6,ν o7] 40))):=(Below.refl w.heap.size w).alloc (Nat.le_refl _) _
    unfold FM AE
    have hk0:k=0:=hk0
    subst hk0
    have E:=Xm 0 l s b0 b1 b2 b3 o0 o1 o2 o3 o4 o5 o6 o7 0 0 0 0 0 0 0 0 0 0 0 0 0 0 0
    unfold OE
    clear hM
    obtain ⟨z,hz⟩:∃ z,decide ([0,l,s,b0,b1,b2,b3,o0,o1,o2,o3,o4,o5,o6,o7]=[0,0,0,0,0,0,0,0,0,0,0,0,0,0,0])=z:=⟨_,rfl⟩
    rw [hz] at E
    simp only at hz ⊢
    rw [hz]
    clear hz
    go_enter func97,ntmps97
    go_wp2_with fail
    go_ret
    exact ⟨rfl,HB.out⟩
  · by_cases hk1:i.k=1
    · have hM:Fk i=(Es i&&!twI i):=by unfold Fk;rw [if_neg hk0];rw [if_pos hk1]
      rw [hM]
      clear hM
      by_cases hF:Es i=true
      · obtain ⟨q0,q1,q2,q3⟩:=Jg hF
        have HC:=fun w1=>Kx i w1
        rw [hF] at HC ⊢
        obtain ⟨k,l,s,b0,b1,b2,b3,o0,o1,o2,o3,o4,o5,o6,o7⟩:=i
        simp only at q0 q1 q2 q3 hk1
        subst hk1
        obtain ⟨n0,rfl⟩:=Int.eq_ofNat_of_zero_le q0.1
        obtain ⟨n1,rfl⟩:=Int.eq_ofNat_of_zero_le q1.1
        obtain ⟨n2,rfl⟩:=Int.eq_ofNat_of_zero_le q2.1
        obtain ⟨n3,rfl⟩:=Int.eq_ofNat_of_zero_le q3.1
        have HT:=fun w1=>Ob 1 l s n0 n1 n2 n3 o0 o1 o2 o3 o4 o5 o6 o7 w1 ω ω ω ω
        have hT:twI ⟨1,l,s,n0,n1,n2,n3,o0,o1,o2,o3,o4,o5,o6,o7⟩=tw n0 n1 n2 n3:=rfl
        rw [hT]
        generalize tw n0 n1 n2 n3=t at *
        clear hT hF q0 q1 q2 q3
        unfold FM AE at *
        have HC:=hid HC;have HT:=hid HT
        have K0:Blk (w.alloc (.cells #[ν 1,ν l,ν s,ν (n0:Nat),ν (n1:Nat),ν (n2:Nat),ν (n3:Nat),ν o0,ν o1,ν o2,ν o3,ν o4,ν o5,ν o6,ν o7] 40)) w.heap.size 40 [ν 1,ν l,ν s,ν (n0:Nat),ν (n1:Nat),ν (n2:Nat),ν (n3:Nat),ν o0,ν o1,ν o2,ν o3,ν o4,ν o5,ν o6,ν o7]:=heap_alloc_new w _
        have HB:Hid (Below w.heap.size w (w.alloc (.cells #[ν 1,ν l,ν s,ν (n0:Nat),ν (n1:Nat),ν (n2:Nat),ν (n3:Nat),ν o0,ν o1,ν o2,ν o3,ν o4,ν o5,ν o6,ν o7] 40))):=(Below.refl w.heap.size w).alloc (Nat.le_refl _) _
        have KH:=hid K0
        clear K0
        go_enter func97,ntmps97
        go_wp2_with (first
          | (go_at_call 120;refine (HC.out _).mono ?_;rintro e w4 ⟨rfl,b4⟩;have k4:=KH.out.mono b4;have B4:=hid (Ac HB.out b4)
             have z0:w4.cell? ⟨w.heap.size,0,none⟩=some (ν 1):=Blk.cell k4 (i:=0) (by simp)
             have z1:w4.cell? ⟨w.heap.size,1,none⟩=some (ν l):=Blk.cell k4 (i:=1) (by simp)
             have z2:w4.cell? ⟨w.heap.size,2,none⟩=some (ν s):=Blk.cell k4 (i:=2) (by simp)
             have z3:w4.cell? ⟨w.heap.size,3,none⟩=some (ν (n0:Nat)):=Blk.cell k4 (i:=3) (by simp)
             have z4:w4.cell? ⟨w.heap.size,4,none⟩=some (ν (n1:Nat)):=Blk.cell k4 (i:=4) (by simp)
             have z5:w4.cell? ⟨w.heap.size,5,none⟩=some (ν (n2:Nat)):=Blk.cell k4 (i:=5) (by simp)
             have z6:w4.cell? ⟨w.heap.size,6,none⟩=some (ν (n3:Nat)):=Blk.cell k4 (i:=6) (by simp)
             have z7:w4.cell? ⟨w.heap.size,7,none⟩=some (ν o0):=Blk.cell k4 (i:=7) (by simp)
             have z8:w4.cell? ⟨w.heap.size,8,none⟩=some (ν o1):=Blk.cell k4 (i:=8) (by simp)
             have z9:w4.cell? ⟨w.heap.size,9,none⟩=some (ν o2):=Blk.cell k4 (i:=9) (by simp)
             have z10:w4.cell? ⟨w.heap.size,10,none⟩=some (ν o3):=Blk.cell k4 (i:=10) (by simp)
             have z11:w4.cell? ⟨w.heap.size,11,none⟩=some (ν o4):=Blk.cell k4 (i:=11) (by simp)
             have z12:w4.cell? ⟨w.heap.size,12,none⟩=some (ν o5):=Blk.cell k4 (i:=12) (by simp)
             have z13:w4.cell? ⟨w.heap.size,13,none⟩=some (ν o6):=Blk.cell k4 (i:=13) (by simp)
             have z14:w4.cell? ⟨w.heap.size,14,none⟩=some (ν o7):=Blk.cell k4 (i:=14) (by simp)
             clear k4 b4)
          | (go_at_call 121;refine (HT.out _).mono ?_;rintro e w5 ⟨rfl,b5⟩;have B5:=hid (Ac B4.out b5);clear b5))
        go_ret
        exact ⟨by first | rfl | (simp;rfl),B5.out⟩
      · have hF:Es i=false:=by simpa using hF
        have HC:=fun w1=>Kx i w1
        rw [hF] at HC ⊢
        obtain ⟨k,l,s,b0,b1,b2,b3,o0,o1,o2,o3,o4,o5,o6,o7⟩:=i
        simp only at hk1
        subst hk1
        generalize twI _=t at *
        clear hF
        unfold FM AE at *
        have HC:=hid HC
        have HB:Hid (Below w.heap.size w (w.alloc (.cells #[ν 1,ν l,ν s,ν b0,ν b1,ν b2,ν b3,ν o0,ν o1,ν o2,ν o3,ν o4,ν o5,ν o6,ν o7] 40))):=(Below.refl w.heap.size w).alloc (Nat.le_refl _) _
        go_enter func97,ntmps97
        go_wp2_with (go_at_call 120;refine (HC.out _).mono ?_;rintro e w4 ⟨rfl,b4⟩;have B4:=hid (Ac HB.out b4);clear b4)
        go_ret
        exact ⟨by first | rfl | (simp;rfl),B4.out⟩
    · by_cases hk2:i.k=2
      · have hM:Fk i=(Kb i&&!twI i):=by unfold Fk;rw [if_neg hk0,if_neg hk1];rw [if_pos hk2]
        rw [hM]
        clear hM
        by_cases hF:Kb i=true
        · obtain ⟨q0,q1,q2,q3⟩:=Kv hF
          have HC:=fun w1=>LR i w1
          rw [hF] at HC ⊢
          obtain ⟨k,l,s,b0,b1,b2,b3,o0,o1,o2,o3,o4,o5,o6,o7⟩:=i
          simp only at q0 q1 q2 q3 hk2
          subst hk2
          obtain ⟨n0,rfl⟩:=Int.eq_ofNat_of_zero_le q0.1
          obtain ⟨n1,rfl⟩:=Int.eq_ofNat_of_zero_le q1.1
          obtain ⟨n2,rfl⟩:=Int.eq_ofNat_of_zero_le q2.1
          obtain ⟨n3,rfl⟩:=Int.eq_ofNat_of_zero_le q3.1
          have HT:=fun w1=>Ob 2 l s n0 n1 n2 n3 o0 o1 o2 o3 o4 o5 o6 o7 w1 ω ω ω ω
          have hT:twI ⟨2,l,s,n0,n1,n2,n3,o0,o1,o2,o3,o4,o5,o6,o7⟩=tw n0 n1 n2 n3:=rfl
          rw [hT]
          generalize tw n0 n1 n2 n3=t at *
          clear hT hF q0 q1 q2 q3
          unfold FM AE at *
          have HC:=hid HC;have HT:=hid HT
          have K0:Blk (w.alloc (.cells #[ν 2,ν l,ν s,ν (n0:Nat),ν (n1:Nat),ν (n2:Nat),ν (n3:Nat),ν o0,ν o1,ν o2,ν o3,ν o4,ν o5,ν o6,ν o7] 40)) w.heap.size 40 [ν 2,ν l,ν s,ν (n0:Nat),ν (n1:Nat),ν (n2:Nat),ν (n3:Nat),ν o0,ν o1,ν o2,ν o3,ν o4,ν o5,ν o6,ν o7]:=heap_alloc_new w _
          have HB:Hid (Below w.heap.size w (w.alloc (.cells #[ν 2,ν l,ν s,ν (n0:Nat),ν (n1:Nat),ν (n2:Nat),ν (n3:Nat),ν o0,ν o1,ν o2,ν o3,ν o4,ν o5,ν o6,ν o7] 40))):=(Below.refl w.heap.size w).alloc (Nat.le_refl _) _
          have KH:=hid K0
          clear K0
          go_enter func97,ntmps97
          go_wp2_with (first
            | (go_at_call 122;refine (HC.out _).mono ?_;rintro e w4 ⟨rfl,b4⟩;have k4:=KH.out.mono b4;have B4:=hid (Ac HB.out b4)
               have z0:w4.cell? ⟨w.heap.size,0,none⟩=some (ν 2):=Blk.cell k4 (i:=0) (by simp)
               have z1:w4.cell? ⟨w.heap.size,1,none⟩=some (ν l):=Blk.cell k4 (i:=1) (by simp)
               have z2:w4.cell? ⟨w.heap.size,2,none⟩=some (ν s):=Blk.cell k4 (i:=2) (by simp)
               have z3:w4.cell? ⟨w.heap.size,3,none⟩=some (ν (n0:Nat)):=Blk.cell k4 (i:=3) (by simp)
               have z4:w4.cell? ⟨w.heap.size,4,none⟩=some (ν (n1:Nat)):=Blk.cell k4 (i:=4) (by simp)
               have z5:w4.cell? ⟨w.heap.size,5,none⟩=some (ν (n2:Nat)):=Blk.cell k4 (i:=5) (by simp)
               have z6:w4.cell? ⟨w.heap.size,6,none⟩=some (ν (n3:Nat)):=Blk.cell k4 (i:=6) (by simp)
               have z7:w4.cell? ⟨w.heap.size,7,none⟩=some (ν o0):=Blk.cell k4 (i:=7) (by simp)
               have z8:w4.cell? ⟨w.heap.size,8,none⟩=some (ν o1):=Blk.cell k4 (i:=8) (by simp)
               have z9:w4.cell? ⟨w.heap.size,9,none⟩=some (ν o2):=Blk.cell k4 (i:=9) (by simp)
               have z10:w4.cell? ⟨w.heap.size,10,none⟩=some (ν o3):=Blk.cell k4 (i:=10) (by simp)
               have z11:w4.cell? ⟨w.heap.size,11,none⟩=some (ν o4):=Blk.cell k4 (i:=11) (by simp)
               have z12:w4.cell? ⟨w.heap.size,12,none⟩=some (ν o5):=Blk.cell k4 (i:=12) (by simp)
               have z13:w4.cell? ⟨w.heap.size,13,none⟩=some (ν o6):=Blk.cell k4 (i:=13) (by simp)
               have z14:w4.cell? ⟨w.heap.size,14,none⟩=some (ν o7):=Blk.cell k4 (i:=14) (by simp)
               clear k4 b4)
            | (go_at_call 121;refine (HT.out _).mono ?_;rintro e w5 ⟨rfl,b5⟩;have B5:=hid (Ac B4.out b5);clear b5))
          go_ret
          exact ⟨by first | rfl | (simp;rfl),B5.out⟩
        · have hF:Kb i=false:=by simpa using hF
          have HC:=fun w1=>LR i w1
          rw [hF] at HC ⊢
          obtain ⟨k,l,s,b0,b1,b2,b3,o0,o1,o2,o3,o4,o5,o6,o7⟩:=i
          simp only at hk2
          subst hk2
          generalize twI _=t at *
          clear hF
          unfold FM AE at *
          have HC:=hid HC
          have HB:Hid (Below w.heap.size w (w.alloc (.cells #[ν 2,ν l,ν s,ν b0,ν b1,ν b2,ν b3,ν o0,ν o1,ν o2,ν o3,ν o4,ν o5,ν o6,ν o7] 40))):=(Below.refl w.heap.size w).alloc (Nat.le_refl _) _
          go_enter func97,ntmps97
          go_wp2_with (go_at_call 122;refine (HC.out _).mono ?_;rintro e w4 ⟨rfl,b4⟩;have B4:=hid (Ac HB.out b4);clear b4)
          go_ret
          exact ⟨by first | rfl | (simp;rfl),B4.out⟩
      · have hM:Fk i=false:=by unfold Fk;rw [if_neg hk0,if_neg hk1,if_neg hk2]
        rw [hM]
        clear hM
        obtain ⟨k,l,s,b0,b1,b2,b3,o0,o1,o2,o3,o4,o5,o6,o7⟩:=i
        have HB:Hid (Below w.heap.size w (w.alloc (.cells #[ν k,ν l,ν s,ν b0,ν b1,ν b2,ν b3,ν o0,ν o1,ν o2,ν o3,ν o4,ν o5,ν o6,ν o7] 40))):=(Below.refl w.heap.size w).alloc (Nat.le_refl _) _
        unfold FM AE
        simp only at hk0 hk1 hk2
        have e0:(k == 0)=false:=by simpa using hk0
        have e1:(k == 1)=false:=by simpa using hk1
        have e2:(k == 2)=false:=by simpa using hk2
        clear hk0 hk1 hk2
        go_enter func97,ntmps97
        go_wp2_with fail
        go_ret
        exact ⟨rfl,HB.out⟩
end
section
open Go.RowKit Go.WideShapes
theorem Ael:ElemT prog 161 3 1 8:=Lv υ161 (z:=ν 0) κ rfl ω
theorem XN (xs:List Int):∀ u∈xs.map iV,u.oneCell'=true:=by
  intro u hu
  obtain ⟨x,_,rfl⟩:=List.mem_map.1 hu
  rfl
theorem Own.cut0 {w:World} {B:Nat} {e:TypeId} {sz n c:Nat} {a:Ω} {cs:List Value} (h:Own w B e sz a n c cs) (hn:0<n):Own w B e sz a 0 c []:=by
  obtain ⟨h0,h⟩:=h
  rcases h with ⟨hv,hz⟩ | ⟨g',cap,cur,hv,hg,hh,h1,h2,h3,h4⟩
  · omega
  · cases hv
    exact ⟨by simp,.inr ⟨g',c,cur,rfl,hg,hh,Nat.zero_le _,h2,h3,by simp⟩⟩
theorem VE {w:World} {B:Nat} {e:TypeId} {sz n c:Nat} {a:Ω} {cs:List Value} (h:Own w B e sz a n c cs) (hn:0<n):∃ g,a=some ⟨g,0,none⟩:=by
  obtain ⟨h0,h⟩:=h
  rcases h with ⟨hv,hz⟩ | ⟨g',cap,cur,hv,_⟩
  · omega
  · cases hv;exact ⟨g',rfl⟩
theorem Ac7 (w:World):Calls prog 123 #[.slice none 0 0,ν 12] w fun e w'=>∃ a c,e=.returned (.slice a 0 c)∧Own w' w.heap.size 3 1 a 0 c []∧Below w.heap.size w w':=by
  have t1:True:=trivial
  go_enter func123,ntmps123
  go_wp2_with (at_builtin;have _t:=t1;refine De rfl (.tmp 20) (.tmp 21) rfl υ161 υ3 (z:=ν 0) (bytes:=8) κ rfl rfl w.heap.size (k:=12) rfl rfl rfl (Own.nil _ _ _ _) ω ω (Nat.le_refl _) ?_;clear t1;intro a7 c7 w7 o7 g7 b7;have hc7:=o7.row.2.1;have O7:=hid (o7.cut0 ω);obtain ⟨g8,rfl⟩:=VE o7 ω;have HB7:=hid b7;clear b7 o7 g7)
  go_ret
  exact ⟨_,_,rfl,O7.out,HB7.out⟩
theorem Ry (g:Nat) (A B:List Int) (aA aB:Ω) (cA cB:Nat) (w:World) (hA:A.length=4) (hB:B.length=8) (hg:g<w.heap.size)
    (k0:w.cell? ⟨g,0,none⟩=some (.slice aA 4 cA)) (k1:w.cell? ⟨g,1,none⟩=some (.slice aB 8 cB)) (rA:Oi w aA cA A) (rB:Oi w aB cB B) :
    Calls prog 98 #[.slice (some ⟨g,0,none⟩) 2 2] w fun e w'=>∃ a c,e=.returned (.slice a 12 c)∧Own w' w.heap.size 3 1 a 12 c ((A++B).map iV)∧Below w.heap.size w w':=by
  have HK0:=hid k0;have HK1:=hid k1;have RA:=hid rA;have RB:=hid rB;have LA:=hid hA;have LB:=hid hB
  clear rA rB hA hB
  go_enter func98,ntmps98
  go_wp2_with fail
  go_loopw [3,11] (fun s i wr=>∃ j:Nat,j≤2∧i=ν j∧((j=0∧s=ν 0)∨(j=1∧s=ν 4)∨(j=2∧s=ν 12))∧wr=w) (fun _ i _=>2-(intOf i).toNat)
  case atStart=>exact ⟨0,ω,rfl,.inl ⟨rfl,rfl⟩,rfl⟩
  case round=>
  obtain ⟨j,hj,rfl,hs,rfl⟩:=hrel
  rcases hs with ⟨rfl,rfl⟩ | ⟨rfl,rfl⟩ | ⟨rfl,rfl⟩
  · rw [show ((0:Nat):Int)=0 from rfl]
    go_wp2_with fail
    go_roundw
    case rel=>exact ⟨1,ω,rfl,.inr (.inl ⟨rfl,rfl⟩),by first | rfl | trivial⟩
    case measure=>simp [intOf]
  · rw [show ((1:Nat):Int)=1 from rfl]
    go_wp2_with fail
    go_roundw
    case rel=>exact ⟨2,ω,rfl,.inr (.inr ⟨rfl,rfl⟩),by first | rfl | trivial⟩
    case measure=>simp [intOf]
  · rw [show ((2:Nat):Int)=2 from rfl]
    obtain ⟨wo,hwo⟩:∃ x,x=wr:=⟨_,rfl⟩
    subst hwo
    go_wp2_with (go_at_call 123;refine (Ac7 _).mono ?_;rintro e w4 ⟨a4,c4,rfl,o4,b4⟩;have O4:=hid o4;have B4:=hid b4;clear o4 b4)
    go_loopw [6,27] (fun s i wr=>∃ (j n c:Nat) (a:Ω) (Z:List Int),j≤2∧i=ν j∧s=.slice a n c∧Own wr wo.heap.size 3 1 a n c (Z.map iV)∧Below wo.heap.size wo wr∧((j=0∧n=0∧Z=[])∨(j=1∧n=4∧Z=A)∨(j=2∧n=12∧Z=A++B))) (fun _ i _=>2-(intOf i).toNat)
    case atStart=>exact ⟨0,0,c4,a4,[],ω,rfl,rfl,O4.out,B4.out,.inl ⟨rfl,rfl,rfl⟩⟩
    case round=>
    obtain ⟨j,n,c,a,Z,hj2,rfl,rfl,oz,bz,hs⟩:=hrel
    have OZ:=hid oz;have BZ:=hid bz
    have kk0:=(bz.cell (p:=⟨g,0,none⟩) hg).trans HK0.out
    have kk1:=(bz.cell (p:=⟨g,1,none⟩) hg).trans HK1.out
    have t1:True:=trivial
    clear oz bz k0 k1
    rcases hs with ⟨rfl,rfl,rfl⟩ | ⟨rfl,rfl,rfl⟩ | ⟨rfl,rfl,rfl⟩
    · rw [show ((0:Nat):Int)=0 from rfl]
      have RR:Hid (Row wr 1 aA 4 cA (A.map iV)):=by have q:=RA.out.mono BZ.out;unfold Oi at q;rw [LA.out] at q;exact q
      go_wp2_with (at_builtin;have _t:=t1;refine CA rfl (.tmp 31) (.tmp 32) rfl Ael wo.heap.size rfl rfl OZ.out RR.out (XN A) ω ω BZ.out.size ?_;clear t1;intro a6 c6 w6 o6 g6 b6;have O6:=hid o6;have B6:=hid (Av BZ.out b6 (Nat.le_refl _));clear o6 g6 b6)
      go_roundw
      case rel=>exact ⟨1,4,c6,a6,A,ω,rfl,rfl,O6.out,B6.out,.inr (.inl ⟨rfl,rfl,rfl⟩)⟩
      case measure=>simp [intOf]
    · rw [show ((1:Nat):Int)=1 from rfl]
      have RR:Hid (Row wr 1 aB 8 cB (B.map iV)):=by have q:=RB.out.mono BZ.out;unfold Oi at q;rw [LB.out] at q;exact q
      go_wp2_with (at_builtin;have _t:=t1;refine CA rfl (.tmp 31) (.tmp 32) rfl Ael wo.heap.size rfl rfl OZ.out RR.out (XN B) ω ω BZ.out.size ?_;clear t1;intro a6 c6 w6 o6 g6 b6;have O6:=hid o6;have B6:=hid (Av BZ.out b6 (Nat.le_refl _));clear o6 g6 b6)
      go_roundw
      case rel=>exact ⟨2,12,c6,a6,Z++B,ω,rfl,rfl,by rw [List.map_append];exact O6.out,B6.out,.inr (.inr ⟨rfl,rfl,rfl⟩)⟩
      case measure=>simp [intOf]
    · rw [show ((2:Nat):Int)=2 from rfl]
      go_wp2_with fail
      go_ret
      exact ⟨_,_,rfl,OZ.out,BZ.out⟩
end
section
def Fx (l:Λ):Λ:=l++List.replicate (60-l.length) 0
def DW (l:Λ):Λ:=Fx l++le 4 (Cb (Fx l))
theorem CH {l:Λ} (h:l.length≤60):(Fx l).length=60:=by simp [Fx];omega
theorem EX {l:Λ} (h:l.length≤60):(DW l).length=64:=by simp [DW,CH h,Ay]
def btw (n m:Int):Bool:=decide (0≤n)&&decide (n≤m)
theorem Aex {n m:Int} (h:0≤n∧n≤m):btw n m=true:=by simp [btw,h]
theorem Aew {n m:Int} (h:n<0∨m<n):btw n m=false:=by simp [btw];omega
theorem GQ (n m:Int) (w:World) :
    Calls prog 88 #[ν n,ν m] w fun e w'=>e=.returned (.bool (btw n m))∧w=w':=by
  by_cases h0:0≤n
  · go_enter func88,ntmps88;go_wp2;go_ret;exact ⟨AR (by simp [btw,h0]),rfl⟩
  · go_enter func88,ntmps88;go_wp2;go_ret;exact ⟨AR (by simp [btw];omega),rfl⟩
def Kc (e h r er i wr:Int):Bool:=decide (0≤e∧e≤1073741824∧0≤h∧h≤1024∧0≤r∧r≤1099511627776∧0≤wr∧wr≤1099511627776∧0≤er∧er≤255∧0≤i∧i≤32)
def NW (e h r er i wr:Int):Value:=.agg #[ν e,ν h,ν r,ν er,ν i,ν wr]
theorem Vv (e h r er i wr:Int) :
    e<0∨(0≤e∧1073741824<e)∨(0≤e∧e≤1073741824∧h<0)∨(0≤e∧e≤1073741824∧0≤h∧1024<h) ∨
    (0≤e∧e≤1073741824∧0≤h∧h≤1024∧r<0)∨(0≤e∧e≤1073741824∧0≤h∧h≤1024∧0≤r∧1099511627776<r) ∨
    (0≤e∧e≤1073741824∧0≤h∧h≤1024∧0≤r∧r≤1099511627776∧wr<0)∨(0≤e∧e≤1073741824∧0≤h∧h≤1024∧0≤r∧r≤1099511627776∧0≤wr∧1099511627776<wr) ∨
    (0≤e∧e≤1073741824∧0≤h∧h≤1024∧0≤r∧r≤1099511627776∧0≤wr∧wr≤1099511627776∧er<0)∨(0≤e∧e≤1073741824∧0≤h∧h≤1024∧0≤r∧r≤1099511627776∧0≤wr∧wr≤1099511627776∧0≤er∧255<er) ∨
    (0≤e∧e≤1073741824∧0≤h∧h≤1024∧0≤r∧r≤1099511627776∧0≤wr∧wr≤1099511627776∧0≤er∧er≤255∧i<0)∨(0≤e∧e≤1073741824∧0≤h∧h≤1024∧0≤r∧r≤1099511627776∧0≤wr∧wr≤1099511627776∧0≤er∧er≤255∧0≤i∧32<i) ∨
    (0≤e∧e≤1073741824∧0≤h∧h≤1024∧0≤r∧r≤1099511627776∧0≤wr∧wr≤1099511627776∧0≤er∧er≤255∧0≤i∧i≤32):=by
  rcases Int.lt_or_le e 0 with a1 | a1
  · exact .inl a1
  refine .inr ?_
  rcases Int.lt_or_le 1073741824 e with a2 | a2
  · exact .inl ⟨a1,a2⟩
  refine .inr ?_
  rcases Int.lt_or_le h 0 with a3 | a3
  · exact .inl ⟨a1,a2,a3⟩
  refine .inr ?_
  rcases Int.lt_or_le 1024 h with a4 | a4
  · exact .inl ⟨a1,a2,a3,a4⟩
  refine .inr ?_
  rcases Int.lt_or_le r 0 with a5 | a5
  · exact .inl ⟨a1,a2,a3,a4,a5⟩
  refine .inr ?_
  rcases Int.lt_or_le 1099511627776 r with a6 | a6
  · exact .inl ⟨a1,a2,a3,a4,a5,a6⟩
  refine .inr ?_
  rcases Int.lt_or_le wr 0 with a7 | a7
  · exact .inl ⟨a1,a2,a3,a4,a5,a6,a7⟩
  refine .inr ?_
  rcases Int.lt_or_le 1099511627776 wr with a8 | a8
  · exact .inl ⟨a1,a2,a3,a4,a5,a6,a7,a8⟩
  refine .inr ?_
  rcases Int.lt_or_le er 0 with a9 | a9
  · exact .inl ⟨a1,a2,a3,a4,a5,a6,a7,a8,a9⟩
  refine .inr ?_
  rcases Int.lt_or_le 255 er with a10 | a10
  · exact .inl ⟨a1,a2,a3,a4,a5,a6,a7,a8,a9,a10⟩
  refine .inr ?_
  rcases Int.lt_or_le i 0 with a11 | a11
  · exact .inl ⟨a1,a2,a3,a4,a5,a6,a7,a8,a9,a10,a11⟩
  refine .inr ?_
  rcases Int.lt_or_le 32 i with a12 | a12
  · exact .inl ⟨a1,a2,a3,a4,a5,a6,a7,a8,a9,a10,a11,a12⟩
  exact .inr ⟨a1,a2,a3,a4,a5,a6,a7,a8,a9,a10,a11,a12⟩
theorem Aaq (e h r er i wr:Int) (w:World) :
    Calls prog 86 #[NW e h r er i wr] w fun en w'=>en=.returned (.bool (Kc e h r er i wr))∧Below w.heap.size w w':=by
  unfold NW
  rcases Vv e h r er i wr with a1 | ⟨a1,a2⟩ | ⟨a1,a2,a3⟩ | ⟨a1,a2,a3,a4⟩ | ⟨a1,a2,a3,a4,a5⟩ | ⟨a1,a2,a3,a4,a5,a6⟩ | ⟨a1,a2,a3,a4,a5,a6,a7⟩ | ⟨a1,a2,a3,a4,a5,a6,a7,a8⟩ | ⟨a1,a2,a3,a4,a5,a6,a7,a8,a9⟩ | ⟨a1,a2,a3,a4,a5,a6,a7,a8,a9,a10⟩ | ⟨a1,a2,a3,a4,a5,a6,a7,a8,a9,a10,a11⟩ | ⟨a1,a2,a3,a4,a5,a6,a7,a8,a9,a10,a11,a12⟩ | ⟨a1,a2,a3,a4,a5,a6,a7,a8,a9,a10,a11,a12⟩
  all_goals
    go_enter func86,ntmps86
    repeat (go_wp2_with fail;refine (GQ _ _ _).mono ?_;rintro en w' ⟨rfl,rfl⟩;first | rw [Aex ω] | rw [Aew ω])
    go_wp2_with fail
    go_ret
    refine ⟨AR ?_,(Below.refl _ _).alloc (Nat.le_refl _) _⟩
    first | exact (decide_eq_false ω).symm | exact (decide_eq_true ω).symm | (rw [decide_eq_true (ω:i≤32)];exact (decide_eq_true ω).symm) | (rw [decide_eq_false (ω:¬ i≤32)];exact (decide_eq_false ω).symm)
end
section
def Cx (fs:List (Int×Int)):List Value:=fs.flatMap fun f=>[ν f.1,ν f.2]
theorem IY (fs:List (Int×Int)):(Cx fs).length=fs.length*2:=by
  induction fs with
  | nil=>rfl
  | cons f fs ih=>simp only [Cx,List.flatMap_cons,List.length_append,List.length_cons] at *;simp at *;omega
theorem Io {fs:List (Int×Int)} {j:Nat} {f:Int×Int} (h:fs[j]? = some f):(Cx fs)[j*2]? = some (ν f.1)∧(Cx fs)[j*2+1]? = some (ν f.2):=by
  induction fs generalizing j with
  | nil=>simp at h
  | cons g fs ih=>
    cases j with
    | zero=>simp at h;subst h;simp [Cx]
    | succ j=>
      have h':fs[j]? = some f:=by simpa using h
      have:=ih h'
      rw [show (j+1)*2=j*2+1+1 from ω]
      simpa [Cx] using this
def BQ (text:Λ) (fs:List (Int×Int)):Λ:=fs.foldl (fun b f=>Ar b f.1 f.2) text
theorem Mm (xs:Λ) (n k:Int):(Ar xs n k).length≤xs.length+8:=by
  unfold Ar
  split
  · next h=>have:=GY h;simp [Ay];omega
  · omega
theorem Dr (xs:Λ) (fs:List (Int×Int)):(BQ xs fs).length≤xs.length+8*fs.length:=by
  induction fs generalizing xs with
  | nil=>simp [BQ]
  | cons f fs ih=>
    have h1:=ih (Ar xs f.1 f.2)
    have h2:=Mm xs f.1 f.2
    simp only [BQ,List.foldl_cons,List.length_cons] at *
    omega
theorem LQ (s:ByteArray) (cap:Nat):bytesRow s cap=((s.data.toList.map Ad)++List.replicate (cap-s.size) (Value.int .u8 0)).toArray:=by
  apply Array.ext'
  simp [bytesRow,Ad]
theorem Nc (w:World) (s:ByteArray) (hs:s.size≤1000) :
    RowB (w.alloc (.cells (bytesRow s (grownCap w s.size 0 5)) 5 ((bytesRow s (grownCap w s.size 0 5)).size,(bytesRow s (grownCap w s.size 0 5)).size+1))).drew (some ⟨w.heap.size,0,none⟩) (grownCap w s.size 0 5) s.data.toList:=by
  have hlen:s.data.toList.length=s.size:=by simp
  have hge:=grownCap_ge w s.size 0 5
  have hcm:grownCap w s.size 0 5≤maxLen:=grownCap_le_maxLen w s.size 0 5 (by unfold maxLen;omega)
  refine Row.drew (w:=w.alloc _) ⟨by simp,ω,hcm,(fun h=>by cases h),fun _=>⟨w.heap.size,0,rfl,by simp,fun j u hu=>?_⟩⟩
  have hh:=heap_alloc_new w (.cells (bytesRow s (grownCap w s.size 0 5)) 5 ((bytesRow s (grownCap w s.size 0 5)).size,(bytesRow s (grownCap w s.size 0 5)).size+1))
  unfold World.cell?
  rw [show (⟨w.heap.size,0+j,none⟩:Addr).block=w.heap.size from rfl,hh]
  have hj:=(List.getElem?_eq_some_iff.1 hu).1
  simp only [Nat.zero_add,Option.isSome_none,Bool.false_eq_true,if_false]
  rw [LQ]
  rw [List.getElem?_toArray,List.getElem?_append_left hj]
  exact hu
theorem VH {B:Λ} (h:B.length≤60):B.map Ad++List.replicate (60-B.length) (.int .u8 0)=(Fx B).map Ad:=by
  simp [Fx,Ad]
theorem Ae4 {z:Nat} (h:z<4294967296):Bp (z:Int) 4=true:=by
  unfold Bp
  simp;omega
theorem Un (l:Λ):Ar l (Cb l:Nat) 4=l++le 4 (Cb l):=by
  unfold Ar
  rw [if_pos (Ae4 (DM l))]
  simp
theorem Aa5 {B:Λ} (h:B.length≤60):B.length+(60-B.length)=(Fx B).length:=by rw [CH h];omega
theorem Aa6 {w:World} {g:Nat} {a:Ω} {c:Nat} {B:Λ} (h:B.length≤60) (o:Own w g 5 1 a (B.length+(60-B.length)) c (B.map Ad++List.replicate (60-B.length) (.int .u8 0))) :
    RowB w a c (Fx B):=by
  rw [VH h] at o
  have:=o.row
  rwa [show B.length+(60-B.length)=(Fx B).length from by rw [CH h];omega] at this
theorem QX (s:ByteArray) (a:Ω) (c:Nat) (fs:List (Int×Int)) (w:World) (hs:s.size≤60) (hf:Row w 2 a fs.length c (Cx fs)) (hn:fs.length≤20) (hpos:0<fs.length) (h9:∀ f∈fs,f.1≤9223372036854775807)
    (h60:(BQ s.data.toList fs).length≤60) :
    Calls prog 87 #[.string s,.slice a fs.length c] w (UC w (DW (BQ s.data.toList fs))):=by
  have kc:=fun w:World=>run_bytes_of_string (P:=prog) w 9 22 5 s υ9 υ22 υ5
  have hlen:s.data.toList.length=s.size:=by simp
  have r0:=Nc w s ω
  have b0:Below w.heap.size w (w.alloc (.cells (bytesRow s (grownCap w s.size 0 5)) 5 ((bytesRow s (grownCap w s.size 0 5)).size,(bytesRow s (grownCap w s.size 0 5)).size+1))).drew:=((Below.refl _ w).alloc (Nat.le_refl _) _).drew
  go_enter func87,ntmps87
  go_wp2
  clear kc
  rw [← hlen] at r0 b0 ⊢
  generalize hcap:grownCap w s.data.toList.length 0 5=cap0 at *
  clear hcap
  generalize World.drew _=w1 at *
  have hfl:=hf.1
  have HF60:=hid h60;have HF9:=hid h9;clear h60 h9
  generalize htx:s.data.toList=tx at *
  have htl:tx.length≤60:=ω
  clear htx hlen
  have t1:True:=trivial
  go_loopw [5,12] (fun b i wr=>∃ (j:Nat) (a':Ω) (c':Nat),j≤fs.length∧i=ν j∧b=.slice a' (BQ tx (fs.take j)).length c'∧RowB wr a' c' (BQ tx (fs.take j))∧(0<j→CF wr w.heap.size a' c' (BQ tx (fs.take j)))∧Below w.heap.size w wr)
    (fun _ i _=>fs.length-(intOf i).toNat)
  case atStart=>exact ⟨0,_,_,ω,rfl,rfl,r0,fun h=>absurd h ω,b0⟩
  case round=>
    obtain ⟨j,a',c',hj,rfl,rfl,hr,ho,hb⟩:=hrel
    by_cases hlt:j<fs.length
    · obtain ⟨f,hfj⟩:∃ f,fs[j]? = some f:=⟨_,List.getElem?_eq_getElem hlt⟩
      obtain ⟨b,off,rfl,hbl,hc⟩:=(hf.mono hb).at ω
      have c0:=hc (j*2) _ (Io hfj).1
      have c1:=hc (j*2+1) _ (Io hfj).2
      rw [← Nat.add_assoc] at c1
      have hx:BQ tx (fs.take (j+1))=Ar (BQ tx (fs.take j)) f.1 f.2:=by
        unfold BQ
        rw [List.take_add_one,hfj]
        simp [List.foldl_append]
      have HX:=hid hx;clear hx
      have h9:=HF9.out f (List.mem_of_getElem? hfj)
      clear hc hfj
      have hl60:(BQ tx (fs.take j)).length≤70368744177664:=by
        have h1:=Dr tx (fs.take j)
        have h2:(fs.take j).length≤20:=by simp;omega
        omega
      go_wp2_with fail
      refine (DU a' c' _ f.1 f.2 _ (hr.alloc _) hl60 h9).mono ?_
      have hsz:=hb.size
      rintro e w2 ⟨a2,c2,rfl,o2,b2⟩
      go_wp2_with fail
      go_roundw
      case rel=>exact ⟨j+1,a2,c2,ω,by go_num,by rw [HX.out],by rw [HX.out];exact o2.row,fun _=>by rw [HX.out];exact o2.low (Nat.le_trans hsz (by simp)),Av (hb.alloc hsz _) b2 (Nat.le_trans hsz (by simp))⟩
      case measure=>simp [intOf];omega
    · obtain rfl:j=fs.length:=ω
      have o1:=ho hpos
      simp only [List.take_length] at o1 ⊢
      have h60:=HF60.out
      generalize hB:BQ tx fs=B at *
      have HB:=hid hB;clear hB ho hr hf HF9 r0 b0
      have hlb:=hb.size
      have hk:(60:Int)-(B.length:Int)=((60-B.length:Nat):Int):=ω
      go_wp2_with (at_builtin;have _t:=t1;refine De rfl (.tmp 23) (.tmp 26) rfl υ22 υ3 (z:=.int .u8 0) (bytes:=1) κ rfl rfl w.heap.size (k:=60-B.length) rfl rfl rfl o1 ω ω hlb ?_;clear t1;intro a3 c3 w3 o3 _ b3;have _r3:=Aa6 h60 o3;rw [Aa5 h60])
      have hp60:(Fx B).length≤60:=Nat.le_of_eq (CH h60)
      have hcl:=DM (Fx B)
      refine (Ij a3 c3 (Fx B) w3 _r3).mono ?_
      rintro e w4 ⟨rfl,b4⟩
      generalize hz:Cb (Fx B)=z at *
      have HZ:=hid hz;clear hz
      go_wp2_with fail
      refine (DU a3 c3 (Fx B) (z:Int) 4 _ (_r3.mono b4) ω ω).mono ?_
      rintro e w5 ⟨a5,c5,rfl,o5,b5⟩
      have he:Ar (Fx B) (z:Int) 4=DW B:=by
        unfold DW;rw [← HZ.out];exact Un _
      rw [he] at o5 ⊢
      have hs4:=Nat.le_trans b3.size b4.size
      go_wp2_with fail
      go_ret
      exact ⟨a5,c5,rfl,o5.low (by have:=b3.size;have:=b4.size;omega),Av (Av (Av hb b3 (Nat.le_refl _)) b4 (by have:=b3.size;omega)) b5 (by have:=b3.size;have:=b4.size;omega)⟩
end
end Go.Proofs.YtpnknncmacjdkaaGreatDoor
