/- Operations that change memory of parts that lie apart. -/
import Derived.Test.YtpdjnefgkcmdnaaGreatDoorSxB
namespace Go.Proofs.YtpdjnefgkcmdnaaGreatDoor
open Go.RowKit
set_option linter.unusedSimpArgs false
set_option linter.unusedVariables false

theorem xap_where {P:Program} {w:World} {B:Nat} {t ty e:TypeId} {i:TypeInfo} {z:Value} {size bytes:Nat} (ht:P.underlying t=some (.slice e)) (hi:P.info? e=some i) (hz:i.zero=some z) (hsize:i.size=size) (hby:i.bytes=bytes) (hsz:0<size)
    {a1:Option Addr} {n c0:Nat} {xs:List Value} (hown:Own w B e size a1 n c0 xs) {a:Addr} {m c:Nat} {news:List Value} (hl:news.length=m*size) (hnews:∀ j u,news[j]? = some u→w.cell? (a.add j)=some u) (h1:∀ u∈news,u.oneCell'=true)
    (h63:n+m≤maxLen) (hbytes:(n+m)*bytes≤140737488355328) (hm:0<m) {b:Option Addr} {n' c':Nat} {w':World} (hr:(Builtin.append_ #[t,t] ty #[.slice a1 n c0,.slice (some a) m c]).run P w=.ok (.slice b n' c') w') :
    ∀ k,(Value.slice b n' c').ownBlock=some k→(Value.slice a1 n c0).ownBlock=some k∨w.heap.size≤k:=by
  subst hsize
  subst hby
  have hsmall:n+m≤9223372036854775807:=by simp only [maxLen] at h63;omega
  rcases hown.2 with ⟨hv,hn⟩ | ⟨g,cap,cur,hv,hbg,hg,hnc,hcm,hcs,htake⟩
  · cases hv
    have q:=run_append_nil (P:=P) w t ty e i z ht hi hz a m c news hl hnews (by omega) (by omega) (by have hb:=hbytes;simp only [Nat.zero_add] at hb;omega)
    rw [q] at hr
    cases hr
    intro k hk;cases hk;exact .inr (Nat.le_refl _)
  · cases hv
    by_cases hroom:n+m≤c0
    · have hfit:n*i.size+news.length≤cur.size:=by rw [hl,hcs,← Nat.add_mul];exact Nat.mul_le_mul_right _ hroom
      have q:=run_append_room (P:=P) w t ty e i ht hi g n c0 cur hg a m c news hl hnews h1 hroom hfit
      rw [q] at hr
      cases hr
      intro k hk;exact .inl hk
    · have holds:∀ j u,xs[j]? = some u→w.cell? ((⟨g,0,none⟩:Addr).add j)=some u:=World.ownsRow.cells hown (g:=g) rfl
      have q:=run_append_grow (P:=P) w t ty e i z ht hi hz ⟨g,0,none⟩ n c0 xs hown.1 holds a m c news hl hnews (by omega) (by omega) (growslice_fits (by omega) hbytes)
      rw [q] at hr
      cases hr
      intro k hk;cases hk;exact .inr (Nat.le_refl _)
theorem Turns.of_row {w w':World} {r:Option Nat} (h:w.grownBy w' r):Turns (fun k=>r=some k) w w':=⟨h.os,h.tape,h.output,h.size,fun k hk hn=>h.block k hk (fun e=>hn e.symm)⟩
section
variable {P:Program} {Q:Exit→Act→World→Prop} {o:Oper} {a:Act} {w w':World} {N:Nat} {l:List (Nat×Value)} {K:Act→World→Prop} {cs:List Ch}
/-- a value, in another world -/
theorem xval (h:Kn N l a) {d:Nat} (hd:o.dst=some d) (hdN:decide (d<N)=true) (hf:l.all (fun x=>!(x.1 == d))=true) {v:Value} (hr:(execOp a.eval o).run P w=.ok (.value v) w')
    (k:∀ a',Kn N ((d,v)::l) a'→K a' w'):Oper.wp P o a w K Q:=op_val h hd (of_decide_eq_true hdN) (fr hf) v hr k
theorem xval0 (h:Kn N l a) (hd:o.dst=none) {v:Value} (hr:(execOp a.eval o).run P w=.ok (.value v) w') (k:∀ a',Kn N l a'→K a' w'):Oper.wp P o a w K Q:=by
  unfold Oper.wp
  rw [hr,Oper.upon_value,hd]
  exact k _ h
/-- a new variable -/
theorem xalloc (h:Kn N l a) {d:Nat} (hd:o.dst=some d) (hdN:decide (d<N)=true) (hf:l.all (fun x=>!(x.1 == d))=true) {T:TypeId} (ho:o.op=.alloc T) {z:List Value}
    (hz:∀ w,(Instr.alloc T true (.tuple #[])).run P w=.ok (.pointer (some ⟨w.heap.size,0,none⟩)) (w.alloc (.cells z.toArray T))) (hS:Sep w cs)
    (k:∀ a' g w',Kn N ((d,.pointer (some ⟨g,0,none⟩))::l) a'→Sep w' (blkC g T z::cs)→(∃ o,w'=w.alloc o)→g=w.heap.size→K a' w'):Oper.wp P o a w K Q:=by
  refine xval h hd hdN hf (by unfold execOp;rw [ho];exact run_v (hz w)) fun a' h'=>k a' _ _ h' (hS.push (albO _ _) (blk_newO rfl _ _) (fun k e=>by cases e;exact Nat.le_refl _)) ⟨_,rfl⟩ rfl
/-- a boxed value -/
theorem xbox (h:Kn N l a) {d:Nat} (hd:o.dst=some d) (hdN:decide (d<N)=true) (hf:l.all (fun x=>!(x.1 == d))=true) {T:TypeId} {x:Operand} (ho:o.op=.box T x) {v:Value} (hx:opv l x=some v) {z:List Value}
    (hz:v.cells=z.toArray) (hS:Sep w cs)
    (k:∀ a' g w',Kn N ((d,.pointer (some ⟨g,0,none⟩))::l) a'→Sep w' (blkC g T z::cs)→(∃ o,w'=w.alloc o)→g=w.heap.size→K a' w'):Oper.wp P o a w K Q:=by
  refine xval (v:=.pointer (some ⟨w.heap.size,0,none⟩)) (w':=w.alloc (.cells z.toArray T)) h hd hdN hf (by unfold execOp;rw [ho];simp only [h.op hx];rw [← hz];exact run_v rfl) fun a' h'=>k a' _ _ h' (hS.push (albO _ _) (blk_newO rfl _ _) (fun k e=>by cases e;exact Nat.le_refl _)) ⟨_,rfl⟩ rfl
/-- a slice that is written out -/
theorem xbuildS (h:Kn N l a) {d:Nat} (hd:o.dst=some d) (hdN:decide (d<N)=true) (hf:l.all (fun x=>!(x.1 == d))=true) {T E:TypeId} {n:Nat} {xs:List (Nat×Operand)} (ho:o.op=.buildSlice T n xs.toArray) {vs:List (Nat×Value)} (hx:xs.map (fun p=>(p.1,opv l p.2))=vs.map (fun p=>(p.1,some p.2))) {z:List Value}
    (hz:∀ w,(Instr.buildSlice T n vs.toArray).run P w=.ok (.slice (some ⟨w.heap.size,0,none⟩) n n) (w.alloc (.cells z.toArray E))) (hS:Sep w cs)
    (k:∀ a' g w',Kn N ((d,.slice (some ⟨g,0,none⟩) n n)::l) a'→Sep w' (blkC g E z::cs)→(∃ o,w'=w.alloc o)→g=w.heap.size→K a' w'):Oper.wp P o a w K Q:=by
  refine xval h hd hdN hf (by unfold execOp;rw [ho];simp only [h.parts hx];exact run_v (hz w)) fun a' h'=>k a' _ _ h' (hS.push (albO _ _) (blk_newO rfl _ _) (fun k e=>by cases e;exact Nat.le_refl _)) ⟨_,rfl⟩ rfl
theorem run_storeVal {T:TypeId} {p u:Value} {vs:List Value} (hu:u.cells=vs.toArray) (w:World):(Instr.storeAt T p u).run P w=(Instr.storeAt T p (.agg vs.toArray)).run P w:=by
  have e:Value.cells u=Value.cells (.agg vs.toArray):=hu
  simp only [Instr.storeAt,storeVar]
  rw [e]
/-- a store into a block -/
theorem xstore (h:Kn N l a) (hd:o.dst=none) {T:TypeId} {x y:Operand} (ho:o.op=.store T x y) (hS:Sep w cs) (i:Nat) {g off:Nat} {e:TypeId} {L:List Value} (hi:cs[i]? = some (blkC g e L)) (hx:opv l x=some (.pointer (some ⟨g,off,none⟩))) {u:Value} (hy:opv l y=some u) (vs:List Value) (hu:u.cells=vs.toArray)
    (hn:(P.info? T).map (·.size)=some vs.length) (h1:vs.all (·.oneCell')=true) (hL:off+vs.length≤L.length) {L':List Value} (hL':splice L off vs=L') {cs':List Ch} (hcs:cs.set i (blkC g e L')=cs')
    (k:∀ a' w',Kn N l a'→Sep w' cs'→Turns (fun k=>k=g) w w'→K a' w'):Oper.wp P o a w K Q:=by
  have hb:Blk w g e L:=hS.get i hi
  obtain ⟨h2,h3⟩:=Blk.setCells vs off w L hb hL
  have hr:=run_storeAt_mid (P:=P) w g off T vs.toArray (by simpa using hb.there off vs.length hL) (by simpa using hn) (by rw [List.all_toArray];exact h1)
  refine op_skip (w':=w.setCells g off vs) h hd ?_ fun a' h'=>k a' _ h' ?_ (Turns.of_grown h3 rfl)
  · unfold execOp;rw [ho];simp only [h.op hx,h.op hy]
    rw [Sem.run_bind,run_storeVal hu,hr]
    rfl
  · rw [hL'] at h2
    rw [← hcs]
    exact hS.upd i hi (Turns.of_grown h3 rfl) (fun k _ e=>e.symm ▸ rfl) h2 (fun k e=>.inl e)
/-- a call -/
theorem xcall (h:Kn N l a) {d:Nat} (hd:o.dst=some d) (hdN:decide (d<N)=true) (hf:l.all (fun x=>!(x.1 == d))=true) {f:Operand} {xs:List Operand} {ts:Array TypeId} (ho:o.op=.call { callee:=.value f,args:=xs.toArray,argTypes:=ts })
    {fn:FuncId} (hcf:∀ args w,(callFunc fn args).run P w=.ok (.enter fn args) w) {first cap:Array Value} (hfv:opv l f=some (.func (.func fn) first cap)) {vs:List Value} (hx:xs.map (opv l)=vs.map some) {args:Array Value} (ha:first++vs.toArray++cap=args)
    {R:Value→World→Prop} (HC:CallsR P fn args w R) (k:∀ a' v w',R v w'→Kn N ((d,v)::l) a'→K a' w'):Oper.wp P o a w K Q:=by
  have hrun:(execOp a.eval o).run P w=.ok (.enter fn args) w:=by
    unfold execOp;rw [ho]
    simp only [resolve,h.ops hx,h.op hfv,Deferred.ofValue,invoke,Sem.run_bind,Sem.run_pure,Result.andThen_ok,ha,hcf]
  unfold Oper.wp
  rw [hrun,Oper.upon_enter]
  refine Calls.mono HC ?_
  rintro e w' ⟨v,rfl,hv⟩
  simp only
  rw [hd]
  exact k _ v w' hv (h.put (of_decide_eq_true hdN) (fr hf) v)
theorem Sep.ownNil {w:World} {cs:List Ch} (h:Sep w cs) (B:Nat) (e:TypeId) (sz:Nat):Sep w (ownC B e sz none 0 0 []::cs):=
  h.push (Below.refl _ _) (Own.nil _ _ _ _) (fun k e=>by cases e)
/-- append -/
theorem xappend (h:Kn N l a) {d:Nat} (hd:o.dst=some d) (hdN:decide (d<N)=true) (hf:l.all (fun x=>!(x.1 == d))=true) {s x:Operand} {t e:TypeId} {sz bytes:Nat}
    (ho:o.op=.call { callee:=.builtin .append,args:=#[s,x],argTypes:=#[t,t] }) (E:ElemT P t e sz bytes) (hS:Sep w cs) (i:Nat) {B:Nat}
    {a1:Option Addr} {ad:Addr} {n c m c2:Nat} {xs ds:List Value} (hi:cs[i]? = some (ownC B e sz a1 n c xs)) (hs:opv l s=some (.slice a1 n c)) (hx:opv l x=some (.slice (some ad) m c2))
    (hrow:Row w sz (some ad) m c2 ds) (hm:0<m) (h1:ds.all (·.oneCell')=true) (hbytes:(n+m)*bytes≤140737488355328) (h63:n+m≤9223372036854775807) {n':Nat} (hn':n+m=n')
    (k:∀ a' b' c' w',Kn N ((d,.slice b' n' c')::l) a'→Sep w' (cs.set i (ownC 0 e sz b' n' c' (xs++ds)))→w.heap.size≤w'.heap.size→K a' w'):Oper.wp P o a w K Q:=by
  subst hn'
  have hown:Own w 0 e sz a1 n c xs:=Own.low (hS.get i hi:Own w B e sz a1 n c xs) (Nat.zero_le _)
  obtain ⟨under,⟨ti,z,hi',hz,hsize,hby,hzs⟩,hsz⟩:=E
  obtain ⟨g1,g2,g3,g4,g5⟩:=hrow
  have hnews:∀ j u,ds[j]? = some u→w.cell? (ad.add j)=some u:=by
    intro j u hu
    obtain ⟨b,off,e1,_,hc⟩:=g5 hm
    cases e1
    have:=hc j u hu
    unfold Addr.add
    split
    · subst j;simpa using this
    · exact this
  have h1':∀ u∈ds,u.oneCell'=true:=List.all_eq_true.1 h1
  obtain ⟨v',w',hr,h2,h3,h4⟩:=run_append_own (P:=P) w 0 t o.type e ti z sz bytes under hi' hz hsize hby hzs hsz (.slice a1 n c) n xs hown ad m c2 ds g1 hnews h1' (by unfold maxLen;omega) hbytes (Nat.zero_le _)
  obtain ⟨b',c',rfl,h5⟩:=ownsRow_own h2
  have hw:=xap_where (P:=P) under hi' hz hsize hby hsz hown g1 hnews h1' (by unfold maxLen;omega) hbytes hm hr
  refine xval (v:=.slice b' (n+m) c') (w':=w') h hd hdN hf ?_ fun a' h'=>k a' b' c' w' h' (hS.upd i hi (Turns.of_row h3) (fun k _ e=>e) (c':=ownC 0 e sz b' (n+m) c' (xs++ds)) h5 hw) h3.size
  unfold execOp
  simp only [ho,resolve,invoke,builtin,Sem.run_bind,Sem.run_pure,Result.andThen_ok,List.map_toArray,List.map_cons,List.map_nil,h.op hs,h.op hx,hr]
end
/-- a loop whose ghosts stand in no slot -/
theorem wp_loop_g {P:Program} {Q:Exit→Act→World→Prop} {a:Act} {w:World} {c:Code} {α:Type} (I:α→Act→World→Prop) (μ:α→Nat) (x₀:α) (h₀:I x₀ a w)
    (round:∀ x a w,I x a w→∀ K:Act→World→Prop,(∀ y a' w',I y a' w'→μ y<μ x→K a' w')→c.wp P (Exit.then K Q) a w):(Code.loop c).wp P Q a w:=by
  intro b k cs
  have key:∀ n x a w,μ x=n→I x a w→∃ e a' w',Q e a' w'∧Arrives P (lone (b.at a (.code c::.inLoop c::k)) cs w) b k cs e a' w':=by
    intro n
    induction n using Nat.strongRecOn with
    | _ n ih=>
      intro x a w hn hI
      obtain ⟨e,a₁,w₁,hq,harr⟩:=round x a w hI (fun a' w'=>∃ y,I y a' w'∧μ y<μ x) (fun y a' w' h1 h2=>⟨y,h1,h2⟩) b (.inLoop c::k) cs
      cases e with
      | normal=>
        obtain ⟨y,hI₁,hlt⟩:=hq
        obtain ⟨e₂,a₂,w₂,hq₂,harr₂⟩:=ih (μ y) (hn ▸ hlt) y a₁ w₁ rfl hI₁
        exact ⟨e₂,a₂,w₂,hq₂,.of_steps (Steps.trans harr (.one step_inLoop)) harr₂⟩
      | exit id=>exact ⟨_,a₁,w₁,hq,.pass (x:=.inLoop c) rfl (fun _ _=>.inl (by simp)) harr⟩
      | goto l=>exact ⟨_,a₁,w₁,hq,.pass (x:=.inLoop c) rfl (fun _ _=>.inl (by simp)) harr⟩
      | ret=>exact ⟨_,a₁,w₁,hq,.pass (x:=.inLoop c) rfl (fun _ _=>.inl (by simp)) harr⟩
      | panic ch=>exact ⟨_,a₁,w₁,hq,.pass (x:=.inLoop c) rfl (fun _ _=>.inl (by simp)) harr⟩
      | outgrown=>exact ⟨_,a₁,w₁,hq,.pass (x:=.inLoop c) rfl (fun _ _=>.inl (by simp)) harr⟩
  obtain ⟨e,a',w',hq,harr⟩:=key _ x₀ a w rfl h₀
  exact ⟨e,a',w',hq,.of_steps (.one step_loop) harr⟩
section
variable {P:Program} {Q:Exit→Act→World→Prop} {a:Act} {w:World} {c:Code} {α β γ δ ε ζ:Type}
theorem wp_loop1 (I:α→Act→World→Prop) (μ:α→Nat) (x:α) (h₀:I x a w)
    (round:∀ x a w,I x a w→∀ K:Act→World→Prop,(∀ y a' w',I y a' w'→μ y<μ x→K a' w')→c.wp P (Exit.then K Q) a w):(Code.loop c).wp P Q a w:=wp_loop_g I μ x h₀ round
theorem wp_loop2 (I:α→β→Act→World→Prop) (μ:α→β→Nat) (x:α) (y:β) (h₀:I x y a w)
    (round:∀ x y a w,I x y a w→∀ K:Act→World→Prop,(∀ x' y' a' w',I x' y' a' w'→μ x' y'<μ x y→K a' w')→c.wp P (Exit.then K Q) a w):(Code.loop c).wp P Q a w:=
  wp_loop_g (α:=α×β) (fun p=>I p.1 p.2) (fun p=>μ p.1 p.2) (x,y) h₀ (fun p a w hI K hK=>round p.1 p.2 a w hI K (fun x' y'=>hK (x',y')))
theorem wp_loop3 (I:α→β→γ→Act→World→Prop) (μ:α→β→γ→Nat) (x:α) (y:β) (z:γ) (h₀:I x y z a w)
    (round:∀ x y z a w,I x y z a w→∀ K:Act→World→Prop,(∀ x' y' z' a' w',I x' y' z' a' w'→μ x' y' z'<μ x y z→K a' w')→c.wp P (Exit.then K Q) a w):(Code.loop c).wp P Q a w:=
  wp_loop_g (α:=α×β×γ) (fun p=>I p.1 p.2.1 p.2.2) (fun p=>μ p.1 p.2.1 p.2.2) (x,y,z) h₀ (fun p a w hI K hK=>round p.1 p.2.1 p.2.2 a w hI K (fun x' y' z'=>hK (x',y',z')))
/-- a branch -/
theorem wp_condS {N:Nat} {l:List (Nat×Value)} {cd:Operand} {x y:Code} (h:Kn N l a) {t b:Bool} (hx:opv l cd=some (.bool t)) (ht:t=b) (k:(if b=true then x else y).wp P Q a w):(Code.cond cd x y).wp P Q a w:=wp_cond (h.op hx) (by rw [ht];exact k)
/-- results -/
theorem res0 {fn:Func} (h:fn.results=#[]) {tmps:Array Value} (w:World):(results fn tmps).run P w=.ok (.tuple #[]) w:=results_none h tmps P w
theorem res1 {fn:Func} {N:Nat} {l:List (Nat×Value)} (hK:Kn N l a) {c:Nat} (h:fn.results=#[.tmp c]) {v:Value} (hv:opv l (.tmp c)=some v) (w:World):(results fn a.tmps).run P w=.ok v w:=by
  have:=hK.op hv
  simp only [Act.eval] at this
  rw [results_tmp h,this]
theorem res2 {fn:Func} {N:Nat} {l:List (Nat×Value)} (hK:Kn N l a) {c d:Nat} (h:fn.results=#[.tmp c,.tmp d]) {v u:Value} (hv:opv l (.tmp c)=some v) (hu:opv l (.tmp d)=some u) (w:World):(results fn a.tmps).run P w=.ok (.tuple #[v,u]) w:=by
  have e1:=hK.op hv
  have e2:=hK.op hu
  simp only [Act.eval,Array.getD_eq_getD_getElem?] at e1 e2
  simp [results,h,e1,e2]
theorem res3 {fn:Func} {N:Nat} {l:List (Nat×Value)} (hK:Kn N l a) {c d e:Nat} (h:fn.results=#[.tmp c,.tmp d,.tmp e]) {v u z:Value} (hv:opv l (.tmp c)=some v) (hu:opv l (.tmp d)=some u) (hz:opv l (.tmp e)=some z) (w:World):(results fn a.tmps).run P w=.ok (.tuple #[v,u,z]) w:=by
  have e1:=hK.op hv
  have e2:=hK.op hu
  have e3:=hK.op hz
  simp only [Act.eval,Array.getD_eq_getD_getElem?] at e1 e2 e3
  simp [results,h,e1,e2,e3]
theorem retR {fn:Func} {R:Value→World→Prop} {v:Value} (hr:∀ w,(results fn a.tmps).run P w=.ok v w) (hd:a.defers=[]) (k:R v w):bodyPost P fn (fun e w'=>∃ v,e=.returned v∧R v w') .ret a w:=bodyPost_ret (hr w) hd ⟨v,rfl,k⟩
theorem endR {fn:Func} {R:Value→World→Prop} {v:Value} (hr:∀ w,(results fn a.tmps).run P w=.ok v w) (hd:a.defers=[]) (k:R v w):bodyPost P fn (fun e w'=>∃ v,e=.returned v∧R v w') .normal a w:=bodyPost_end (hr w) hd ⟨v,rfl,k⟩
/-- a function is entered -/
theorem enterR {f:FuncId} {fn:Func} {c:Code} {args:Array Value} {R:Value→World→Prop} (hf:P.funcs[f]? = some fn) (hb:fn.body=some c) {N:Nat} (hn:fn.ntmps=N) (hs:args.size≤N) (l:List (Nat×Value)) (hl:l.map (fun x=>args[x.1]?)=l.map (fun x=>some x.2))
    (k:∀ a,Kn N l a→c.wp P (bodyPost P fn (fun e w'=>∃ v,e=.returned v∧R v w')) a w):CallsR P f args w R:=by
  refine calls_of_wp hf hb (k _ ⟨by simp [hn];omega,fun x hx=>?_,rfl⟩)
  have e:args[x.1]? = some x.2:=by
    obtain ⟨i,hi,e⟩:=List.getElem_of_mem hx
    have q:(l.map (fun x=>args[x.1]?))[i]? = (l.map (fun x=>some x.2))[i]?:=by rw [hl]
    rw [List.getElem?_map,List.getElem?_map,List.getElem?_eq_getElem hi,e] at q
    simpa using q
  have hlt:x.1<args.size:=(Array.getElem?_eq_some_iff.1 e).1
  show (args++Array.replicate (fn.ntmps-args.size) undef)[x.1]? = some x.2
  rw [Array.getElem?_append_left hlt];exact e
end
end Go.Proofs.YtpdjnefgkcmdnaaGreatDoor
