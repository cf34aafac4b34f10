/- Operations over an act of which some slots are known, in memory of parts that lie apart. -/
import Derived.Test.YtpdjnefgkcmdnaaGreatDoorSxA
namespace Go.Proofs.YtpdjnefgkcmdnaaGreatDoor
open Go.RowKit
set_option linter.unusedSimpArgs false
set_option linter.unusedVariables false

theorem wf_i64 {n:Int} (h1:-9223372036854775808≤n) (h2:n≤9223372036854775807):(Lit.int .i64 n).wf=true:=by
  simp [Lit.wf,IntKind.min,IntKind.max,IntKind.signed,IntKind.bits];omega
/-- an operand, looked up -/
def opv (l:List (Nat×Value)):Operand→Option Value
  | .tmp k=>(l.find? fun y=>y.1 == k).map (·.2)
  | .const v=>some v
  | .global g=>some (.pointer (some ⟨g,0,none⟩))
  | .func f=>some (.func (.func f) #[] #[])
theorem Kn.op {N:Nat} {l:List (Nat×Value)} {a:Act} (h:Kn N l a) {x:Operand} {v:Value} (hx:opv l x=some v):a.eval x=v:=by
  cases x with
  | tmp k=>
    cases hf:l.find? (fun y=>y.1 == k) with
    | none=>simp [opv,hf] at hx
    | some y=>
      have he:y.1=k:=by simpa using List.find?_some hf
      simp [opv,hf] at hx
      subst hx
      exact h.eval (k:=k) (by have:=List.mem_of_find?_eq_some hf;rw [← he];exact this)
  | const v'=>simp [opv] at hx;subst hx;rfl
  | global g=>simp [opv] at hx;subst hx;rfl
  | func f=>simp [opv] at hx;subst hx;rfl
theorem Kn.ops {N:Nat} {l:List (Nat×Value)} {a:Act} (h:Kn N l a) {xs:List Operand} {vs:List Value} (hx:xs.map (opv l)=vs.map some):xs.toArray.map a.eval=vs.toArray:=by
  rw [List.map_toArray]
  congr 1
  induction xs generalizing vs with
  | nil=>cases vs with
    | nil=>rfl
    | cons v vs=>simp at hx
  | cons x xs ih=>cases vs with
    | nil=>simp at hx
    | cons v vs=>
      simp only [List.map_cons,List.cons.injEq] at hx ⊢
      exact ⟨h.op hx.1,ih hx.2⟩
theorem Kn.parts {N:Nat} {l:List (Nat×Value)} {a:Act} (h:Kn N l a) {xs:List (Nat×Operand)} {vs:List (Nat×Value)} (hx:xs.map (fun p=>(p.1,opv l p.2))=vs.map (fun p=>(p.1,some p.2))):xs.toArray.map (fun p=>(p.1,a.eval p.2))=vs.toArray:=by
  rw [List.map_toArray]
  congr 1
  induction xs generalizing vs with
  | nil=>cases vs with
    | nil=>rfl
    | cons v vs=>simp at hx
  | cons x xs ih=>cases vs with
    | nil=>simp at hx
    | cons v vs=>
      simp only [List.map_cons,List.cons.injEq,Prod.mk.injEq] at hx ⊢
      exact ⟨by rw [h.op hx.1.2,hx.1.1],ih hx.2⟩

/-- a call that returns -/
def CallsR (P:Program) (f:FuncId) (args:Array Value) (w:World) (R:Value→World→Prop):Prop:=Calls P f args w fun e w'=>∃ v,e=.returned v∧R v w'
theorem CallsR.mono {P:Program} {f:FuncId} {args:Array Value} {w:World} {R R':Value→World→Prop} (h:CallsR P f args w R) (k:∀ v w',R v w'→R' v w'):CallsR P f args w R':=Calls.mono h (fun e w' ⟨v,e1,r⟩=>⟨v,e1,k v w' r⟩)
theorem CallsR.ret {P:Program} {f:FuncId} {args:Array Value} {w:World} {v:Value} {R:World→Prop} (h:Calls P f args w fun e w'=>e=.returned v∧R w'):CallsR P f args w fun v' w'=>v'=v∧R w':=Calls.mono h (fun e w' ⟨e1,r⟩=>⟨v,e1,rfl,r⟩)

section
variable {P:Program} {ops:Array Oper} {Q:Exit→Act→World→Prop} {md:Region.Mode} {S:World→Prop} {o:Oper} {rest:List Oper} {fuel:Nat} {listed:Array Bool} {a:Act} {w w':World} {N:Nat} {l:List (Nat×Value)} {K:Act→World→Prop}
/-- is it wanted? -/
theorem wg (h:Kn N l a) {g prev:Nat} {want b r:Bool} (hg:o.guard=some (g,want)) (hp:(ops[g]?).bind (·.dst)=some prev) (hm:l.find? (fun y=>y.1 == prev)=some (prev,.bool b)) (hb:(b == want)=r):Region.wanted o (yielded ops a.tmps)=r:=by
  rw [wanted_of hg (h.yields hp (List.mem_of_find?_eq_some hm))];exact hb
theorem wgu (h:Kn N l a) {g prev:Nat} {want:Bool} (hg:o.guard=some (g,want)) (hp:(ops[g]?).bind (·.dst)=some prev) (hm:l.find? (fun y=>y.1 == prev)=some (prev,undef)):Region.wanted o (yielded ops a.tmps)=false:=by
  unfold Region.wanted
  rw [hg]
  have:=h.known _ (List.mem_of_find?_eq_some hm)
  have e:yielded ops a.tmps g=none:=by
    unfold yielded
    rw [hp,Option.bind_some]
    show (match a.tmps[prev]? with | some (.bool b)=>some b | _=>none)=none
    rw [this];rfl
  simp [e]
/-- a value, the world stays -/
theorem sv (h:Kn N l a) (hw:Region.wanted o (yielded ops a.tmps)=true) {d:Nat} (hd:o.dst=some d) (hdN:decide (d<N)=true) (hf:l.all (fun x=>!(x.1 == d))=true) {v:Value}
    (hr:∀ w,(execOp a.eval o).run P w=.ok (.value v) w) (k:∀ a',Kn N ((d,v)::l) a'→wpList P ops Q rest a' w):wpList P ops Q (o::rest) a w:=
  wpk_val h hw hd (of_decide_eq_true hdN) (fr hf) v (hr w) k
/-- a value that the world gives -/
theorem sw (h:Kn N l a) (hw:Region.wanted o (yielded ops a.tmps)=true) {d:Nat} (hd:o.dst=some d) (hdN:decide (d<N)=true) (hf:l.all (fun x=>!(x.1 == d))=true) {v:Value}
    (hr:(execOp a.eval o).run P w=.ok (.value v) w) (k:∀ a',Kn N ((d,v)::l) a'→wpList P ops Q rest a' w):wpList P ops Q (o::rest) a w:=
  wpk_val h hw hd (of_decide_eq_true hdN) (fr hf) v hr k
/-- not wanted -/
theorem su (h:Kn N l a) (hw:Region.wanted o (yielded ops a.tmps)=false) {d:Nat} (hd:o.dst=some d) (hdN:decide (d<N)=true) (hf:l.all (fun x=>!(x.1 == d))=true)
    (k:∀ a',Kn N ((d,undef)::l) a'→wpList P ops Q rest a' w):wpList P ops Q (o::rest) a w:=wpk_skip h hw hd (of_decide_eq_true hdN) (fr hf) k
/-- an operation of its own law -/
theorem so (hw:Region.wanted o (yielded ops a.tmps)=true) (k:∀ K:Act→World→Prop,(∀ a w,wpList P ops Q rest a w→K a w)→o.wp P a w K Q):wpList P ops Q (o::rest) a w:=by
  refine wpList_step fun K hK=>?_
  rw [if_pos hw]
  exact k K hK
/-- within a region that draws: taken first -/
theorem tv (hS:S w) (h:Kn N l a) (i:Nat) (hi:ops[i]? = some o) {d:Nat} (hd:o.dst=some d) (hdN:decide (d<N)=true) (hf:l.all (fun x=>!(x.1 == d))=true)
    (hs:Region.noSelect ops=true) (hfr:Region.free md ops listed i=true) (hr:(Region.ready md ops listed).contains i=true) (hQ:∀ c a w v,Q (.panic c) (a.put o.dst v) w→Q (.panic c) a w) (hw:Region.wanted o (yielded ops a.tmps)=true) {v:Value} (hy:∀ w1,S w1→(execOp a.eval o).run P w1=.ok (.value v) w1)
    (k:∀ a',Kn N ((d,v)::l) a'→wpAnyH P md ops Q S fuel (listed.setIfInBounds i true) a' w):wpAnyH P md ops Q S (fuel+1) listed a w:=
  wpk_take hS h i hi hd (of_decide_eq_true hdN) (fr hf) hs hfr hr hQ v (.inl ⟨hw,hy⟩) k
theorem tu (hS:S w) (h:Kn N l a) (i:Nat) (hi:ops[i]? = some o) {d:Nat} (hd:o.dst=some d) (hdN:decide (d<N)=true) (hf:l.all (fun x=>!(x.1 == d))=true)
    (hs:Region.noSelect ops=true) (hfr:Region.free md ops listed i=true) (hr:(Region.ready md ops listed).contains i=true) (hQ:∀ c a w v,Q (.panic c) (a.put o.dst v) w→Q (.panic c) a w) (hw:Region.wanted o (yielded ops a.tmps)=false)
    (k:∀ a',Kn N ((d,undef)::l) a'→wpAnyH P md ops Q S fuel (listed.setIfInBounds i true) a' w):wpAnyH P md ops Q S (fuel+1) listed a w:=
  wpk_take hS h i hi hd (of_decide_eq_true hdN) (fr hf) hs hfr hr hQ undef (.inr ⟨hw,rfl⟩) k
/-- within a region that draws: the only one that is ready -/
theorem to_ (i:Nat) (hi:ops[i]? = some o) (hw:Region.wanted o (yielded ops a.tmps)=true) (hr:Region.ready md ops listed=[i])
    (k:∀ K:Act→World→Prop,(∀ a' w',S w'→(S w'→wpAnyH P md ops Q S fuel (listed.setIfInBounds i true) a' w')→K a' w')→Oper.wp P o a w K Q):wpAnyH P md ops Q S (fuel+1) listed a w:=
  wpAnyH_ready hr (by simp) (AllReadyH.cons hi (fun K hK=>by
    rw [if_pos hw]
    exact k K (Shut.out hK)) AllReadyH.nil)

/-- one of several that are ready -/
theorem toc {i:Nat} {rs:List Nat} (hi:ops[i]? = some o) (hw:Region.wanted o (yielded ops a.tmps)=true) (k:∀ K:Act→World→Prop,(∀ a' w',S w'→(S w'→wpAnyH P md ops Q S fuel (listed.setIfInBounds i true) a' w')→K a' w')→Oper.wp P o a w K Q)
    (hs:AllReadyH P md ops Q S fuel listed a w rs):AllReadyH P md ops Q S fuel listed a w (i::rs):=
  AllReadyH.cons hi (fun K hK=>by rw [if_pos hw];exact k K (Shut.out hK)) hs
/-- a value that is there under a condition -/
abbrev gv (C:Bool) (v:Value):Value:=if C=true then v else undef
theorem opg {l:List (Nat×Value)} {x:Operand} {C:Bool} {v:Value} (hx:opv l x=some (gv C v)) (hC:C=true):opv l x=some v:=by rw [hx,gv,if_pos hC]
theorem wT (h:Kn N l a) {g prev:Nat} {E:Bool} (hg:o.guard=some (g,true)) (hp:(ops[g]?).bind (·.dst)=some prev) (hm:l.find? (fun y=>y.1 == prev)=some (prev,.bool E)):Region.wanted o (yielded ops a.tmps)=E:=wg h hg hp hm (by cases E<;>rfl)
theorem wF (h:Kn N l a) {g prev:Nat} {E:Bool} (hg:o.guard=some (g,false)) (hp:(ops[g]?).bind (·.dst)=some prev) (hm:l.find? (fun y=>y.1 == prev)=some (prev,.bool E)):Region.wanted o (yielded ops a.tmps)=!E:=wg h hg hp hm (by cases E<;>rfl)
theorem sg (h:Kn N l a) {C:Bool} (hw:Region.wanted o (yielded ops a.tmps)=C) {d:Nat} (hd:o.dst=some d) (hdN:decide (d<N)=true) (hf:l.all (fun x=>!(x.1 == d))=true) {v:Value}
    (hr:C=true→(execOp a.eval o).run P w=.ok (.value v) w) (k:∀ a',Kn N ((d,gv C v)::l) a'→wpList P ops Q rest a' w):wpList P ops Q (o::rest) a w:=by
  cases C
  · exact su h hw hd hdN hf k
  · exact sw h hw hd hdN hf (hr rfl) k
theorem tgv (hS:S w) (h:Kn N l a) (i:Nat) (hi:ops[i]? = some o) {d:Nat} (hd:o.dst=some d) (hdN:decide (d<N)=true) (hf:l.all (fun x=>!(x.1 == d))=true)
    (hs:Region.noSelect ops=true) (hfr:Region.free md ops listed i=true) (hr:(Region.ready md ops listed).contains i=true) (hQ:∀ c a w v,Q (.panic c) (a.put o.dst v) w→Q (.panic c) a w) {C:Bool} (hw:Region.wanted o (yielded ops a.tmps)=C) {v:Value} (hy:∀ w1,S w1→C=true→(execOp a.eval o).run P w1=.ok (.value v) w1)
    (k:∀ a',Kn N ((d,gv C v)::l) a'→wpAnyH P md ops Q S fuel (listed.setIfInBounds i true) a' w):wpAnyH P md ops Q S (fuel+1) listed a w:=by
  cases C
  · exact tu hS h i hi hd hdN hf hs hfr hr hQ hw k
  · exact tv hS h i hi hd hdN hf hs hfr hr hQ hw (fun w1 h1=>hy w1 h1 rfl) k
/-- bools taken apart -/
theorem andT {a b:Bool} (h:(a&&b)=true):a=true∧b=true:=by cases a<;>cases b<;>simp_all
theorem andF {a b:Bool} (h:(a&&b)=false):a=false∨b=false:=by cases a<;>cases b<;>simp_all
theorem orT {a b:Bool} (h:(a||b)=true):a=true∨b=true:=by cases a<;>cases b<;>simp_all
theorem orF {a b:Bool} (h:(a||b)=false):a=false∧b=false:=by cases a<;>cases b<;>simp_all
theorem notT {a:Bool} (h:(!a)=true):a=false:=by cases a<;>simp_all
theorem bNotT {a:Bool} (h:a=true):(!a)=false:=by subst h;rfl
theorem bNotF {a:Bool} (h:a=false):(!a)=true:=by subst h;rfl
theorem bOrR {a b:Bool} (h:b=true):(a||b)=true:=by subst h;cases a<;>rfl
theorem notF {a:Bool} (h:(!a)=false):a=true:=by cases a<;>simp_all

/-- values -/
theorem rmove (h:Kn N l a) {x:Operand} (ho:o.op=.move x) {v:Value} (hx:opv l x=some v) (w:World):(execOp a.eval o).run P w=.ok (.value v) w:=by
  unfold execOp;rw [ho];simp only [h.op hx];rfl
theorem rassign (h:Kn N l a) {x:Operand} (ho:o.op=.assign x) {v:Value} (hx:opv l x=some v) (w:World):(execOp a.eval o).run P w=.ok (.value v) w:=by
  unfold execOp;rw [ho];simp only [h.op hx];rfl
theorem rnil (h:Kn N l a) {x:Operand} (ho:o.op=.nilCheck x) {p:Addr} (hx:opv l x=some (.pointer (some p))) (w:World):(execOp a.eval o).run P w=.ok (.value (.pointer (some p))) w:=by
  unfold execOp;rw [ho];simp only [h.op hx];rfl
theorem rnilf (h:Kn N l a) {x:Operand} (ho:o.op=.nilCheck x) {f:FuncId} {xs ys:Array Value} (hx:opv l x=some (.func (.func f) xs ys)) (w:World):(execOp a.eval o).run P w=.ok (.value (.func (.func f) xs ys)) w:=by
  unfold execOp;rw [ho];simp only [h.op hx];rfl
theorem rext (h:Kn N l a) {x:Operand} {i:Nat} (ho:o.op=.extract x i) {vs:Array Value} {v:Value} (hx:opv l x=some (.tuple vs)) (hi:vs[i]? = some v) (w:World):(execOp a.eval o).run P w=.ok (.value v) w:=by
  unfold execOp;rw [ho];simp only [h.op hx,Instr.extract,hi];rfl
theorem rfa (h:Kn N l a) {x:Operand} {T:TypeId} {f:Nat} (ho:o.op=.fieldAddr T x f) {v u:Value} (hx:opv l x=some v) (hf:∀ w,(Instr.fieldAt T v f).run P w=.ok u w) (w:World):(execOp a.eval o).run P w=.ok (.value u) w:=by
  unfold execOp;rw [ho];simp only [h.op hx];exact run_v (hf w)
theorem rld (h:Kn N l a) {x:Operand} {T:TypeId} (ho:o.op=.load T x) {v u:Value} (hx:opv l x=some v) {w:World} (hf:(Instr.loadAt T v).run P w=.ok u w):(execOp a.eval o).run P w=.ok (.value u) w:=by
  unfold execOp;rw [ho];simp only [h.op hx];exact run_v hf
theorem rbin (h:Kn N l a) {x y:Operand} {b:BinOp} {T ty:TypeId} (ho:o.op=.binOp b T x y ty) {v u z:Value} (hx:opv l x=some v) (hy:opv l y=some u) (hf:∀ w,(do eqGuard b T x y v u;binOp b T v u:Sem Value).run P w=.ok z w) (w:World):(execOp a.eval o).run P w=.ok (.value z) w:=by
  unfold execOp;rw [ho];simp only [h.op hx,h.op hy];exact run_v (hf w)
theorem rnot (h:Kn N l a) {x:Operand} {T:TypeId} (ho:o.op=.unOp .not T x) {b:Bool} (hx:opv l x=some (.bool b)) (w:World):(execOp a.eval o).run P w=.ok (.value (.bool !b)) w:=by
  unfold execOp;rw [ho];simp only [h.op hx];rfl
theorem rpick (h:Kn N l a) {c x y:Operand} (ho:o.op=.pick c x y) {b:Bool} {v:Value} (hc:opv l c=some (.bool b)) (hv:(if b=true then opv l x else opv l y)=some v) (w:World):(execOp a.eval o).run P w=.ok (.value v) w:=by
  refine run_pick ho (h.op hc) ?_
  cases b
  · exact h.op hv
  · exact h.op hv
theorem rpickE (h:Kn N l a) {c x y:Operand} (ho:o.op=.pick c x y) {E b:Bool} {v:Value} (hc:opv l c=some (.bool E)) (e:E=b) (hv:(if b=true then opv l x else opv l y)=some v) (w:World):(execOp a.eval o).run P w=.ok (.value v) w:=by
  subst e;exact rpick h ho hc hv w
theorem rpickO (h:Kn N l a) {c x y:Operand} (ho:o.op=.pick c x y) {E F:Bool} {u:Value} (hc:opv l c=some (.bool E)) (hx:opv l x=some (.bool true)) (hy:opv l y=some u) (hF:E=false→u=.bool F) (w:World):(execOp a.eval o).run P w=.ok (.value (.bool (E||F))) w:=by
  refine rpick h ho hc ?_ w
  cases E
  · simp [hy,hF]
  · simp [hx]
theorem rpickA (h:Kn N l a) {c x y:Operand} (ho:o.op=.pick c x y) {E F:Bool} {u:Value} (hc:opv l c=some (.bool E)) (hx:opv l x=some u) (hy:opv l y=some (.bool false)) (hF:E=true→u=.bool F) (w:World):(execOp a.eval o).run P w=.ok (.value (.bool (E&&F))) w:=by
  refine rpick h ho hc ?_ w
  cases E
  · simp [hy]
  · simp [hx,hF]
theorem rbuild (h:Kn N l a) {T:TypeId} {xs:List (Nat×Operand)} (ho:o.op=.build T xs.toArray) {vs:List (Nat×Value)} {v:Value} (hx:xs.map (fun p=>(p.1,opv l p.2))=vs.map (fun p=>(p.1,some p.2))) (hv:∀ w,(Instr.build T vs.toArray).run P w=.ok v w) (w:World):(execOp a.eval o).run P w=.ok (.value v) w:=by
  unfold execOp;rw [ho];simp only [h.parts hx];exact run_v (hv w)
theorem rindexA (h:Kn N l a) {x i:Operand} {T:TypeId} (ho:o.op=.indexAddr T x i) {v u z:Value} (hx:opv l x=some v) (hi:opv l i=some u) (hf:∀ w,(Instr.indexAt T v u).run P w=.ok z w) (w:World):(execOp a.eval o).run P w=.ok (.value z) w:=by
  unfold execOp;rw [ho];simp only [h.op hx,h.op hi];exact run_v (hf w)
theorem rlook (h:Kn N l a) {x i:Operand} {T:TypeId} {ok:Bool} (ho:o.op=.lookup T x i ok) {v u z:Value} (hx:opv l x=some v) (hi:opv l i=some u) {w:World} (hf:(Instr.lookup T v u ok).run P w=.ok z w):(execOp a.eval o).run P w=.ok (.value z) w:=by
  unfold execOp;rw [ho];simp only [h.op hx,h.op hi];exact run_v hf
theorem rfunc (h:Kn N l a) {fn:Fn} {xs ys:List Operand} (ho:o.op=.makeFunc fn xs.toArray ys.toArray) {vs us:List Value} (hx:xs.map (opv l)=vs.map some) (hy:ys.map (opv l)=us.map some) (w:World):(execOp a.eval o).run P w=.ok (.value (.func fn vs.toArray us.toArray)) w:=by
  unfold execOp;rw [ho];simp only [h.ops hx,h.ops hy];rfl
theorem rbuiltin (h:Kn N l a) {b:Builtin} {xs:List Operand} {ts:Array TypeId} (ho:o.op=.call { callee:=.builtin b,args:=xs.toArray,argTypes:=ts }) {vs:List Value} (hx:xs.map (opv l)=vs.map some) {v:Value} {w w':World} (hf:∀ cs,(builtin b ts o.type cs vs.toArray).run P w=.ok (.value v) w'):(execOp a.eval o).run P w=.ok (.value v) w':=by
  unfold execOp;rw [ho]
  simp only [resolve,h.ops hx,invoke]
  exact hf _
theorem rlenS (h:Kn N l a) {x:Operand} {T E:TypeId} (ho:o.op=.call { callee:=.builtin .len,args:=#[x],argTypes:=#[T] }) {p:Option Addr} {n c:Nat} (hx:opv l x=some (.slice p n c)) (hu:P.underlying T=some (.slice E)) (w:World):(execOp a.eval o).run P w=.ok (.value (.int .i64 (n:Int))) w:=by
  refine rbuiltin h (xs:=[x]) (vs:=[.slice p n c]) ho (by simp [hx]) fun cs=>?_
  simp [builtin,Builtin.len_,underlying,hu,Sem.run_bind]
  rfl
theorem rlenB (h:Kn N l a) {x:Operand} {T:TypeId} (ho:o.op=.call { callee:=.builtin .len,args:=#[x],argTypes:=#[T] }) {s:ByteArray} (hx:opv l x=some (.string s)) (hu:P.underlying T=some .string) (w:World):(execOp a.eval o).run P w=.ok (.value (.int .i64 (s.size:Int))) w:=by
  refine rbuiltin h (xs:=[x]) (vs:=[.string s]) ho (by simp [hx]) fun cs=>?_
  simp [builtin,Builtin.len_,underlying,hu,Sem.run_bind]
  rfl

/-- numbers -/
theorem bI (b:BinOp) (T:TypeId) (x y:Operand) (k:IntKind) (i j:Int) {z:Value} (hz:(match b with | .eql=>some (Value.bool (i == j)) | .neq=>some (.bool (i != j)) | .lss=>some (.bool (decide (i<j))) | .leq=>some (.bool (decide (i≤j))) | .gtr=>some (.bool (decide (i>j))) | .geq=>some (.bool (decide (i≥j))) | .add=>some (.int k (k.wrap (i+j))) | .sub=>some (.int k (k.wrap (i-j))) | .mul=>some (.int k (k.wrap (i*j))) | _=>none)=some z) (w:World) :
    (do eqGuard b T x y (.int k i) (.int k j);binOp b T (.int k i) (.int k j):Sem Value).run P w=.ok z w:=by
  cases b<;>simp at hz<;>subst hz<;>simp [eqGuard,binOp,Op.intCmp,Op.intArith,Sem.run_bind]
theorem bAdd (T:TypeId) (x y:Operand) {i j r:Int} (e:i+j=r) (h1:-9223372036854775808≤r) (h2:r≤9223372036854775807) (w:World):(do eqGuard .add T x y (.int .i64 i) (.int .i64 j);binOp .add T (.int .i64 i) (.int .i64 j):Sem Value).run P w=.ok (.int .i64 r) w:=
  bI .add T x y .i64 i j (by subst e;show some (Value.int .i64 (IntKind.i64.wrap (i+j)))=_;rw [IntWalk.i64_in _ ⟨h1,h2⟩]) w
theorem bSub (T:TypeId) (x y:Operand) {i j r:Int} (e:i-j=r) (h1:-9223372036854775808≤r) (h2:r≤9223372036854775807) (w:World):(do eqGuard .sub T x y (.int .i64 i) (.int .i64 j);binOp .sub T (.int .i64 i) (.int .i64 j):Sem Value).run P w=.ok (.int .i64 r) w:=
  bI .sub T x y .i64 i j (by subst e;show some (Value.int .i64 (IntKind.i64.wrap (i-j)))=_;rw [IntWalk.i64_in _ ⟨h1,h2⟩]) w
theorem bMul (T:TypeId) (x y:Operand) {i j r:Int} (e:i*j=r) (h1:-9223372036854775808≤r) (h2:r≤9223372036854775807) (w:World):(do eqGuard .mul T x y (.int .i64 i) (.int .i64 j);binOp .mul T (.int .i64 i) (.int .i64 j):Sem Value).run P w=.ok (.int .i64 r) w:=
  bI .mul T x y .i64 i j (by subst e;show some (Value.int .i64 (IntKind.i64.wrap (i*j)))=_;rw [IntWalk.i64_in _ ⟨h1,h2⟩]) w
theorem bRem (T:TypeId) (x y:Operand) {i j r:Int} (hj:j≠0) (e:i.tmod j=r) (w:World):(do eqGuard .rem T x y (.int .i64 i) (.int .i64 j);binOp .rem T (.int .i64 i) (.int .i64 j):Sem Value).run P w=.ok (.int .i64 r) w:=by
  subst e;simp [eqGuard,binOp,Op.intDiv,hj,Sem.run_bind]
theorem cLt (T:TypeId) (x y:Operand) (k:IntKind) {i j:Int} {t:Bool} (ht:decide (i<j)=t) (w:World):(do eqGuard .lss T x y (.int k i) (.int k j);binOp .lss T (.int k i) (.int k j):Sem Value).run P w=.ok (.bool t) w:=
  bI .lss T x y k i j (by subst ht;rfl) w
theorem cGt (T:TypeId) (x y:Operand) (k:IntKind) {i j:Int} {t:Bool} (ht:decide (i>j)=t) (w:World):(do eqGuard .gtr T x y (.int k i) (.int k j);binOp .gtr T (.int k i) (.int k j):Sem Value).run P w=.ok (.bool t) w:=
  bI .gtr T x y k i j (by subst ht;rfl) w
theorem cLe (T:TypeId) (x y:Operand) (k:IntKind) {i j:Int} {t:Bool} (ht:decide (i≤j)=t) (w:World):(do eqGuard .leq T x y (.int k i) (.int k j);binOp .leq T (.int k i) (.int k j):Sem Value).run P w=.ok (.bool t) w:=
  bI .leq T x y k i j (by subst ht;rfl) w
theorem cGe (T:TypeId) (x y:Operand) (k:IntKind) {i j:Int} {t:Bool} (ht:decide (i≥j)=t) (w:World):(do eqGuard .geq T x y (.int k i) (.int k j);binOp .geq T (.int k i) (.int k j):Sem Value).run P w=.ok (.bool t) w:=
  bI .geq T x y k i j (by subst ht;rfl) w
theorem cEq (T:TypeId) (x y:Operand) (k:IntKind) {i j:Int} {t:Bool} (ht:decide (i=j)=t) (w:World):(do eqGuard .eql T x y (.int k i) (.int k j);binOp .eql T (.int k i) (.int k j):Sem Value).run P w=.ok (.bool t) w:=
  bI .eql T x y k i j (by subst ht;show some (Value.bool (i == j))=_;rw [show (i == j)=decide (i=j) from rfl]) w
theorem cNe (T:TypeId) (x y:Operand) (k:IntKind) {i j:Int} {t:Bool} (ht:decide (i≠j)=t) (w:World):(do eqGuard .neq T x y (.int k i) (.int k j);binOp .neq T (.int k i) (.int k j):Sem Value).run P w=.ok (.bool t) w:=
  bI .neq T x y k i j (by subst ht;show some (Value.bool (i != j))=_;rw [show (i != j)=decide (i≠j) by simp [bne];rfl]) w
/-- a pointer and nil -/
theorem eqIn_nil (d:Nat) {T E:TypeId} (hu:P.underlying T=some (.pointer E)) (p:Option Addr) (w:World):(Op.equalIn (d+1) T (.pointer p) (.pointer none)).run P w=.ok p.isNone w:=by
  cases p<;>simp [Op.equalIn,underlying,hu,Sem.run_bind]
theorem bNil (T:TypeId) {E:TypeId} (hu:P.underlying T=some (.pointer E)) (x y:Operand) (p:Option Addr) (w:World) :
    (do eqGuard .eql T x y (.pointer p) (.pointer none);binOp .eql T (.pointer p) (.pointer none):Sem Value).run P w=.ok (.bool p.isNone) w:=by
  have e:(Op.equal T (.pointer p) (.pointer none)).run P w=.ok p.isNone w:=eqIn_nil 9999 hu p w
  cases p<;>simp [eqGuard,binOp,Sem.run_bind,e]<;>rfl
theorem bNNil (T:TypeId) {E:TypeId} (hu:P.underlying T=some (.pointer E)) (x y:Operand) (p:Option Addr) (w:World) :
    (do eqGuard .neq T x y (.pointer p) (.pointer none);binOp .neq T (.pointer p) (.pointer none):Sem Value).run P w=.ok (.bool !p.isNone) w:=by
  have e:(Op.equal T (.pointer p) (.pointer none)).run P w=.ok p.isNone w:=eqIn_nil 9999 hu p w
  cases p<;>simp [eqGuard,binOp,Sem.run_bind,e]<;>rfl
theorem bStr (b:BinOp) (T:TypeId) (x y:Operand) (p q:ByteArray) {z:Bool} (hz:(match b with | .eql=>some (p.toList == q.toList) | .neq=>some (!(p.toList == q.toList)) | .lss=>some (Op.bytesLess p.toList q.toList) | .geq=>some (!Op.bytesLess p.toList q.toList) | .leq=>some (Op.bytesLess p.toList q.toList||p.toList == q.toList) | .gtr=>some (!(Op.bytesLess p.toList q.toList||p.toList == q.toList)) | _=>none)=some z) (w:World) :
    (do eqGuard b T x y (.string p) (.string q);binOp b T (.string p) (.string q):Sem Value).run P w=.ok (.bool z) w:=by
  cases b<;>simp only [Option.some.injEq,reduceCtorEq] at hz<;>subst hz<;>simp [eqGuard,binOp,Op.stringOp,Sem.run_bind]
/-- loads -/
theorem isAgg_no {T:TypeId} {k:TypeDesc} (hu:P.underlying T=some k) (hk:k.isRow=false) (w:World):(isAgg T).run P w=.ok false w:=by
  unfold isAgg
  simp [underlying,hu,Sem.run_bind]
  cases k<;>simp_all
theorem ldB {T:TypeId} {k:TypeDesc} (hu:P.underlying T=some k) (hk:k.isRow=false) {g e off:Nat} {L:List Value} {v:Value} (h:Blk w g e L) (hv:L[off]? = some v):(Instr.loadAt T (.pointer (some ⟨g,off,none⟩))).run P w=.ok v w:=by
  obtain ⟨h1,h2⟩:=List.getElem?_eq_some_iff.1 hv
  have hc:=h.cell h1
  rw [h2] at hc
  simp [Instr.loadAt,Instr.sureAddr,loadVar,Sem.run_bind,isAgg_no hu hk,hc]
theorem ldC {T:TypeId} {k:TypeDesc} (hu:P.underlying T=some k) (hk:k.isRow=false) {g off:Nat} {v:Value} (hc:w.cell? ⟨g,off,none⟩=some v):(Instr.loadAt T (.pointer (some ⟨g,off,none⟩))).run P w=.ok v w:=by
  simp [Instr.loadAt,Instr.sureAddr,loadVar,Sem.run_bind,isAgg_no hu hk,hc]
theorem ldA {T:TypeId} {k:TypeDesc} (hu:P.underlying T=some k) (hk:k.isRow=true) {g e off n:Nat} {L cs:List Value} (hn:(P.info? T).map (·.size)=some n) (h:Blk w g e L) (hv:(L.drop off).take n=cs) (hl:cs.length=n):(Instr.loadAt T (.pointer (some ⟨g,off,none⟩))).run P w=.ok (.agg cs.toArray) w:=by
  refine run_loadAt_mid w g off T cs k (fun j v hj=>?_) hu hk (by rw [hl];exact hn)
  rw [← hv,List.getElem?_take] at hj
  split at hj
  · rw [List.getElem?_drop] at hj
    obtain ⟨h1,h2⟩:=List.getElem?_eq_some_iff.1 hj
    rw [h.cell h1,h2]
  · cases hj
/-- an element's place -/
theorem ixS {T E:TypeId} (hu:P.underlying T=some (.slice E)) {sz:Nat} (hsz:(P.info? E).map (·.size)=some sz) {b n c j:Nat} {k:IntKind} {i:Int} (hi:i=(j:Int)) (hj:j<n) {o:Nat} (ho:j*sz=o) (w:World):(Instr.indexAt T (.slice (some ⟨b,0,none⟩) n c) (.int k i)).run P w=.ok (.pointer (some ⟨b,o,none⟩)) w:=by
  subst hi;subst ho
  have d0:(j:Int)<(n:Int):=by omega
  have d1:0≤(j:Int):=by omega
  cases hq:P.info? E with
  | none=>simp [hq] at hsz
  | some q=>
    have hs:q.size=sz:=by simpa [hq] using hsz
    simp [Instr.indexAt,asIntOf,underlying,hu,Sem.run_bind,sizeOf,typeInfo,hq,hs,hj]
    unfold Addr.add
    split
    · simp_all
    · simp
end
end Go.Proofs.YtpdjnefgkcmdnaaGreatDoor
